import PyProof.Rows.All
import KE.KIsAll
import OpenK.KLine
import KE.KItem
import OpenK.KRaise
import OpenK.KOwn
import KE.LcSums
import KE.KSortAsk
import KE.KTryMore
import KE.KItemsList
import KE.KSortTup
import Lean
import PyProof.EqAt
import PyProof.EqKinds
import PyProof.TupleCall
import PySem.Challenge.RW_atonce_k15_whole_nobody_lost
set_option compiler.extract_closed false
set_option Elab.async false
set_option linter.all false
set_option maxRecDepth 100000
set_option maxHeartbeats 4000000
abbrev aA:=@List.length_map
abbrev aB:=@PySem.wpAny_bind
abbrev aC:=@if_pos
abbrev aD:=@PySem.wpAny_pure
abbrev aE:=@if_neg
abbrev aF:=@List.length_filter_le
abbrev aG:=@List.getElem?_eq_some_iff
abbrev aH:=@Bool.false_ne_true
abbrev aI:=@PySem.Heap.get?_push_of_some
abbrev aJ:=@decide_eq_false
abbrev aK:=@List.lookup_cons
abbrev aL:=@List.mem_filter
abbrev aM:=@Nat.le_refl
abbrev aN:=@List.getElem?_eq_getElem
abbrev aO:=@List.mem_map
abbrev aP:=@PySem.Heap.lt_size
abbrev aQ:=@Array.length_toList
abbrev aR:=@List.getD_eq_getElem?_getD
abbrev aS:=@List.length_append
abbrev aT:=@List.mem_cons
abbrev aU:=@List.map_cons
abbrev aV:=@Option.isSome_iff_exists
abbrev aW:=@beq_eq_false_iff_ne
abbrev aX:=@List.contains_iff_mem
abbrev aY:=@List.map_map
abbrev aZ:=@PySem.Heap.get?_push_size
abbrev bA:=@List.getElem?_append_left
abbrev bB:=@Nat.ne_of_lt
abbrev bC:=@List.getElem?_map
abbrev bD:=@of_decide_eq_true
abbrev bE:=@List.size_toArray
abbrev bF:=@Nat.le_trans
abbrev bG:=@List.length_cons
abbrev bH:=@Bool.and_eq_true_iff
abbrev bI:=@Nat.lt_of_lt_of_le
abbrev bJ:=@decide_eq_true
abbrev bK:=@List.map_append
abbrev bL:=@List.getElem?_append_right
abbrev bM:=@List.mem_of_getElem?
abbrev bN:=@List.getElem?_set_ne
abbrev bO:=@List.mem_range
abbrev bP:=@List.append_assoc
abbrev bQ:=@Array.getD_eq_getD_getElem?
abbrev bR:=@List.getElem?_eq_none
abbrev bS:=@List.filter_eq_self
abbrev bT:=@Option.some.inj
abbrev bU:=@List.pairwise_cons
abbrev bV:=@List.getElem?_set_self
abbrev bW:=@List.filter_sublist
abbrev bX:=@decide_eq_true_iff
abbrev bY:=@List.mem_append_right
abbrev bZ:=@Array.getElem?_eq_getElem
abbrev ce:=@List.append_nil
abbrev cf:=@Bool.and_eq_true
abbrev cg:=@List.pairwise_map
abbrev cj:=@List.nodup_append
abbrev ck:=@Int.toNat_natCast
abbrev cp:=@List.set_append_right
abbrev cq:=@PySem.mem_of_lookup
abbrev cu:=@List.length_range
abbrev cv:=@PySem.Heap.get?_update_self
abbrev cw:=@PySem.Heap.SameBut.update
abbrev cx:=@congrArg
abbrev cy:=@PySem.wpAny_mono
abbrev cz:=@Nat.zero_le
abbrev cA:=@PySem.sizeLine_eq
abbrev cB:=@List.find?_cons
abbrev cC:=@List.map_congr_left
abbrev cD:=@List.filterMap_cons
abbrev cE:=@PySem.wpAny_holding
abbrev cF:=@Ne.symm
abbrev cG:=@PySem.wpAny_setState_of
abbrev cH:=@List.nodup_cons
abbrev cI:=@List.length_nil
abbrev cJ:=@List.filter_cons
abbrev cK:=@List.replicate_succ
abbrev cL:=@PySem.Heap.get?_update_other
abbrev cM:=@forall_congr
abbrev cN:=@List.mem_singleton
abbrev cO:=@List.mem_cons_of_mem
abbrev cP:=@Nat.lt_irrefl
abbrev cQ:=@Option.map_eq_some_iff
abbrev cR:=@Bool.not_eq_true
abbrev cS:=@PySem.F.called_set
abbrev cU:=@List.mem_cons_self
abbrev cV:=@PySem.Obj.data_mapFields
abbrev cW:=@Nat.lt_succ_of_lt
abbrev cX:=@List.ext_getElem?
abbrev cY:=@List.range_succ
abbrev cZ:=@List.mem_append
abbrev da:=@List.length_set
abbrev db:=@List.getElem?_range
abbrev dc:=@List.any_cons
abbrev de:=@List.all_eq_true
abbrev df:=@beq_iff_eq
abbrev dh:=@PySem.F.slot_dict_get
abbrev dm:=@PySem.wpAny_isInstance
abbrev dq:=@PySem.wpAny_askSetting
abbrev dr:=@List.pairwise_iff_getElem
abbrev du:=@Nat.le_succ
abbrev dv:=@List.foldl_append
abbrev dw:=@List.flatten_cons
abbrev dy:=@List.filter_congr
abbrev dA:=@List.getElem?_of_mem
abbrev dB:=@List.Perm.refl
abbrev dC:=@PySem.wpAny_newObj_type
abbrev dD:=@List.getElem?_replicate
abbrev dE:=@Array.eq_empty_of_size_eq_zero
abbrev dF:=@List.filter_append
abbrev dG:=@Int.emod_lt_of_pos
abbrev dH:=@PySem.Heap.size_push
abbrev dI:=@PySem.wpAny_call_entry
abbrev dJ:=@List.cons.inj
abbrev dL:=@List.length_replicate
abbrev dM:=@PySem.tupleKind_room_in1
abbrev dN:=@PySem.wpAny_passesOwn
abbrev dO:=@Array.getElem?_eq_some_iff
abbrev dP:=@Nat.ne_of_gt
abbrev dQ:=@Nat.lt_succ_self
abbrev dR:=@List.getElem_mem
abbrev dS:=@List.any_eq_true
abbrev dU:=@PySem.wpAny_truthy_bool
abbrev dW:=@PyProof.Rows.F.plain_set_update_loop
abbrev dX:=@PySem.Around.under_plainId
abbrev dY:=@PyProof.Rows.boot_sorted
abbrev dZ:=@List.filterMap_cons_some
abbrev d0:=@Nat.not_lt_zero
abbrev d3:=@Nat.lt_succ_iff
abbrev d4:=@PySem.codeAny_mono
abbrev d5:=@List.filter_filter
abbrev d6:=@Bool.false_eq_true
abbrev d7:=@Prod.mk.inj
abbrev d8:=@Nat.add_sub_cancel_left
abbrev d9:=@Nat.zero_add
abbrev en:=@Nat.succ_pos
abbrev er:=@Nat.le_of_lt
abbrev et:=@bne_self_eq_false
abbrev eA:=@PySem.F.entry_dict_get
abbrev eB:=@PySem.codeAny_builtin
abbrev eC:=@Nat.le_add_right
abbrev eD:=@PySem.filterMap_getElem?_range
abbrev eE:=@PySem.wpAny_setField
abbrev eF:=@PySem.isSubtype_type
abbrev eG:=@PySem.wpAny_storeSet_of
abbrev eI:=@List.mem_append_left
abbrev eJ:=@PySem.Calls.callWith_builtin
abbrev eK:=@Array.getElem_toList
abbrev eL:=@Option.map_some
abbrev eM:=@Int.emod_nonneg
abbrev eN:=@Bool.or_eq_true
abbrev eO:=@Bool.eq_iff_iff
abbrev eP:=@PySem.Obj.isFreed_of_fields
abbrev eQ:=@Nat.sub_self
abbrev eR:=@List.set_set
abbrev eS:=@Nat.mod_lt
abbrev eT:=@List.find?_eq_none
abbrev eU:=@List.contains_cons
abbrev eV:=@PySem.Calls.evalArgs_plain
abbrev eW:=@PySem.wpAny_ite_split
abbrev eX:=@List.drop_eq_getElem_cons
abbrev eY:=@Classical.byContradiction
abbrev eZ:=@PySem.wpAny_setEntries_of
abbrev ff:=@List.any_eq_false
abbrev fg:=@Bool.not_eq_true'
abbrev fh:=@Bool.not_true
abbrev fj:=@Bool.false_or
abbrev fm:=@List.filterMap_cons_none
abbrev fq:=@PySem.wpAny_Call_Name_kw
abbrev fr:=@List.not_mem_nil
abbrev fu:=@List.nodup_range
abbrev fw:=@List.length_take
abbrev fF:=@List.isEmpty_nil
abbrev fG:=@PySem.Calls.spliced_cons
abbrev fI:=@PySem.F.plainAttrs_list
abbrev fJ:=@PySem.F.plainAttrs_dict
abbrev fK:=@List.pairwise_singleton
abbrev fL:=@List.length_eq_zero_iff
abbrev fM:=@List.filter_append_perm
abbrev fO:=@List.map_set
abbrev fP:=@List.pairwise_lt_range
abbrev fQ:=@Array.toList_filterMap
abbrev fR:=@Array.getElem?_eq_none
abbrev fS:=@PySem.wpAny_setEpoch_of
abbrev fT:=@PySem.Value.isInt_shape
abbrev fU:=@PySem.PassesOwn.leaving
abbrev fV:=@List.nil_append
abbrev fW:=@List.filter_nil
abbrev fX:=@PySem.plainId_quiet
abbrev fY:=@List.take_append_drop
abbrev fZ:=@List.length_singleton
abbrev f6:=@List.filterMap_append
abbrev f7:=@Array.getElem?_toList
abbrev f8:=@Sum.inl.inj
abbrev f9:=@List.nodup_nil
abbrev gc:=@Array.size_map
abbrev ge:=@PySem.intKind_is
abbrev gf:=@PySem.wpAny_typeOf
abbrev gh:=@PySem.call_meetsIn
abbrev gn:=@PySem.W.plainGet_of
abbrev gp:=@PySem.W.hideAll_get
abbrev gq:=@PyProof.Rows.F.entry_set_update_loop
abbrev gu:=@PySem.wpAny_execs_nil
abbrev gv:=@List.all_cons
abbrev gw:=@Nat.not_lt
abbrev gx:=@PySem.builtinLookup_eq_fast
abbrev gy:=@PySem.W.callWith_K
abbrev gz:=@Option.isSome_some
abbrev gA:=@Nat.add_right_comm
abbrev gB:=@List.mem_filterMap
abbrev gC:=@List.length_range'
abbrev gD:=@Option.isSome_map
abbrev gE:=@Nat.le_succ_of_le
abbrev gF:=@List.getElem?_set
abbrev gG:=@Option.getD_some
abbrev gH:=@List.range'_succ
abbrev gI:=@List.drop_length
abbrev gJ:=@Array.toList_inj
abbrev gK:=@PySem.Paired.length
abbrev gL:=@List.eq_nil_of_length_eq_zero
abbrev gM:=@List.of_mem_zip
abbrev gP:=@List.foldl_cons
abbrev gQ:=@List.find?_some
abbrev gR:=@PyProof.Rows.callWith_type1
abbrev gS:=@PySem.wpAny_pyIter_list
abbrev gT:=@PySem.wpAny_pyIter_dict
abbrev gW:=@PySem.wpAny_dictEntries
abbrev gX:=@List.take_left
abbrev gY:=@PySem.Calls.spliced_nil
abbrev gZ:=@Array.perm_iff_toList_perm
abbrev g6:=PySem.Value->PySem.Shared->Prop
abbrev g7:=PySem.Str->Option PySem.Value
abbrev g8:=PySem.W.Frag
abbrev g9:=List (PySem.Addr × PySem.Obj)
abbrev hV:=List (PySem.Str × PySem.Addr)
abbrev hX:=List (Option Int)
abbrev hY:=List (Int × Int)
abbrev hZ:=List (List Int)
abbrev h8:=List PySem.Addr
abbrev iA:=List PySem.Value
abbrev iB:=List Int
abbrev iC:=List Nat
abbrev iD:=List PySem.Str
abbrev iE:=List PySem.Expr
abbrev iF:=List Bool
abbrev iG:=Option PySem.Value
namespace L2
open PySem
def Yv(s:Stmt)(j:Nat):Stmt:=match s with
 |.ClassDef _ _ _ body _ _ _ _ _ _ _=>body.getD j (.Pass ⟨0,0,0,0⟩)
 |_=>.Pass ⟨0,0,0,0⟩
def QW(s:Stmt):Arguments:=match s with
 |.FunctionDef _ a _ _ _ _ _ _ _ _=>a
 |_=>{posonlyargs:=[],args:=[],vararg:=none,kwonlyargs:=[],kw_defaults:=[],kwarg:=none,defaults:=[]}
def UD(s:Stmt):List Stmt:=match s with
 |.FunctionDef _ _ b _ _ _ _ _ _ _=>b
 |_=>[]
def YF(s:Stmt):Scope:=match s with
 |.FunctionDef _ _ _ _ _ _ sc _ _ _=>sc
 |_=>{kind:=.function,names:=[],isGenerator:=false,isCoroutine:=false}
def tyL:Value->Bool
 |.type s=>s == "list"
 |_=>false
def notL(K:g8):Bool:=K.all λp=>!tyL p.2.cls
def sevenT:List String:=["NoneType","bool","int","str","list","tuple","dict"]
end L2
namespace MP
noncomputable section
open PySem L2
def top(i:Nat):Stmt:=PySem.Challenge.pw_atonce_k15_whole_nobody_lost.main.body.getD i (.Pass ⟨0,0,0,0⟩)
abbrev st_0:Stmt:=top 45
abbrev st_1:Stmt:=top 47
abbrev st_2:Stmt:=top 48
abbrev st_3:Stmt:=top 49
abbrev st_4:Stmt:=top 50
abbrev st_5:Stmt:=top 51
abbrev st_6:Stmt:=top 56
abbrev st_7:Stmt:=Yv (top 40) 0
abbrev st_8:Stmt:=Yv (top 40) 1
abbrev st_9:Stmt:=Yv (top 40) 2
abbrev Ad:Stmt:=top 52
abbrev AY:Stmt:=Yv (top 10) 0
abbrev AI:Stmt:=Yv (top 10) 1
abbrev Au:Stmt:=top 53
abbrev A3:Stmt:=Yv (top 43) 0
abbrev Aj:Stmt:=Yv (top 10) 2
abbrev Aw:Stmt:=Yv (top 10) 3
abbrev AX:Stmt:=Yv (top 43) 1
abbrev st_18:Stmt:=Yv (top 43) 7
abbrev B8:Stmt:=Yv (top 40) 3
abbrev st_20:Stmt:=Yv (top 43) 8
abbrev st_21:Stmt:=Yv (top 43) 2
abbrev Av:Stmt:=Yv (top 43) 3
abbrev st_23:Stmt:=top 54
abbrev BY:Stmt:=top 55
abbrev AZ:Stmt:=Yv (top 43) 6
abbrev st_26:Stmt:=Yv (top 43) 5
abbrev An:Stmt:=Yv (top 10) 5
abbrev A4:Stmt:=Yv (top 43) 4
abbrev AJ:Stmt:=top 12
abbrev Am:Stmt:=top 13
abbrev As:Stmt:=top 14
abbrev st_32:Stmt:=top 15
abbrev B4:Stmt:=top 16
abbrev AQ:Stmt:=top 17
abbrev A9:Stmt:=top 25
abbrev AN:Stmt:=top 26
abbrev AF:Stmt:=top 18
abbrev AK:Stmt:=top 27
abbrev Ao:Stmt:=top 19
abbrev Ag:Stmt:=top 28
abbrev AM:Stmt:=top 29
abbrev Ar:Stmt:=top 30
abbrev st_43:Stmt:=top 31
abbrev A0:Stmt:=top 32
abbrev Af:Stmt:=top 35
abbrev Ac:Stmt:=top 34
abbrev AH:Stmt:=Yv (top 36) 0
abbrev AG:Stmt:=Yv (top 36) 2
abbrev st_49:Stmt:=Yv (top 36) 1
abbrev Ax:Stmt:=top 59
abbrev BX:Stmt:=top 58
abbrev st_52:Stmt:=top 57
abbrev B6:Stmt:=Yv (top 36) 5
abbrev B5:Stmt:=Yv (top 40) 4
abbrev AE:Stmt:=Yv (top 36) 4
abbrev AS:Stmt:=top 37
abbrev st_57:Stmt:=top 38
abbrev Ea:Stmt:=top 60
def Tq(as:h8)(h:Heap):W.Frag:=as.filterMap λa=>(h.get? a).map λo=>(a,o)
def NB(h:Heap):∀as:h8,(Tq as h).In h
 |[],_,_,e=>by simp[Tq]at e
 |a::as,b,o,e=>by
  have ih:=NB h as b o;unfold Tq at e ih;cases hg:h.get? a with
  |none=>simp only[cD,hg,Option.map_none]at e;exact ih e
  |some v=>
   simp only[cD,hg,eL,aK]at e;by_cases hb:b=a
   ·subst hb;simp at e;rw[hg,e]
   ·have:(b == a)=false:=by simpa using hb
    rw[this]at e;exact ih e
def nth{α:Type}:List α->Nat->Option α
 |[],_=>none
 |a::_,0=>some a
 |_::l,n+1=>nth l n
def nrm(f:FuncData):FuncData:={f with kwdefaults:=.none,doc:=.none,pyModule:=.none,annotations:=none,code:=.none,closureTuple:=.none}
def fnV(K:W.Frag)(f:Addr)(q:Str):Option (FuncData × Bool):=match K.lookup f with
 |some ⟨_,_,.func d,_⟩=>some (nrm d,W.codeIn K d.code q)
 |_=>none
def obK(K:W.Frag)(f:Addr):Obj:=(K.lookup f).getD default
def fdK(K:W.Frag)(f:Addr):FuncData:=match (obK K f).data with|.func d=>d|_=>default
def CB{K:W.Frag}{f:Addr}{q n q':Str}{a:Arguments}{b:List Stmt}{s:Scope}(h:fnV K f q=some (nrm (W.fnOf n q' a b s .none .none .none .none none .none .none),true)):K.lookup f=some ⟨(obK K f).cls,(obK K f).dict,.func (W.fnOf n q' a b s .none (fdK K f).kwdefaults (fdK K f).doc (fdK K f).pyModule (fdK K f).annotations (fdK K f).code (fdK K f).closureTuple),(obK K f).slots⟩∧W.codeIn K (fdK K f).code q=true:=by
 unfold fnV at h;cases hl:K.lookup f with
 |none=>rw[hl]at h;cases h
 |some v=>
  obtain⟨c,d,dt,sl⟩:=v;rw[hl]at h;cases dt with
  |func fd=>
   obtain⟨h1,h2⟩:=d7 (bT h);have e1:obK K f=⟨c,d,.func fd,sl⟩:=by simp[obK,hl]
   have e2:fdK K f=fd:=by simp[fdK,e1]
   rw[e2,e1];refine⟨?_,h2⟩;obtain⟨x1,x2,x3,x4,x5,x6,x7,x8,x9,oE,oF,oG,oH,oI,oJ⟩:=fd;unfold nrm at h1;injection h1 with y1 y2 y3 y4 y5 y6 y7 y8 _ _ _ _ _ _ y15
   dsimp only at y1 y2 y3 y4 y5 y6 y7 y8 y15;subst y1 y2 y3 y4 y5 y6 y7 y8 y15;rfl
  |_=>cases h
def Bv(x:Option (iG)):Option Int:=match x with|some (some (.int i _))=>some i|_=>none
def int_l{x:Option (iG)}{i:Int}(h:Bv x=some i):∃t,x=some (some (.int i t)):=by
 unfold Bv at h;split at h
 ·cases h;exact⟨_,rfl⟩
 ·cases h
def tupV(K:W.Frag)(a:Addr):Option (String × Str):=match K.lookup a with
 |some ⟨.type t,_,.seq vs _,_⟩=>(match vs.toList with|[.str x _]=>some (t,x)|_=>none)
 |_=>none
def tup_l{K:W.Frag}{a:Addr}{t:String}{x:Str}(h:tupV K a=some (t,x)):∃od n tk sl,K.lookup a=some ⟨.type t,od,.seq #[.str x tk] n,sl⟩:=by
 unfold tupV at h;split at h
 ·rename_i od vs n sl hl
  split at h
  ·rename_i y tk hv
   cases h;have:vs=#[.str x tk]:=gJ.mp (by rw[hv]);subst this;exact⟨_,_,_,_,hl⟩
  ·cases h
 ·cases h
abbrev yRF:Type:=Option Addr × Str × Addr × Str × Stmt
abbrev yRN:Type:=Option Addr × Str × iG
abbrev yTF:Type:=Option (iG) × Bool × Option (FuncData × Bool)
abbrev yrG(n:Str)(f:Addr)(s:Stmt):yRF:=(none,n,f,n,s)
abbrev yrM(C:Addr)(n:Str)(f:Addr)(q:Str)(s:Stmt):yRF:=(some C,n,f,q,s)
abbrev ynC(n:Str)(a:Addr):yRN:=(none,n,some (.ref a))
abbrev ynS(C:Addr):yRN:=(some C,"__setattr__",some (.builtin "object.__setattr__"))
abbrev ynD(C:Addr)(n:Str):yRN:=(some C,n,none)
abbrev ynZ(n:Str):yRN:=(none,n,none)
def ylk(K:W.Frag)(C:Option Addr)(n:Str):Option (iG):=match C with
 |none=>W.nsIn K mainGlobals n
 |some C=>W.findIn K (.ref C) n
def J3(K:W.Frag):List yRF->List yTF
 |[]=>[]
 |(C,n,f,q,_)::l=>(ylk K C n,W.isFn K (.ref f)&&W.keepIn K (.ref f),fnV K f q)::J3 K l
def JD(r:yRF):yTF:=(some (some (.ref r.2.2.1)),true,some (nrm (W.fnOf r.2.1 r.2.2.2.1 (QW r.2.2.2.2) (UD r.2.2.2.2) (YF r.2.2.2.2) .none .none .none .none none .none .none),true))
def EA(K:W.Frag):List yRN->List (Option (iG))
 |[]=>[]
 |(C,n,_)::l=>ylk K C n::EA K l
def yobB(K:W.Frag)(cs es:h8):Bool:=cs.all (λC=>W.plainGet K C Str.empty&&(W.hasDictIn K C&&(W.plainOver K C&&(W.makesIn K C&&W.keepIn K (.ref C)))))&&(es.all (λC=>W.excIn K C [.type "ValueError",.type "Exception",.type "BaseException",.type "object"] "ValueError.__new__")&&notL K)
def CF(K:W.Frag):List (Str × Int)->List (Option Int)
 |[]=>[]
 |(n,_)::l=>Bv (W.nsIn K mainGlobals n)::CF K l
def ytF:List yRF:=[yrG "_law_cell_at" 454 st_0,yrG "_law_frame" 468 st_1,yrG "_law_links" 473 st_2,yrG "_law_sides" 480 st_3,yrG "_law_order_by" 485 st_4,yrG "_law_orders" 490 st_5,yrG "_law_world" 523 st_6,yrM 367 "__init__" 338 "Map.__init__" st_7,yrM 367 "need_place" 345 "Map.need_place" st_8,yrM 367 "link" 352 "Map.link" st_9,yrG "_law_chart" 497 Ad,yrM 146 "__init__" 108 "Board.__init__" AY,yrM 146 "post" 115 "Board.post" AI,yrG "_law_board" 504 Au,yrM 443 "__init__" 386 "Orders.__init__" A3,yrM 146 "side_at" 122 "Board.side_at" Aj,yrM 146 "need_unit" 129 "Board.need_unit" Aw,yrM 443 "stand" 393 "Orders.stand" AX,yrM 443 "need_all" 433 "Orders.need_all" st_18,yrM 367 "beside" 359 "Map.beside" B8,yrM 443 "need_beside" 440 "Orders.need_beside" st_20,yrM 443 "move" 400 "Orders.move" st_21,yrM 443 "aid" 407 "Orders.aid" Av,yrG "_law_give" 511 st_23,yrG "_law_given" 518 BY,yrM 443 "goal_of" 426 "Orders.goal_of" AZ,yrM 443 "movers" 419 "Orders.movers" st_26,yrM 146 "roll" 143 "Board.roll" An,yrM 443 "told" 414 "Orders.told" A4,yrG "is_cut" 155 AJ,yrG "fits" 162 Am,yrG "counts" 169 As,yrG "backs" 176 st_32,yrG "backing" 181 B4,yrG "force" 188 AQ,yrG "weigh_movers" 207 A9,yrG "is_outdone" 212 AN,yrG "force_against" 193 AF,yrG "overcomes" 219 AK,yrG "firmness" 200 Ao,yrG "hindrance" 226 Ag,yrG "hindrances" 233 AM,yrG "fault" 240 Ar,yrG "strikes" 245 st_43,yrG "settled" 250 A0,yrG "units_after" 262 Af,yrG "posted_board" 257 Ac,yrM 308 "__init__" 274 "Turn.__init__" AH,yrM 308 "aside" 286 "Turn.aside" AG,yrM 308 "done" 281 "Turn.done" st_49,yrG "_law_pushed" 540 Ax,yrG "_law_stands" 533 BX,yrG "_law_sorted" 528 st_52,yrM 308 "need_aside" 305 "Turn.need_aside" B6,yrM 367 "near" 364 "Map.near" B5,yrM 308 "may_go" 298 "Turn.may_go" AE,yrG "check_told" 319 AS,yrG "after" 324 st_57,yrG "law" 545 Ea]
def ytN:List yRN:=[ynC "Board" 146,ynS 146,ynD 146 "chart",ynD 146 "units",ynC "Map" 367,ynS 367,ynD 367 "links",ynD 367 "size",ynC "Orders" 443,ynS 443,ynD 443 "board",ynD 443 "given",ynC "Turn" 308,ynS 308,ynD 308 "board",ynD 308 "closed",ynD 308 "comers",ynD 308 "goals",ynD 308 "pushed",ynC "Crowded" 68,ynC "NoPlace" 44,ynC "NoSide" 56,ynC "NoUnit" 80,ynC "OutOfReach" 92,ynC "STAND" 372,ynZ "any",ynZ "len",ynZ "max",ynZ "min",ynZ "range",ynZ "set",ynZ "sorted"]
def ytI:List (Str × Int):=[("FACED",2),("FREE",0),("HELD",3),("LAST_SIDE",7),("RIVAL",1)]
abbrev OT:Type:=List yTF × List (Option (iG)) × Bool × hX × Option (String × Str)
def Im(K:W.Frag):OT:=(J3 K ytF,EA K ytN,yobB K [146,367,443,308] [68,44,56,80,92],CF K ytI,tupV K 372)
def BS:OT:=(ytF.map JD,ytN.map λr=>some r.2.2,true,ytI.map λr=>some r.2,some ("tuple","stand"))
def GK(K:W.Frag):Prop:=Im K=BS
def asK:h8:=[2,3,15,17,18,20,21,22,29,30,31,32,35,42,43,44,47,54,55,56,59,66,67,68,71,78,79,80,83,90,91,92,102,104,105,107,108,109,111,112,114,115,116,118,119,121,122,123,125,126,128,129,130,132,133,135,136,137,139,140,142,143,144,145,146,147,148,151,154,155,156,158,159,161,162,163,165,166,168,169,170,172,173,175,176,177,180,181,182,184,185,187,188,189,192,193,194,196,197,199,200,201,203,204,206,207,208,211,212,213,215,216,218,219,220,222,223,225,226,227,229,230,232,233,234,236,237,239,240,241,244,245,246,249,250,251,253,254,256,257,258,261,262,270,273,274,275,277,278,280,281,282,285,286,287,289,290,292,293,294,297,298,299,301,302,304,305,306,307,308,309,310,313,315,316,318,319,320,323,324,332,334,335,337,338,339,341,342,344,345,346,348,349,351,352,353,355,356,358,359,360,363,364,365,366,367,368,369,372,380,382,383,385,386,387,389,390,392,393,394,396,397,399,400,401,403,404,406,407,408,410,411,413,414,415,418,419,420,422,423,425,426,427,429,430,432,433,434,436,437,439,440,441,442,443,444,445,448,450,451,453,454,462,464,465,467,468,469,472,473,474,476,477,479,480,481,484,485,486,489,490,491,493,494,496,497,498,500,501,503,504,505,507,508,510,511,512,514,515,517,518,519,522,523,524,527,528,529,532,533,534,536,537,539,540,541,544,545]
def hook:W.Hook:=⟨OT,λs=>Im (Tq asK s.heap),λ_=>BS,λ_ h=>∃K:W.Frag,K.In h∧GK K,λ_ s e=>⟨_,NB s.heap asK,e⟩,λ_ _ _ ⟨K,x,g⟩ k=>⟨K,W.Frag.In.keeps x k,g⟩⟩
def view:Program:={PySem.Challenge.pw_atonce_k15_whole_nobody_lost with main:={PySem.Challenge.pw_atonce_k15_whole_nobody_lost.main with body:=[top 0,top 2,top 3,top 4,top 5,top 6,top 7,top 9,top 10,top 12,top 13,top 14,top 15,top 16,top 17,top 18,top 19,top 21,top 22,top 23,top 24,top 25,top 26,top 27,top 28,top 29,top 30,top 31,top 32,top 34,top 35,top 36,top 37,top 38,top 40,top 42,top 43,top 45,top 46,top 47,top 48,top 49,top 50,top 51,top 52,top 53,top 54,top 55,top 56,top 57,top 58,top 59,top 60]}}
def Q5{α β γ:Type}{x:Option α}{f:α->β}{g:α->γ}{a:β}{b:γ}(h1:x.map f=some a)(h2:x.map g=some b):x.map (λs=>(f s,g s))=some (a,b):=by
 cases x with
 |none=>cases h1
 |some v=>simp only[eL,Option.some.injEq]at h1 h2 ⊢;rw[h1,h2]
def Xt(s:Shared):Bool:=W.xlAt view [] s&&W.recOk (W.RowW.records PySem.Challenge.rw_atonce_k15_whole_nobody_lost.row.toRowW) s
def rT(tb:String->Option Builtin)(q:Program)(v:World)(m:Nat)(an:iG):Nat->W.SharedT->Thread->Option W.SharedT
 |0,_,_=>none
 |i+1,x,y=>match W.through y with
  |true=>some x
  |false=>match W.stepOk m an y with
   |false=>none
   |true=>match W.stepT (denote tb) q v x y with
    |some (x',y')=>rT tb q v m an i x' y'
    |none=>none
def AW{tb:String->Option Builtin}{q:Program}{v:World}{m:Nat}{an:iG}:∀{i:Nat} {x x':W.SharedT} {y:Thread},rT tb q v m an i x y=some x'->W.topRun tb q v m an i x.abs y=some x'.abs
 |0,_,_,_,h=>by cases h
 |i+1,x,x',y,h=>by
  unfold rT at h;unfold W.topRun;cases ht:W.through y with
  |true=>rw[ht]at h;cases h;rfl
  |false=>
   rw[ht]at h;cases hk:W.stepOk m an y with
   |false=>rw[hk]at h;cases h
   |true=>
    rw[hk]at h;cases hs:W.stepT (denote tb) q v x y with
    |none=>rw[hs]at h;cases h
    |some r=>obtain⟨x2,y2⟩:=r;rw[hs]at h;rw[W.stepT_spec hs];exact AW h
def IF:List Obj->Nat->W.BT->Option W.BT
 |[],_,t=>some t
 |o::l,n,t=>match ((t.ins n o).get n).isSome with
  |true=>IF l (n+1) (t.ins n o)
  |false=>none
def Ks{lf:Life}:∀{l:List Obj} {n:Nat} {t t':W.BT},IF l n t=some t'->(W.absHeap t' (n+l.length) lf).objs.toList=(W.absHeap t n lf).objs.toList++l
 |[],n,t,t',h=>by cases h;simp
 |o::l,n,t,t',h=>by
  unfold IF at h;split at h
  ·rename_i e
   have ih:=Ks (lf:=lf) h;rw[W.absHeap_ins e]at ih;have:n+(o::l).length=n+1+l.length:=by simp;omega
   rw[this,ih];show((W.absHeap t n lf).objs.push o).toList++l=_;simp
  ·cases h
def goT(q:Program)(v:World)(m:Nat)(an:iG)(i:Nat)(os:OsState):Option W.SharedT:=
 (IF (W.boot_heap v.params).objs.toList 0 .nil).bind λt=>rT treeTable q v m an i ⟨t,m,(W.boot_heap v.params).life,Array.mk [],W.boot_drawn,W.boot_toks,os⟩ (W.topStub q)
def okT(q:Program)(v:World)(s:Shared):Bool:=W.staticsOk (PySem.importedModules q.main.body) (W.boot_heap v.params) s.heap&&W.namesBound q s.heap&&W.gensDone s&&W.laidKept (W.boot_heap v.params) s.heap
def leftT{p q:Program}{loose:iD}{Xt:Shared->Bool}{α:Type}{Yf:Shared->α}{Ya:World->α}{N m:Nat}{an:iG}(e:W.opening p=W.plainProg p.main.scope.names) (hN:Nat.ble 600 N=true) (f:∀s,fenceModules? p s=some s)(z:∀w:World,((W.boot_heap w.params).isNs mainGlobals,(W.boot_heap w.params).objs.toList.length,(W.boot_heap w.params).nsMap mainGlobals "__annotations__")=(true,m,an))(run:∀(w:World) (os:OsState),(goT p w m an N os).map (λx=>(okT p w x.abs,W.openSeen q loose (PySem.importedModules p.main.body) Xt true x.abs,Yf x.abs))=some (true,W.openGood q loose,Ya w)):W.LeftO p q loose Xt Yf Ya N:=λw=>by
 obtain⟨⟨h,gs,d,k,os⟩,o,o'⟩:=cQ.mp (W.boot_open e hN f w);obtain⟨rfl,rfl,rfl,rfl⟩:h=W.boot_heap w.params∧gs=Array.mk []∧d=W.boot_drawn∧k=W.boot_toks:=by simpa using o'
 obtain⟨z1,z2,z3⟩:_∧_∧_:=by simpa only [Prod.mk.injEq] using z w
 obtain⟨x,hx,hv⟩:=cQ.mp (run w os);obtain⟨l1,l2,l3⟩:_∧_∧_:=by simpa only [Prod.mk.injEq] using hv
 obtain⟨t,ht,hr⟩:=Option.bind_eq_some_iff.mp hx;have r:=AW hr;have hp:=Ks (lf:=(W.boot_heap w.params).life) ht;rw[z2,d9]at hp
 have ha:W.absHeap t m (W.boot_heap w.params).life=W.boot_heap w.params:=by
  have:(W.absHeap t m (W.boot_heap w.params).life).objs=(W.boot_heap w.params).objs:=gJ.mp (by rw[hp];simp[W.absHeap,W.BT.list]);exact cx (λo=>Heap.mk o (W.boot_heap w.params).life) this
 have hs:(W.boot_heap w.params).objs.size=m:=by rw[← z2];simp
 unfold W.SharedT.abs at r;dsimp only at r;rw[ha]at r
 have tt:W.topFrom treeTable p w N ⟨W.boot_heap w.params,Array.mk [],W.boot_drawn,W.boot_toks,os⟩=some x.abs:=by
  unfold W.topFrom;dsimp only;rw[z1,z3,hs,r];show(match okT p w x.abs with|true=>some x.abs|false=>none)=_;rw[l1]
 unfold W.openEnds;rw[o];show(W.topFrom treeTable p w N _).map _=_;rw[tt];exact cx some (Prod.ext l2 l3)
def getT(t:W.BT)(n a:Nat):Option Obj:=match Nat.blt a n with
 |true=>W.alive ((t.get a).getD default)
 |false=>none
def EY(t:W.BT)(n:Nat)(lf:Life)(a:Nat):(W.absHeap t n lf).get? a=getT t n a:=by
 unfold getT;by_cases h:a<n
 ·have:Nat.blt a n=true:=by simpa [Nat.blt_eq] using h
  rw[this];unfold Heap.get?;rw[W.absHeap_at,aC h];generalize (t.get a).getD default=o;show(match some o with|some ⟨_,_,.freed,_⟩=>none|o=>o)=W.alive o;obtain⟨c,d,dt,sl⟩:=o;cases dt <;> rfl
 ·have:Nat.blt a n=false:=by
   cases hb:Nat.blt a n with
   |false=>rfl
   |true=>exact absurd (by simpa [Nat.blt_eq] using hb) h
  rw[this,W.abs_get_none h]
def IN(as:h8)(t:W.BT)(n:Nat):W.Frag:=as.filterMap λa=>(getT t n a).map λo=>(a,o)
def GJ(as:h8)(t:W.BT)(n:Nat)(lf:Life):Tq as (W.absHeap t n lf)=IN as t n:=by
 unfold Tq IN;simp only[EY]
def z_ok(w:World):((W.boot_heap w.params).isNs mainGlobals,(W.boot_heap w.params).objs.toList.length,(W.boot_heap w.params).nsMap mainGlobals "__annotations__")=(true,11,(some (.ref 6))):=by kernel_rfl
set_option maxRecDepth 100000 in
set_option maxHeartbeats 0 in
def run_o(w:World)(os:OsState):Option.map (λx=>okT PySem.Challenge.pw_atonce_k15_whole_nobody_lost w x.abs) (goT PySem.Challenge.pw_atonce_k15_whole_nobody_lost w 11 (some (.ref 6)) 8224 os)=some true:=by kernel_rfl
set_option maxRecDepth 100000 in
set_option maxHeartbeats 0 in
def run_a(w:World)(os:OsState):Option.map (λx=>(W.openSeen view [] (PySem.importedModules PySem.Challenge.pw_atonce_k15_whole_nobody_lost.main.body) Xt true x.abs).1) (goT PySem.Challenge.pw_atonce_k15_whole_nobody_lost w 11 (some (.ref 6)) 8224 os)=some (W.openGood view []).1:=by kernel_rfl
set_option maxRecDepth 100000 in
set_option maxHeartbeats 0 in
def run_c(w:World)(os:OsState):Option.map (λx=>(W.openSeen view [] (PySem.importedModules PySem.Challenge.pw_atonce_k15_whole_nobody_lost.main.body) Xt true x.abs).2) (goT PySem.Challenge.pw_atonce_k15_whole_nobody_lost w 11 (some (.ref 6)) 8224 os)=some (W.openGood view []).2:=by kernel_rfl
set_option maxRecDepth 100000 in
set_option maxHeartbeats 0 in
def run_f(w:World)(os:OsState):Option.map (λx=>Im (IN asK x.tree x.n)) (goT PySem.Challenge.pw_atonce_k15_whole_nobody_lost w 11 (some (.ref 6)) 8224 os)=some BS:=by kernel_rfl
def Bp:(λx:W.SharedT=>Im (IN asK x.tree x.n))=λx=>Im (Tq asK x.abs.heap):=funext λx=>cx Im (GJ asK x.tree x.n x.life).symm
def run_g(w:World)(os:OsState):Option.map (λx=>Im (Tq asK x.abs.heap)) (goT PySem.Challenge.pw_atonce_k15_whole_nobody_lost w 11 (some (.ref 6)) 8224 os)=some BS:=Bp ▸ run_f w os
def run:W.LeftO PySem.Challenge.pw_atonce_k15_whole_nobody_lost view [] Xt (W.Hook.obs hook) (W.Hook.val hook) 8224:=leftT (by kernel_rfl) (by decide) (λ_=>rfl) z_ok λw os=>Q5 (run_o w os) (Q5 (Q5 (run_a w os) (run_c w os)) (run_g w os))
end
end MP
namespace L2
open PySem PySem.Spec PyProof.Rows
abbrev Key:=Sum Int Str
def Ow:Key->Value->Bool
 |.inl k,v=>Value.isInt k v
 |.inr x,v=>Value.isStrOf x v
def keyH(w:World):Key->Int
 |.inl k=>hashInt k
 |.inr x=>hashStr w x
def YS:∀{k:Key} {v:Value},Ow k v=true->(∃i t,k=Sum.inl i∧v=Value.int i t)∨(∃x t,k=Sum.inr x∧v=Value.str x t)
 |.inl i,v,h=>by
  obtain⟨t,e⟩:=fT (k:=i) (v:=v) h;exact .inl ⟨i,t,rfl,e⟩
 |.inr x,v,h=>by
  obtain⟨t,e⟩:=Value.isStrOf_shape (x:=x) (v:=v) h;exact .inr ⟨x,t,rfl,e⟩
def Fh(i:Int)(t:Tok):Ow (.inl i) (.int i t)=true:=by simp[Ow,Value.isInt]
def GI(x:Str)(t:Tok):Ow (.inr x) (.str x t)=true:=by simp[Ow,Value.isStrOf]
def key_ll(a b:Int):decide ((Sum.inl a:Key)=Sum.inl b)=(a == b):=by
 by_cases e:a=b
 ·subst e;simp
 ·have h:¬ (Sum.inl a:Key)=Sum.inl b:=λq=>e (f8 q)
  rw[aJ h];exact(aW.mpr e).symm
def key_rr(a b:Str):decide ((Sum.inr a:Key)=Sum.inr b)=decide (a=b):=by
 by_cases e:a=b
 ·subst e;simp
 ·have h:¬ (Sum.inr a:Key)=Sum.inr b:=λq=>e (Sum.inr.inj q)
  rw[aJ h,aJ e]
def key_lr(a:Int)(b:Str):decide ((Sum.inl a:Key)=Sum.inr b)=false:=aJ (λq=>nomatch q)
def key_rl(a:Str)(b:Int):decide ((Sum.inr a:Key)=Sum.inl b)=false:=aJ (λq=>nomatch q)
def Z2(prog:Program)(w:World):PySem.KeyKind prog w Key where
 is:=Ow
 hash:=keyH w
 inj:=λv a b ha hb=>by
  rcases YS ha with ⟨i,t,rfl,rfl⟩|⟨x,t,rfl,rfl⟩
  ·rcases YS hb with ⟨j,u,rfl,e⟩|⟨y,u,rfl,e⟩
   ·injection e with e1 _;rw[e1]
   ·exact nomatch e
  ·rcases YS hb with ⟨j,u,rfl,e⟩|⟨y,u,rfl,e⟩
   ·exact nomatch e
   ·injection e with e1 _;rw[e1]
 byValue:=λk v h=>by
  rcases YS h with ⟨i,t,rfl,rfl⟩|⟨x,t,rfl,rfl⟩ <;> rfl
 pyHash:=λhv h=>by
  rcases YS hv with ⟨i,t,rfl,rfl⟩|⟨x,t,rfl,rfl⟩
  ·exact wpAny_pyHash_int h
  ·exact wpAny_pyHash_str h
 eqBool:=λhu hv h=>by
  rcases YS hu with ⟨i,t,rfl,rfl⟩|⟨x,t,rfl,rfl⟩
  ·rcases YS hv with ⟨j,u,rfl,rfl⟩|⟨y,u,rfl,rfl⟩
   ·rw[key_ll]at h;exact wpAny_eqBool_int h
   ·rw[key_lr]at h;exact SeqAt.EqAt.int_str i t y u _ _ _ _ h
  ·rcases YS hv with ⟨j,u,rfl,rfl⟩|⟨y,u,rfl,rfl⟩
   ·rw[key_rl]at h;exact SeqAt.EqAt.str_int x t j u _ _ _ _ h
   ·rw[key_rr]at h;exact wpAny_eqBool_str h
 «strs»:=λk x t v h=>by
  rcases YS h with ⟨i,u,rfl,e⟩|⟨y,u,rfl,e⟩
  ·exact nomatch e
  ·injection e with e1 _
   subst e1;cases v <;> rfl
def Ja(prog:Program)(w:World)(i:Int)(t:Tok):(Z2 prog w).is (.inl i) (.int i t)=true:=Fh i t
def Kh(prog:Program)(w:World)(x:Str)(t:Tok):(Z2 prog w).is (.inr x) (.str x t)=true:=GI x t
inductive V where
 |non|bl (b:Bool)|int (i:Int)|str (x:Str)|byt (b:Array UInt8)|flt (b:UInt64)|ref (a:Addr)|ty (n:String)
 deriving DecidableEq
abbrev iH:=List V
def RelV:V->Value->Prop
 |.non,u=>u=Value.none
 |.bl b,u=>u=Value.bool b
 |.int i,u=>∃t,u=Value.int i t
 |.str x,u=>∃t,u=Value.str x t
 |.byt b,u=>∃t,u=Value.bytes b t
 |.flt b,u=>∃t,u=Value.float b t
 |.ref a,u=>u=Value.ref a
 |.ty n,u=>u=Value.type n
abbrev Vals:iH->List Value->Prop:=Paired RelV
def Vals.length{xs:iH}{us:iA}(r:Vals xs us):xs.length=us.length:=gK r
def Vals.get:∀{xs:iH} {us:iA} {i:Nat} {x:V},Vals xs us->xs[i]?=some x->∃u,us[i]?=some u∧RelV x u
 |_,_,_,_,.nil,e=>by simp at e
 |_,_,0,_,.cons r _,e=>by simp at e;subst e;exact⟨_,rfl,r⟩
 |_,_,i+1,x,.cons _ t,e=>by
  obtain⟨u,h1,h2⟩:=Vals.get (i:=i) (x:=x) t (by simpa using e);exact⟨u,by simpa using h1,h2⟩
def Vals.set{x:V}{u:Value}(r:RelV x u):∀{xs:iH} {us:iA} (i:Nat),Vals xs us->Vals (xs.set i x) (us.set i u)
 |_,_,_,.nil=>.nil
 |_,_,0,.cons _ t=>.cons r t
 |_,_,i+1,.cons q t=>.cons q (Vals.set r i t)
def Vals.append:∀{xs ys:iH} {us ws:iA},Vals xs us->Vals ys ws->Vals (xs++ys) (us++ws)
 |_,_,_,_,.nil,s=>s
 |_,_,_,_,.cons r t,s=>.cons r (Vals.append t s)
def RelO:Option V->Option Value->Prop
 |some v,some u=>RelV v u
 |none,none=>True
 |_,_=>False
def KV{κ:Type}:List (κ × V)->List (κ × Value)->Prop:=Paired λ(p:κ × V) (q:κ × Value)=>p.1=q.1∧RelV p.2 q.2
def kV:Key->V
 |.inl i=>.int i
 |.inr x=>.str x
inductive HO where
 |lst (xs:iH)
 |tup (xs:iH)
 |dK (kvs:List (Key × V))|dT (kvs:List (List Key × V))
 |set (S:Int->Bool) (n:Nat)
 |ins (C dx:Addr) (fs:List (Str × V))
 |own (x:Addr)
 |xd (fs:List (Str × V))
 |met (f x:Addr)
 |rng (lo hi:Int)
 |frz (o:Obj) (u:HO)
 |tbl (ps:Array Value)
 |ext (φ:Heap->Prop)
abbrev Hp:=Addr->Option HO
def upd(H:Hp)(a:Addr)(o:HO):Hp:=λb=>if b=a then some o else H b
def ZG{H:Hp}{a:Addr}{o:HO}:upd H a o a=some o:=by unfold upd;rw[aC rfl]
def ZA{H:Hp}{a b:Addr}{o:HO}(h:b≠a):upd H a o b=H b:=by unfold upd;rw[aE h]
def IL{H:Hp}{a:Addr}{o u:HO}:upd (upd H a o) a u=upd H a u:=by
 funext b;unfold upd;split <;> rfl
def ne_of{H:Hp}{a b:Addr}{o u:HO}(h:H a=some o)(h':H b=some u)(d:o≠u):a≠b:=by
 intro e;subst e;rw[h]at h';exact d (bT h')
def Z5{H:Hp}{a b:Addr}{o:HO}(h:H a=some o)(h':H b=none):a≠b:=by
 intro e;subst e;rw[h]at h';cases h'
section
variable(P:Program)(w:World)
def ObjOk(H:Hp)(h:Heap)(a:Addr):HO->Prop
 |.lst xs=>xs.length<=sizeLine∧∃(ik:iA) (n:Nat),Vals xs ik∧h.get? a=some {cls:=.type "list",data:=.seq ik.toArray n}
 |.tup xs=>xs.length<=sizeLine∧∃ik:iA,Vals xs ik∧IsTup h a ik.toArray
 |.dK kvs=>kvs.length<=sizeLine∧(a == sysModules)=false∧∃vs,KV kvs vs∧h.DictOf (Z2 P w) a vs
 | .dT kvs => kvs.length <= sizeLine ∧ (a == sysModules) = false ∧ ∃ xs : List (List Key × Addr × Value),
     Paired (λ(p:List Key × V) (q:List Key × Addr × Value)=>p.1=q.1∧H q.2.1=some (.tup (p.1.map kV))∧RelV p.2 q.2.2) kvs xs ∧
     ∃o es ep,h.get? a=some o∧o.ExactDict∧o.data=.dict es ep∧es.toList=xs.map (entryOfKey (tupleKind (Z2 P w)))∧(xs.map (·.1)).Nodup
 |.set S n=>h.SetOf (intKind P w) a S n
 | .ins C dx fs => H dx = some (.own a) ∧ fs.length <= 1000 ∧ dx ≠ a ∧ h.get? a = some (PySem.W.instObj C dx) ∧
     ∃mA,h.Ns1 dx mA∧(∀f,RelO (fs.lookup f) (mA f))∧PySem.Within mA (fs.map (·.1))
 |.own _=>∃o,h.get? a=some o
 |.xd fs=>∃mA,h.Ns1 a mA∧∀f,RelO (fs.lookup f) (mA f)
 |.rng lo hi=>∃t u v,h.get? a=some {cls:=.type "range",data:=.fields #[.int lo t,.int hi u,.int 1 v]}
 |.frz o u=>h.get? a=some o∧ObjOk H h a u
 |.tbl ps=>h.get? a=some {cls:=.none,data:=.fields ps}
 |.met f x=>h.get? a=some (PySem.W.methodObj (.ref f) (.ref x))
 |.ext φ=>φ h∧(∃o,h.get? a=some o)∧∀h1 h2:Heap,φ h1->(∀o,h1.get? a=some o->h2.get? a=some o)->φ h2
def HOk(H:Hp)(h:Heap):Prop:=∀a o,H a=some o->ObjOk P w H h a o
end
section
variable{P:Program}{w:World}{H H':Hp}{h h':Heap}{a:Addr}{o:HO}
def ObjOk.lt(x:ObjOk P w H h a o):a<h.objs.size:=by
 cases o with
 |lst xs=>obtain⟨_,_,_,_,e⟩:=x;exact aP e
 |tup xs=>obtain⟨_,_,_,p⟩:=x;exact p.lt
 |dK kvs=>obtain⟨_,_,_,_,o,_,_,e,_⟩:=x;exact aP e
 |dT kvs=>obtain⟨_,_,_,_,o,_,_,e,_⟩:=x;exact aP e
 |set S n=>obtain⟨o,_,_,_,e,_⟩:=x;exact aP e
 |ins C dx fs=>obtain⟨_,_,_,e,_⟩:=x;exact aP e
 |own y=>obtain⟨_,e⟩:=x;exact aP e
 |xd fs=>obtain⟨_,⟨_,_,_,e,_⟩,_⟩:=x;exact aP e
 |rng lo hi=>obtain⟨_,_,_,e⟩:=x;exact aP e
 |frz ob u=>obtain⟨e,_⟩:=x;exact aP e
 |tbl ps=>exact aP (show h.get? a=some _ from x)
 |met f y=>exact aP (show h.get? a=some _ from x)
 |ext φ=>obtain⟨_,⟨_,e⟩,_⟩:=x;exact aP e
def Paired.mapP{α β:Type}{F G:α->β->Prop}:∀{l₁:List α} {k6:List β},Paired F l₁ k6->(∀a b,F a b->G a b)->Paired G l₁ k6
 |_,_,.nil,_=>.nil
 |_,_,.cons r t,f=>.cons (f _ _ r) (Paired.mapP t f)
def ObjOk.stay(x:ObjOk P w H h a o)(k:∀b u,(b=a∨H b=some (.own a))->h.get? b=some u->h'.get? b=some u)(ho:∀b,H b=some (.own a)->H' b=some (.own a)) (ht:∀b xs,H b=some (.tup xs)->H' b=some (.tup xs)):ObjOk P w H' h' a o:=by
 induction o with
 |lst xs=>obtain⟨z,ik,n,r,e⟩:=x;exact⟨z,ik,n,r,k _ _ (.inl rfl) e⟩
 |tup xs=>obtain⟨z,ik,r,ob,e,c⟩:=x;exact⟨z,ik,r,ob,k _ _ (.inl rfl) e,c⟩
 |dK kvs=>obtain⟨z,y,vs,r,ob,es,ep,e,c⟩:=x;exact⟨z,y,vs,r,ob,es,ep,k _ _ (.inl rfl) e,c⟩
 |dT kvs=>
  obtain⟨z,y,xs,r,ob,es,ep,e,c⟩:=x;exact⟨z,y,xs,Paired.mapP r λp q z=>⟨z.1,ht _ _ z.2.1,z.2.2⟩,ob,es,ep,k _ _ (.inl rfl) e,c⟩
 |set S n=>obtain⟨ob,es,ep,t,e,c⟩:=x;exact⟨ob,es,ep,t,k _ _ (.inl rfl) e,c⟩
 |ins C dx fs=>
  obtain⟨d,z,ne,e,mA,⟨od,es,ep,e2,c⟩,r⟩:=x;exact⟨ho _ d,z,ne,k _ _ (.inl rfl) e,mA,⟨od,es,ep,k _ _ (.inr d) e2,c⟩,r⟩
 |own y=>obtain⟨ob,e⟩:=x;exact⟨ob,k _ _ (.inl rfl) e⟩
 |xd fs=>obtain⟨mA,⟨od,es,ep,e,c⟩,r⟩:=x;exact⟨mA,⟨od,es,ep,k _ _ (.inl rfl) e,c⟩,r⟩
 |rng lo hi=>obtain⟨t,u,v,e⟩:=x;exact⟨t,u,v,k _ _ (.inl rfl) e⟩
 |frz ob u ih=>obtain⟨e,q⟩:=x;exact⟨k _ _ (.inl rfl) e,ih q⟩
 |tbl ps=>
  have e:h.get? a=some {cls:=.none,data:=.fields ps}:=x;show h'.get? a=some {cls:=.none,data:=.fields ps};exact k a _ (.inl rfl) e
 |met f y=>
  have e:h.get? a=some (PySem.W.methodObj (.ref f) (.ref y)):=x;show h'.get? a=some (PySem.W.methodObj (.ref f) (.ref y));exact k a _ (.inl rfl) e
 |ext φ=>obtain⟨p,⟨o,e⟩,st⟩:=x;exact⟨st _ _ p λo q=>k _ _ (.inl rfl) q,⟨o,k _ _ (.inl rfl) e⟩,st⟩
def HOk.lt(x:HOk P w H h)(e:H a=some o):a<h.objs.size:=(x a o e).lt
def HOk.fresh(x:HOk P w H h)(e:h.objs.size<=a):H a=none:=by
 cases q:H a with
 |none=>rfl
 |some u=>exact absurd (bI (x.lt q) e) (cP _)
def HOk.kept(x:HOk P w H h)(k:∀b u,h.get? b=some u->h'.get? b=some u):HOk P w H h':=λa o e=>
 (x a o e).stay (λb u _ q=>k b u q) (λ_ q=>q) λ_ _ q=>q
def HOk.laid(x:HOk P w H h)(k:∀b u,h.get? b=some u->h'.get? b=some u)(hp:h.objs.size<=a)(new:ObjOk P w (upd H a o) h' a o):HOk P w (upd H a o) h':=λb u e=>by
 have hn:=x.fresh hp;by_cases hb:b=a
 ·subst hb;rw[ZG]at e;cases e;exact new
 ·rw[ZA hb]at e
  exact(x b u e).stay (λc v _ q=>k c v q) (λc q=>by rw[ZA (Z5 q hn)];exact q) λc xs q=>by rw[ZA (Z5 q hn)];exact q
end
def Rd(H:Hp)(a:Addr)(u:HO):Prop:=H a=some u∨∃o,H a=some (.frz o u)
def Rd.ok{P:Program}{w:World}{H:Hp}{h:Heap}{a:Addr}{u:HO}(r:Rd H a u)(x:HOk P w H h):ObjOk P w H h a u:=by
 rcases r with r|⟨o,r⟩
 ·exact x a u r
 ·obtain⟨_,q⟩:=x a _ r
  exact q
def Mut:Option HO->Prop
 |some (.lst _)=>True
 |some (.dK _)=>True
 |some (.dT _)=>True
 |some (.set _ _)=>True
 |some (.ins _ _ _)=>True
 |some (.ext _)=>True
 |_=>False
section
variable{P:Program}{w:World}{H:Hp}{h h':Heap}{x e:Addr}{o':HO}
def HOk.write(ok:HOk P w H h)(mu:Mut (H x))(he:e=x∨H e=some (.own x))(k:∀b u,b≠e->h.get? b=some u->h'.get? b=some u)(kU:∃u,h'.get? e=some u)(new:ObjOk P w (upd H x o') h' x o'):HOk P w (upd H x o') h':=λb u q=>by
 have nown:∀c y,H c=some (.own y)->c≠x:=λc y r z=>by subst z;rw[r]at mu;exact mu
 have ntup:∀c xs,H c=some (.tup xs)->c≠x:=λc xs r z=>by subst z;rw[r]at mu;exact mu
 by_cases hb:b=x
 ·subst hb;rw[ZG]at q;cases q;exact new
 ·rw[ZA hb]at q
  by_cases hbe:b=e
  ·have q':H b=some (.own x):=by
    rcases he with z|z
    ·exact absurd (hbe.trans z) hb
    ·rw[hbe];exact z
   rw[q]at q';cases q';obtain⟨v,hv⟩:=kU;exact⟨v,by rw[hbe];exact hv⟩
  ·refine(ok b u q).stay (λc v hc r=>k c v ?_ r) (λc r=>by rw[ZA (nown c b r)];exact r) λc xs r=>by rw[ZA (ntup c xs r)];exact r
   rcases hc with rfl|hc
   ·exact hbe
   ·rintro rfl
    rcases he with z|z
    ·exact nown c b hc z
    ·rw[hc]at z;cases z;exact hb rfl
end
structure Un(fs ex:h8)(H H':Hp)(h h':Heap):Prop where
 keep:∀b o,h.get? b=some o->H b=none->b ∉ fs->b ∉ ex->h'.get? b=some o
 slot:∀b o,h.get? b=some o->H b=none->b∈fs->b ∉ ex->∃sl,h'.get? b=some {o with slots:=sl}
 free:∀b o,h.get? b=some o->H b=none->b ∉ ex->H' b=none
 there:∀b o,h.get? b=some o->b ∉ ex->∃o',h'.get? b=some o'
 tups:∀b xs,H b=some (.tup xs)->H' b=some (.tup xs)
 frzs:∀b o u,H b=some (.frz o u)->H' b=some (.frz o u)
 tbls:∀b ps,H b=some (.tbl ps)->∃more,H' b=some (.tbl (ps++more))
section
variable{fs jf ex oK:h8}{H H1 H2:Hp}{h h1 h2 h':Heap}{a x e:Addr}{o:HO}
def Un.any(u:Un fs ex H H1 h h1){b:Addr}{ob:Obj}(q:h.get? b=some ob)(n:H b=none)(hx:b ∉ ex):∃sl,h1.get? b=some {ob with slots:=sl}:=by
 by_cases hb:b∈fs
 ·exact u.slot b ob q n hb hx
 ·exact⟨ob.slots,u.keep b ob q n hb hx⟩
def Un.kept(k:∀b u,h.get? b=some u->h'.get? b=some u):Un fs ex H H h h':=
 ⟨λb ob q _ _ _=>k b ob q,λb ob q _ _ _=>⟨ob.slots,k b ob q⟩,λ_ _ _ n _=>n,λb ob q _=>⟨ob,k b ob q⟩,λ_ _ q=>q,λ_ _ _ q=>q,λ_ ps q=>⟨#[],by rw[q];simp⟩⟩
def Un.refl:Un fs ex H H h h:=Un.kept λ_ _ q=>q
def Un.laid(k:∀b u,h.get? b=some u->h'.get? b=some u)(hp:h.objs.size<=a)(hn:H a=none):Un fs ex H (upd H a o) h h' where
 keep:=λb u q _ _ _=>k b u q
 slot:=λb u q _ _ _=>⟨u.slots,k b u q⟩
 free:=λb u q n _=>by rw[ZA (bB (bI (aP q) hp))];exact n
 there:=λb u q _=>⟨u,k b u q⟩
 tups:=λb xs q=>by rw[ZA (Z5 q hn)];exact q
 frzs:=λb u xs q=>by rw[ZA (Z5 q hn)];exact q
 tbls:=λb ps q=>⟨#[],by rw[ZA (Z5 q hn),q];simp⟩
def Un.write(mu:Mut (H x))(he:e=x∨H e=some (.own x))(k:∀b u,b≠e->h.get? b=some u->h'.get? b=some u)(kU:∃u,h'.get? e=some u):Un fs ex H (upd H x o) h h':=by
 have hx:∀b,H b=none->b≠x:=λb n z=>by subst z;rw[n]at mu;exact mu
 have hb:∀b,H b=none->b≠e:=λb n z=>by
  subst z;rcases he with r|r
  ·exact hx b n r
  ·rw[n]at r;cases r
 have hm:∀b u,H b=some u->¬ Mut (some u)->b≠x:=λb u q nm z=>by subst z;rw[q]at mu;exact nm mu
 refine⟨λb u q n _ _=>k b u (hb b n) q,λb u q n _ _=>⟨u.slots,k b u (hb b n) q⟩,λb u q n _=>by rw[ZA (hx b n)];exact n,λb u q _=>?_,
  λb xs q=>by rw[ZA (hm b _ q λz=>z)];exact q,λb u xs q=>by rw[ZA (hm b _ q λz=>z)];exact q,λb ps q=>⟨#[],by rw[ZA (hm b _ q λz=>z),q];simp⟩⟩
 by_cases hbe:b=e
 ·subst hbe;exact kU
 ·exact⟨u,k b u hbe q⟩
end
def trk(h:Heap)(H:Hp):h8:=(List.range h.objs.size).filter λa=>(H a).isSome
def NY(h:Heap)(H:Hp):Heap:=PySem.W.hideAll h (trk h H)
def Fd(h:Heap)(H:Hp):(NY h H).objs.size=h.objs.size:=PySem.W.hideAll_size _ _
def EQ{h:Heap}{H:Hp}{b:Addr}{o:Obj}(e:h.get? b=some o)(n:H b=none):(NY h H).get? b=some o:=
 gp _ e λhm=>by
  have q:(H b).isSome=true:=(aL.mp hm).2;rw[n]at q;simp at q
def Cn{h:Heap}{H:Hp}{b:Addr}{o:Obj}(e:(NY h H).get? b=some o):h.get? b=some o∧H b=none:=by
 have e':h.get? b=some o:=PySem.W.of_hideAll (trk h H) e;refine⟨e',?_⟩;cases q:H b with
 |none=>rfl
 |some x=>
  have hm:b∈trk h H:=aL.mpr ⟨bO.mpr (aP e'),by simp[q]⟩;have z:(NY h H).get? b=none:=PySem.W.hideAll_none (trk h H) hm;rw[z]at e;cases e
structure Mod(K:g8)(mg:g7)(base:Heap):Prop where
 kin:K.In base
 glob:base.Ns mainGlobals mg
 blt:∃mb,base.Ns builtinsNs mb∧∀x:Str,x≠"__name__"->mb x=bootBuiltins x
 nolimit:base.NoLimit
structure Cx where
 prog:Program
 w:World
 K:g8
 mg:Str->Option Value
 base:Heap
 A:Around
 N:iD
 s₀:Shared
 H₀:Hp
 env:Env
 outer:List Env
 stack:List Env
 ex:h8
 fn:Str->Bool
 calm:Bool
 pn:g9
 xe:Value->Shared->Prop
def frs(l:List Env):h8:=l.filterMap (·.frame)
abbrev Cx.fs(X:Cx):h8:=frs X.outer
def Vis(sc:Scope)(x:Str):Prop:=sc.names.lookup x=some .local∨sc.names.lookup x=some .cell∨sc.names.lookup x=some .free
def Loc(sc:Scope)(x:Str):Prop:=sc.names.lookup x=some .local∨sc.names.lookup x=some .cell
def Look(env:Env)(h:Heap)(m:g7)(x:Str)(u:Value):Prop:=
 (env.kindOf x=some .local∧m x=some u)∨((env.kindOf x=some .cell∨env.kindOf x=some .free)∧∃c,env.cells.lookup x=some c∧h.IsCell c (some u))
structure Cx.Ok(X:Cx):Prop where
 mod:Mod X.K X.mg X.base
 kind:X.env.scope.kind=.function
 glob:X.env.globals=mainGlobals
 blt:X.env.builtins=builtinsNs
 above:X.s₀.heap.objs.size<=X.env.locals
 inj:∀x y c,X.env.cells.lookup x=some c->X.env.cells.lookup y=some c->x=y
 has:∀x,(X.env.kindOf x=some .cell∨X.env.kindOf x=some .free)->∃c,X.env.cells.lookup x=some c
 cab:∀x c,X.fn x=true->X.env.cells.lookup x=some c->X.s₀.heap.objs.size<=c
 hd:X.calm=true->X.A.handled=none
 frames:X.A.frames=some X.stack
 stk:X.stack=X.outer∨(X.stack=X.env::X.outer∧X.env.frame=some X.env.locals)
 exf:∀b∈X.ex,b≠X.env.locals∧∀x c,X.env.cells.lookup x=some c->c≠b
 bs:∀b o,X.base.get? b=some o->X.s₀.heap.get? b=some o∧X.H₀ b=none
 bsz:X.base.objs.size<=X.s₀.heap.objs.size
 noex:∀b o,X.base.get? b=some o->b ∉ X.ex
 exfs:∀b∈X.ex,b ∉ X.fs
 funs:X.s₀.heap.FunFrames X.base X.outer
 frf:∀b∈X.fs,X.H₀ b=none
structure Inv(X:Cx)(gV:g9)(σ:List (Option V))(H:Hp)(s:Shared):Prop where
 ok:X.Ok
 os:s.os=X.s₀.os
 bare:AllBare s.gens
 base:Un X.fs X.ex X.H₀ H X.s₀.heap s.heap
 loc:∃m,s.heap.Ns X.env.locals m∧∀(i:Nat) (x:Str) (v:V),X.N[i]?=some x->σ[i]?=some (some v)->Vis X.env.scope x->∃u,RelV v u∧Look X.env s.heap m x u
 cell:∀x c,X.env.cells.lookup x=some c->∃v,s.heap.IsCell c v
 free:H X.env.locals=none
 freeC:∀x c,X.env.cells.lookup x=some c->H c=none
 pin:∀p∈X.pn++gV,s.heap.get? p.1=some p.2∧H p.1=none∧p.1≠X.env.locals∧p.1 ∉ X.fs∧∀v,p.2.data≠.cell v
 hok:HOk X.prog X.w H s.heap
 len:σ.length=X.N.length
section
variable{X:Cx}{gV:g9}{σ:List (Option V)}{H H':Hp}{s:Shared}{h':Heap}
def Cx.Ok.nofr(ok:X.Ok){b:Addr}{o:Obj}(e:X.base.get? b=some o):b ∉ X.fs:=λhb=>by
 have:=(ok.funs.mem hb).1;rw[e]at this;cases this
def Inv.bs(I:Inv X gV σ H s):∀b o,X.base.get? b=some o->s.heap.get? b=some o∧H b=none:=λb o e=>
 ⟨I.base.keep b o (I.ok.bs b o e).1 (I.ok.bs b o e).2 (I.ok.nofr e) (I.ok.noex b o e),I.base.free b o (I.ok.bs b o e).1 (I.ok.bs b o e).2 (I.ok.noex b o e)⟩
def Inv.bk(I:Inv X gV σ H s):∀b o,X.base.get? b=some o->s.heap.get? b=some o:=λb o e=>(I.bs b o e).1
def Inv.mod(I:Inv X gV σ H s):Mod X.K X.mg X.base:=I.ok.mod
def Inv.kIn(I:Inv X gV σ H s):X.K.In s.heap:=I.ok.mod.kin.keeps I.bk
def Inv.lt(I:Inv X gV σ H s):X.env.locals<s.heap.objs.size:=let ⟨_,hn,_⟩:=I.loc;hn.lt
def Inv.sz(I:Inv X gV σ H s):X.s₀.heap.objs.size<=s.heap.objs.size:=bF I.ok.above (er I.lt)
def Inv.nofs(I:Inv X gV σ H s){a:Addr}(h:s.heap.objs.size<=a):a ∉ X.fs:=λhb=>by
 obtain⟨_,o,ho,_⟩:=I.ok.funs.mem hb;exact absurd (bI (aP ho) (bF I.sz h)) (cP _)
def Inv.cne(I:Inv X gV σ H s):∀x c,X.env.cells.lookup x=some c->c≠X.env.locals:=λx c e z=>by
 obtain⟨v,o,ho,hd⟩:=I.cell x c e;obtain⟨m,⟨o',es,ep,iY,jY,_⟩,_⟩:=I.loc;rw[z,iY]at ho;cases ho;rw[jY]at hd;cases hd
def Inv.funs(I:Inv X gV σ H s):s.heap.FunFrames X.base X.outer:=by
 have all:∀(l:List Env),(∀b∈frs l,b∈X.fs)->X.s₀.heap.FunFrames X.base l->s.heap.FunFrames X.base l:=by
  intro l
  induction l with
  |nil=>intro _ _;trivial
  |cons env r ih=>
   intro hs hl;obtain⟨hk,⟨L,o,hf,hn,ho,hd⟩,hr⟩:=hl;have hL:L∈X.fs:=hs L (by unfold frs;rw[cD,hf];exact cU);obtain⟨sl,e⟩:=I.base.slot L o ho (I.ok.frf L hL) hL λz=>I.ok.exfs L z hL
   exact⟨hk,⟨L,_,hf,hn,e,hd⟩,ih (λb hb=>hs b (by unfold frs;rw[cD,hf];exact cO _ hb)) hr⟩
 exact all X.outer (λ_ hb=>hb) I.ok.funs
def Inv.stack(I:Inv X gV σ H s):s.heap.FunFrames X.base X.stack:=by
 rcases I.ok.stk with e|⟨e,hf⟩
 ·rw[e];exact I.funs
 ·rw[e]
  obtain⟨m,hn,_⟩:=I.loc;refine .cons (by rw[I.ok.kind];decide) hf hn ?_ I.funs;exact Heap.get?_none_of_le (bF I.ok.bsz I.ok.above)
def Inv.stkSub(I:Inv X gV σ H s):∀b∈frs X.stack,b∈X.env.locals::X.fs:=λb hb=>by
 rcases I.ok.stk with e|⟨e,hf⟩
 ·rw[e]at hb;exact cO _ hb
 ·rw[e]at hb
  unfold frs at hb;rw[cD,hf]at hb;exact hb
def Inv.stkFree(I:Inv X gV σ H s):∀b∈frs X.stack,H b=none:=λb hb=>by
 rcases aT.mp (I.stkSub b hb) with e|hb
 ·rw[e];exact I.free
 ·obtain⟨_,o,ho,_⟩:=I.ok.funs.mem hb
  exact I.base.free b o ho (I.ok.frf b hb) λz=>I.ok.exfs b z hb
def Inv.step{g':Array GenState}{t':Nat}{d':Drawn}{ch:h8}(I:Inv X gV σ H s)(jZ:∀b∈ch,(b∈X.ex∨X.s₀.heap.objs.size<=b)∧b≠X.env.locals∧(∀x c,X.env.cells.lookup x=some c->c≠b)∧∀p∈X.pn++gV,p.1≠b)(keep:∀b o,b≠X.env.locals->b ∉ X.fs->b ∉ ch->s.heap.get? b=some o->H b=none->h'.get? b=some o)(slot:∀b o,b≠X.env.locals->b∈X.fs->b ∉ ch->s.heap.get? b=some o->H b=none->∃sl,h'.get? b=some {o with slots:=sl}) (free:∀b o,b ∉ ch->s.heap.get? b=some o->H b=none->H' b=none)(there:∀b o,b ∉ ch->s.heap.get? b=some o->∃o',h'.get? b=some o')(tups:∀b xs,H b=some (.tup xs)->H' b=some (.tup xs)) (frzs:∀b o u,H b=some (.frz o u)->H' b=some (.frz o u)) (tbls:∀b ps,H b=some (.tbl ps)->∃more,H' b=some (.tbl (ps++more)))(ns:∀m,s.heap.Ns X.env.locals m->h'.Ns X.env.locals m) (hok:HOk X.prog X.w H' h') (hg:AllBare g'):Inv X gV σ H' {s with heap:=h',gens:=g',drawn:=d',toks:=t'}:=by
 have neL:∀b o,X.s₀.heap.get? b=some o->b≠X.env.locals:=λb o e=>bB (bI (aP e) I.ok.above)
 have neC:∀b o,X.s₀.heap.get? b=some o->b ∉ X.ex->b ∉ ch:=λb o e hx hb=>by
  rcases (jZ b hb).1 with z|z
  ·exact hx z
  ·exact absurd (bI (aP e) z) (cP _)
 have cellK:∀x c,X.env.cells.lookup x=some c->∀v,s.heap.IsCell c v->h'.IsCell c v:=λx c e v ⟨o,ho,hd⟩=>by
  have nch:c ∉ ch:=λz=>(jZ c z).2.2.1 x c e rfl
  by_cases hc:c∈X.fs
  ·obtain⟨sl,q⟩:=slot c o (I.cne x c e) hc nch ho (I.freeC x c e)
   exact⟨_,q,hd⟩
  ·exact⟨o,keep c o (I.cne x c e) hc nch ho (I.freeC x c e),hd⟩
 refine⟨I.ok,I.os,hg,⟨λb o e n hb hx=>?_,λb o e n hb hx=>?_,λb o e n hx=>?_,λb o e hx=>?_,λb xs e=>tups b xs (I.base.tups b xs e),λb o xs e=>frzs b o xs (I.base.frzs b o xs e),λb ps e=>?_⟩,?_,λx c e=>?_,?_,λx c e=>?_,λp hp=>?_,hok,I.len⟩
 ·exact keep b o (neL b o e) hb (neC b o e hx) (I.base.keep b o e n hb hx) (I.base.free b o e n hx)
 ·obtain⟨sl,e1⟩:=I.base.slot b o e n hb hx
  obtain⟨iz,e2⟩:=slot b _ (neL b o e) hb (neC b o e hx) e1 (I.base.free b o e n hx);exact⟨iz,e2⟩
 ·obtain⟨o',e1⟩:=I.base.there b o e hx
  exact free b o' (neC b o e hx) e1 (I.base.free b o e n hx)
 ·obtain⟨o',e1⟩:=I.base.there b o e hx
  exact there b o' (neC b o e hx) e1
 ·obtain⟨m1,e1⟩:=I.base.tbls b ps e
  obtain⟨m2,e2⟩:=tbls b _ e1;exact⟨m1++m2,by rw[e2,Array.append_assoc]⟩
 ·obtain⟨m,hn,hl⟩:=I.loc
  refine⟨m,ns m hn,λi x v e1 e2 e3=>?_⟩;obtain⟨u,r,l⟩:=hl i x v e1 e2 e3;refine⟨u,r,?_⟩;rcases l with l|⟨k,c,e,z⟩
  ·exact .inl l
  ·exact .inr ⟨k,c,e,cellK x c e _ z⟩
 ·obtain⟨v,z⟩:=I.cell x c e
  exact⟨v,cellK x c e v z⟩
 ·obtain⟨m,⟨o,_,_,ho,_⟩,_⟩:=I.loc
  exact free _ o (λz=>(jZ _ z).2.1 rfl) ho I.free
 ·obtain⟨v,o,ho,hd⟩:=I.cell x c e
  exact free c o (λz=>(jZ c z).2.2.1 x c e rfl) ho (I.freeC x c e)
 ·obtain⟨e,n,ne,nf,d⟩:=I.pin p hp
  have nch:p.1 ∉ ch:=λz=>(jZ p.1 z).2.2.2 p hp rfl
  exact⟨keep p.1 p.2 ne nf nch e n,free p.1 p.2 nch e n,ne,nf,d⟩
def Inv.un{t':Nat}(I:Inv X gV σ H s)(u:Un X.fs [] H H' s.heap h')(hok:HOk X.prog X.w H' h'):Inv X gV σ H' {s with heap:=h',toks:=t'}:=by
 obtain⟨m,⟨o,es,ep,ho,r⟩,_⟩:=id I.loc;obtain⟨sl,hL⟩:=u.any ho I.free (by simp)
 exact I.step (g':=s.gens) (d':=s.drawn) (ch:=[]) (λ_ z=>nomatch z) (λb o _ hb _ e n=>u.keep b o e n hb (by simp)) (λb o _ hb _ e n=>u.slot b o e n hb (by simp)) (λb o _ e n=>u.free b o e n (by simp)) (λb o _ e=>u.there b o e (by simp)) u.tups u.frzs u.tbls (λm' hm=>by
  obtain⟨o',jk,j0,iY,r'⟩:=hm;rw[ho]at iY;cases iY;exact⟨_,jk,j0,hL,r'⟩) hok I.bare
def Inv.call{g':Array GenState}{t':Nat}{d':Drawn}{ch:h8}(I:Inv X gV σ H s)(u:Un (frs X.stack) ch H H' s.heap h')(hok:HOk X.prog X.w H' h')(hg:AllBare g')(jZ:∀b∈ch,(b∈X.ex∨X.s₀.heap.objs.size<=b)∧b≠X.env.locals∧(∀x c,X.env.cells.lookup x=some c->c≠b)∧∀p∈X.pn++gV,p.1≠b):Inv X gV σ H' {s with heap:=h',gens:=g',drawn:=d',toks:=t'}:=by
 obtain⟨m,⟨o,es,ep,ho,r⟩,_⟩:=id I.loc;obtain⟨sl,hL⟩:=u.any ho I.free λz=>(jZ _ z).2.1 rfl
 exact I.step (ch:=ch) jZ (λb o hL hb hc e n=>u.keep b o e n (λz=>(aT.mp (I.stkSub b z)).elim hL hb) hc) (λb o _ _ hc e n=>u.any e n hc) (λb o hc e n=>u.free b o e n hc) (λb o hc e=>u.there b o e hc) u.tups u.frzs u.tbls (λm' hm=>by
  obtain⟨o',jk,j0,iY,r'⟩:=hm;rw[ho]at iY;cases iY;exact⟨_,jk,j0,hL,r'⟩) hok hg
def Inv.turned{t':Nat}{it:Addr}(I:Inv X gV σ H s)(k:∀b o,b≠it->s.heap.get? b=some o->h'.get? b=some o)(hn:H it=none)(hL:it≠X.env.locals)(h1:it∈X.ex∨X.s₀.heap.objs.size<=it) (h2:∀x c,X.env.cells.lookup x=some c->c≠it) (h3:∀p∈X.pn++gV,p.1≠it):Inv X gV σ H {s with heap:=h',toks:=t'}:=by
 have nit:∀b u,H b=some u->b≠it:=λb u e z=>by rw[z,hn]at e;cases e
 refine I.step (g':=s.gens) (d':=s.drawn) (ch:=[it]) (λb hb=>?_) (λb o _ _ hc e _=>k b o (λz=>hc (by simp[z])) e) (λb o _ _ hc e _=>⟨o.slots,k b o (λz=>hc (by simp[z])) e⟩) (λ_ _ _ _ n=>n)
  (λb o hc e=>⟨o,k b o (λz=>hc (by simp[z])) e⟩) (λ_ _ e=>e) (λ_ _ _ e=>e) (λb ps e=>⟨#[],by rw[e];simp⟩) (λm hm=>?_) (λb u e=>?_) I.bare
 ·have e:b=it:=by simpa using hb
  subst e;exact⟨h1,hL,h2,h3⟩
 ·obtain⟨o,es,ep,ho,r⟩:=hm
  exact⟨o,es,ep,k _ o (cF hL) ho,r⟩
 ·refine(I.hok b u e).stay (λc v hc q=>k c v ?_ q) (λ_ q=>q) λ_ _ q=>q
  rcases hc with z|z
  ·rw[z];exact nit b u e
  ·exact nit c _ z
def Inv.tok(I:Inv X gV σ H s)(t:Nat):Inv X gV σ H {s with toks:=t}:=I.un (h':=s.heap) (t':=t) Un.refl I.hok
def Inv.kept{t':Nat}(I:Inv X gV σ H s)(k:∀b u,s.heap.get? b=some u->h'.get? b=some u):Inv X gV σ H {s with heap:=h',toks:=t'}:=I.un (Un.kept k) (I.hok.kept k)
def Inv.laid{a:Addr}{o:HO}{t':Nat}(I:Inv X gV σ H s)(k:∀b u,s.heap.get? b=some u->h'.get? b=some u)(hp:s.heap.objs.size<=a)(new:ObjOk X.prog X.w (upd H a o) h' a o):Inv X gV σ (upd H a o) {s with heap:=h',toks:=t'}:=I.un (Un.laid k hp (I.hok.fresh hp)) (I.hok.laid k hp new)
def Inv.write{x e:Addr}{o:HO}{t':Nat}(I:Inv X gV σ H s)(mu:Mut (H x))(he:e=x∨H e=some (.own x))(k:∀b u,b≠e->s.heap.get? b=some u->h'.get? b=some u)(kU:∃u,h'.get? e=some u)(new:ObjOk X.prog X.w (upd H x o) h' x o):Inv X gV σ (upd H x o) {s with heap:=h',toks:=t'}:=I.un (Un.write mu he k kU) (I.hok.write mu he k kU new)
def Inv.pins_of{km:g9}(I:Inv X gV σ H s)(h:∀p∈km,s.heap.get? p.1=some p.2∧H p.1=none∧p.1≠X.env.locals∧p.1 ∉ X.fs∧∀v,p.2.data≠.cell v):Inv X km σ H s:=
 ⟨I.ok,I.os,I.bare,I.base,I.loc,I.cell,I.free,I.freeC,λp hp=>(cZ.mp hp).elim (λz=>I.pin p (eI _ z)) (h p),I.hok,I.len⟩
def LL{N:iD}(hN:N.Nodup){i j:Nat}{x:Str}(a:N[i]?=some x)(b:N[j]?=some x):i=j:=by
 obtain⟨h1,e1⟩:=aG.mp a;obtain⟨h2,e2⟩:=aG.mp b;exact(List.getElem_inj hN).mp (e1.trans e2.symm)
def NV{M:Model}{A:Around}{E:g6}{i:Nat}{x:Str}{v:V}{u:Value}{Q:Unit->Shared->Prop}(I:Inv X gV σ H s)(hN:X.N.Nodup)(hi:X.N[i]?=some x)(hx:Loc X.env.scope x)(r:RelV v u)(h:∀s',Inv X gV (σ.set i (some v)) H s'->(∃a,Heap.SameBut a s.heap s'.heap∧(a=X.env.locals∨X.env.cells.lookup x=some a))->Q () s') (hf:X.fn x=true∨X.env.scope.names.lookup x=some .local:=by first|exact .inl rfl|exact .inr rfl|assumption):wpAny M A (storeName X.env x u) Q E s:=by
 obtain⟨m,hn,hl⟩:=id I.loc;have hcls:(X.env.scope.kind == .class || (X.env.scope.kind == .module&&X.env.locals != X.env.globals))=false:=by rw[I.ok.kind];rfl
 have hiσ:i < σ.length:=by rw[I.len];exact(aG.mp hi).1
 have cne:=I.cne
 have tracked:∀{a:Addr} {h':Heap},(∃o,s.heap.get? a=some o∧H a=none)->Heap.SameBut a s.heap h'->HOk X.prog X.w H h':=λ{a h'} ha hs b ob e=>by
  obtain⟨_,_,kn⟩:=ha;refine(I.hok b ob e).stay (λc w' hc q=>(hs.2 c ?_).trans q) (λ_ q=>q) λ_ _ q=>q
  rintro rfl;rcases hc with rfl|hc
  ·rw[kn]at e;cases e
  ·rw[kn]at hc;cases hc
 rcases hx with hk|hk
 ·refine wpAny_storeName_local hk hn (λh' lV hs=>?_) hcls
  obtain⟨oL,_,_,lE,_⟩:=id hn;refine h _ ⟨I.ok,I.os,I.bare,⟨λb o e n hb hx=>?_,λb o e n hb hx=>?_,I.base.free,λb o e hx=>?_,I.base.tups,I.base.frzs,I.base.tbls⟩,⟨_,lV,λj y v' e1 e2 e3=>?_⟩,λy c e=>?_,I.free,I.freeC,λp hp=>?_,tracked ⟨oL,lE,I.free⟩ hs,by simpa using I.len⟩ ⟨_,hs,.inl rfl⟩
  ·exact(hs.2 b (bB (bI (aP e) I.ok.above))).trans (I.base.keep b o e n hb hx)
  ·obtain⟨sl,e1⟩:=I.base.slot b o e n hb hx
   exact⟨sl,(hs.2 b (bB (bI (aP e) I.ok.above))).trans e1⟩
  ·obtain⟨o',e1⟩:=I.base.there b o e hx
   exact⟨o',(hs.2 b (bB (bI (aP e) I.ok.above))).trans e1⟩
  ·by_cases hj:j=i
   ·subst hj
    rw[hi]at e1;cases e1;rw[bV hiσ]at e2;cases e2;exact⟨u,r,.inl ⟨hk,by simp⟩⟩
   ·rw[bN (cF hj)]at e2
    obtain⟨u',r',q⟩:=hl j y v' e1 e2 e3;refine⟨u',r',?_⟩;rcases q with ⟨k,e⟩|⟨k,c,e,z⟩
    ·refine .inl ⟨k,?_⟩
     have:y≠x:=λe=>hj (LL hN e1 (e ▸ hi))
     simp[this,e]
    ·exact .inr ⟨k,c,e,z.sameBut hs (cne y c e)⟩
  ·obtain⟨w',z⟩:=I.cell y c e
   exact⟨w',z.sameBut hs (cne y c e)⟩
  ·obtain⟨e,n,ne,nf,d⟩:=I.pin p hp
   exact⟨(hs.2 p.1 ne).trans e,n,ne,nf,d⟩
 ·have hfn:X.fn x=true:=by
   rcases hf with z|z
   ·exact z
   ·rw[z]at hk;cases hk
  obtain⟨c,hc⟩:=I.ok.has x (.inl hk);obtain⟨w',z⟩:=I.cell x c hc;refine wpAny_storeName_cell I.ok.kind hk hc z (λh' kD hs=>?_);obtain⟨oc,lG,lW⟩:=id z;refine h {s with heap:=h'} ⟨I.ok,I.os,I.bare,⟨λb o e n hb hx=>?_,λb o e n hb hx=>?_,I.base.free,λb o e hx=>?_,I.base.tups,I.base.frzs,I.base.tbls⟩,⟨m,hn.sameBut hs (cF (cne x c hc)),λj y v' e1 e2 e3=>?_⟩,λy c' e=>?_,I.free,I.freeC,λp hp=>?_,tracked ⟨oc,lG,I.freeC x c hc⟩ hs,by simpa using I.len⟩ ⟨c,hs,.inr hc⟩
  ·exact(hs.2 b (bB (bI (aP e) (I.ok.cab x c hfn hc)))).trans (I.base.keep b o e n hb hx)
  ·obtain⟨sl,e1⟩:=I.base.slot b o e n hb hx
   exact⟨sl,(hs.2 b (bB (bI (aP e) (I.ok.cab x c hfn hc)))).trans e1⟩
  ·obtain⟨o',e1⟩:=I.base.there b o e hx
   exact⟨o',(hs.2 b (bB (bI (aP e) (I.ok.cab x c hfn hc)))).trans e1⟩
  ·by_cases hj:j=i
   ·subst hj
    rw[hi]at e1;cases e1;rw[bV hiσ]at e2;cases e2;exact⟨u,r,.inr ⟨.inl hk,c,hc,kD⟩⟩
   ·rw[bN (cF hj)]at e2
    obtain⟨u',r',q⟩:=hl j y v' e1 e2 e3;refine⟨u',r',?_⟩;rcases q with q|⟨k,c',e,z'⟩
    ·exact .inl q
    ·refine .inr ⟨k,c',e,z'.sameBut hs ?_⟩
     rintro rfl;exact hj (LL hN e1 (I.ok.inj _ _ _ e hc ▸ hi))
  ·by_cases hcc:c'=c
   ·subst hcc;exact⟨_,kD⟩
   ·obtain⟨w2,z2⟩:=I.cell y c' e
    exact⟨w2,z2.sameBut hs hcc⟩
  ·obtain⟨e,n,ne,nf,d⟩:=I.pin p hp
   refine⟨(hs.2 p.1 ?_).trans e,n,ne,nf,d⟩;intro q;rw[q,lG]at e;have q':oc=p.2:=bT e;exact d w' (by rw[← q'];exact lW)
def LG{M:Model}{A:Around}{E:g6}{i:Nat}{x:Str}{v:V}{u:Value}{Q:Unit->Shared->Prop}(I:Inv X gV σ H s)(hN:X.N.Nodup)(hi:X.N[i]?=some x)(hx:Loc X.env.scope x)(r:RelV v u)(h:∀s',Inv X gV (σ.set i (some v)) H s'->Q () s') (hf:X.fn x=true∨X.env.scope.names.lookup x=some .local:=by first|exact .inl rfl|exact .inr rfl|assumption):wpAny M A (storeName X.env x u) Q E s:=
 NV I hN hi hx r (λs' I' _=>h s' I') hf
def Inv.call'{s':Shared}{ch:h8}(I:Inv X gV σ H s)(ho:s'.os=s.os)(u:Un (frs X.stack) ch H H' s.heap s'.heap)(hok:HOk X.prog X.w H' s'.heap)(hg:AllBare s'.gens)(jZ:∀b∈ch,(b∈X.ex∨X.s₀.heap.objs.size<=b)∧b≠X.env.locals∧(∀x c,X.env.cells.lookup x=some c->c≠b)∧∀p∈X.pn++gV,p.1≠b):Inv X gV σ H' s':=by
 obtain⟨h',g',d',t',o'⟩:=s';have e:o'=s.os:=ho;subst e;exact I.call (g':=g') (t':=t') (d':=d') u hok hg jZ
end
abbrev XK:=Value->Option Addr->Hp->Prop
abbrev St:=List (Option V)
abbrev VK:=V->Hp->Prop
abbrev TE:=St->Hp->VK->Prop
abbrev TT:=St->Hp->(Bool->Hp->Prop)->Prop
abbrev TA:=St->Hp->(iH->Hp->Prop)->Prop
structure Ends where
 nx:St->Hp->Prop
 rt:VK
 bk:St->Hp->Prop:=λ_ _=>False
 ct:St->Hp->Prop:=λ_ _=>False
abbrev TS:=Ends->St->Hp->Prop
def EP(X:Cx)(gV:g9)(σ:St)(Q:VK)(u:Value)(s':Shared):Prop:=∃v H',Inv X gV σ H' s'∧RelV v u∧Q v H'
def TP(X:Cx)(gV:g9)(σ:St)(Q:Bool->Hp->Prop)(b:Bool)(s':Shared):Prop:=∃H',Inv X gV σ H' s'∧Q b H'
def AP(X:Cx)(gV:g9)(σ:St)(Q:iH->Hp->Prop)(us:iA)(s':Shared):Prop:=∃vs H',Inv X gV σ H' s'∧Vals vs us∧Q vs H'
def SP(X:Cx)(gV:g9)(D:Ends)(f:Flow)(s':Shared):Prop:=
 match f with
 |.next=>∃ir H',Inv X gV ir H' s'∧D.nx ir H'
 |.brk=>∃ir H',Inv X gV ir H' s'∧D.bk ir H'
 |.cont=>∃ir H',Inv X gV ir H' s'∧D.ct ir H'
 |.ret u=>∃v ir H',Inv X gV ir H' s'∧RelV v u∧D.rt v H'
def PE(X:Cx)(e:Expr)(t:TE):Prop:=
 ∀(gV:g9) (s:Shared) (σ:St) (H:Hp) (Q:VK),Inv X gV σ H s->t σ H Q->wpAny (model X.prog X.w) X.A (eval e X.env) (EP X gV σ Q) X.xe s
def PT(X:Cx)(e:Expr)(t:TT):Prop:=
 ∀(gV:g9) (s:Shared) (σ:St) (H:Hp) (Q:Bool->Hp->Prop),Inv X gV σ H s->t σ H Q->wpAny (model X.prog X.w) X.A (isTrue e X.env (eval e X.env)) (TP X gV σ Q) X.xe s
def PW(X:Cx)(e:Expr)(t:TT):Prop:=
 ∀(whole:Sem Value) (gV:g9) (s:Shared) (σ:St) (H:Hp) (Q:Bool->Hp->Prop),Inv X gV σ H s->t σ H Q->wpAny (model X.prog X.w) X.A (isTrue e X.env whole) (TP X gV σ Q) X.xe s
def PW.pt{X:Cx}{e:Expr}{t:TT}(h:PW X e t):PT X e t:=h _
def PA(X:Cx)(es:iE)(t:TA):Prop:=
 ∀(pos:Pos) (gV:g9) (s:Shared) (σ:St) (H:Hp) (Q:iH->Hp->Prop),Inv X gV σ H s->t σ H Q->wpAny (model X.prog X.w) X.A (spliced (backTo pos (starEach es X.env))) (AP X gV σ Q) X.xe s
def PS(X:Cx)(st:Stmt)(t:TS):Prop:=
 ∀(gV:g9) (s:Shared) (σ:St) (H:Hp) (D:Ends),Inv X gV σ H s->t D σ H->wpAny (model X.prog X.w) X.A (exec st X.env) (SP X gV D) X.xe s
def PSs(X:Cx)(st:List Stmt)(t:TS):Prop:=
 ∀(gV:g9) (s:Shared) (σ:St) (H:Hp) (D:Ends),Inv X gV σ H s->t D σ H->wpAny (model X.prog X.w) X.A (execs st X.env) (SP X gV D) X.xe s
def thn{α:Type}{t:Sem α}{Q Q':α->Shared->Prop}{M:Model}{A:Around}{E:g6}{s:Shared}(h:wpAny M A t Q E s)(hQ:∀a s,Q a s->Q' a s):wpAny M A t Q' E s:=cy h hQ λ_ _ x=>x
section
variable{X:Cx}
def tVar(i:Nat):TE:=λσ H Q=>∃v,σ[i]?=some (some v)∧Q v H
def tC(v:V):TE:=λ_ H Q=>Q v H
def pe_var{i:Nat}{x:Str}{pos:Pos}(hN:X.N[i]?=some x)(hv:Vis X.env.scope x)(hd:(x == ("__debug__":Str))=false:=by decide)(jL:(x == ("__classdict__":Str))=false:=by decide):PE X (.Name x pos) (tVar i):=by
 intro gV s σ H Q I h;obtain⟨v,e,h⟩:=h;obtain⟨m,hn,hl⟩:=I.loc;obtain⟨u,r,l⟩:=hl i x v hN e hv;have fin:EP X gV σ Q u s:=⟨v,H,I,r,h⟩;rcases l with ⟨hk,hm⟩|⟨hk,c,hc,jB⟩
 ·exact wpAny_Name (wpAny_loadName_local I.ok.kind hk hn hm fin) hd
 ·rcases hk with hk|hk
  ·exact wpAny_Name (wpAny_loadName_cell I.ok.kind hk hc jB fin) hd
  ·exact wpAny_Name (wpAny_loadName_free I.ok.kind hk hc jB fin jL) hd
def pe_int{i j pos}:PE X (.Constant (.int i) j pos) (tC (.int i)):=λ_ _ _ H _ I h=>wpAny_Constant_int ⟨.int i,H,I.tok _,⟨_,rfl⟩,h⟩
def pe_bl{b j pos}:PE X (.Constant (.bool b) j pos) (tC (.bl b)):=λ_ _ _ H _ I h=>Constant_bool ⟨.bl b,H,I,rfl,h⟩
def pe_non{j pos}:PE X (.Constant .none j pos) (tC .non):=λ_ _ _ H _ I h=>Constant_none ⟨.non,H,I,rfl,h⟩
def DX{x j pos}:PE X (.Constant (.str x) j pos) (tC (.str x)):=λ_ _ _ H _ I h=>Calls.Constant_str ⟨.str x,H,I.tok _,⟨_,rfl⟩,h⟩
def Gl(X:Cx)(x:Str):Prop:=X.env.kindOf x=some .globalImplicit
def QP{E:g6}{gV:g9}{s:Shared}{σ:St}{H:Hp}{x:Str}{u:Value}{pos:Pos}{Q:g6}(I:Inv X gV σ H s)(hg:Gl X x)(hm:X.mg x=some u)(h:Q u s)(hd:(x == ("__debug__":Str))=false:=by decide):wpAny (model X.prog X.w) X.A (eval (.Name x pos) X.env) Q E s:=
 Calls.Name_function_global I.ok.kind hg (Calls.loadGlobal_global (by rw[I.ok.glob];exact I.mod.glob.keeps I.bk) hm h) hd
def JY{E:g6}{gV:g9}{s:Shared}{σ:St}{H:Hp}{x:Str}{u:Value}{pos:Pos}{Q:g6}(I:Inv X gV σ H s)(hg:Gl X x)(hm:X.mg x=none)(hv:bootBuiltins x=some u)(h:Q u s)(hn:x≠"__name__":=by decide) (hd:(x == ("__debug__":Str))=false:=by decide):wpAny (model X.prog X.w) X.A (eval (.Name x pos) X.env) Q E s:=by
 obtain⟨mb,h1,h2⟩:=I.mod.blt;exact Calls.Name_function_global I.ok.kind hg (Calls.loadGlobal_builtin (by rw[I.ok.glob];exact I.mod.glob.keeps I.bk) hm (by rw[I.ok.blt];exact h1.keeps I.bk) ((h2 x hn).trans hv) h) hd
def Hg{x:Str}{v:V}{u:Value}{pos:Pos}(hg:Gl X x)(hm:X.mg x=some u)(r:RelV v u)(hd:(x == ("__debug__":Str))=false:=by decide):PE X (.Name x pos) (tC v):=
 λ_ _ _ H _ I h=>QP I hg hm ⟨v,H,I,r,h⟩ hd
variable{a b:Expr}{ta tb:TE}{pos:Pos}
def PC(X:Cx)(op:CmpOp)(a b:Expr)(t:TE):Prop:=
 ∀(gV:g9) (s:Shared) (σ:St) (H:Hp) (Q:VK),Inv X gV σ H s->t σ H Q ->
  wpAny (model X.prog X.w) X.A (eval a X.env) (λv iq=>wpAny (model X.prog X.w) X.A (eval b X.env) (λu ib=>wpAny (model X.prog X.w) X.A (compareOp op v u) (EP X gV σ Q) X.xe ib) X.xe iq) X.xe s
def LM(b:Expr){op:CmpOp}(h:op≠.In)(h2:op≠.NotIn):behindInMarks op b=false:=by
 have e1:(op == CmpOp.In)=false:=by cases op <;> first|rfl|exact absurd rfl h
 have e2:(op == CmpOp.NotIn)=false:=by cases op <;> first|rfl|exact absurd rfl h2
 cases b <;> simp[behindInMarks,e1,e2]
def tIsN(ta:TE):TE:=λσ H Q=>ta σ H λx H1=>Q (.bl (decide (x=.non))) H1
def tNotN(ta:TE):TE:=λσ H Q=>ta σ H λx H1=>Q (.bl (!decide (x=.non))) H1
def RelV.none_iff{x:V}{v:Value}(r:RelV x v):(v == Value.none)=decide (x=.non):=by
 cases x with
 |non=>cases r;rfl
 |bl _=>cases r;rfl
 |int _=>obtain⟨t,rfl⟩:=r;rfl
 |str _=>obtain⟨t,rfl⟩:=r;rfl
 |byt _=>obtain⟨t,rfl⟩:=r;rfl
 |flt _=>obtain⟨t,rfl⟩:=r;rfl
 |ref _=>cases r;rfl
 |ty _=>cases r;rfl
def Ex{j iQ}(ha:PE X a ta):PC X .Is a (.Constant .none j iQ) (tIsN ta):=by
 intro gV s σ H Q I h;refine thn (ha gV s σ H _ I h) λv s1 ⟨x,H1,I1,r1,q1⟩=>?_
 exact Constant_none (is_none_gen ⟨.bl _,H1,I1,by rw[r1.none_iff];rfl,q1⟩)
def Cs{j iQ}(ha:PE X a ta):PC X .IsNot a (.Constant .none j iQ) (tNotN ta):=by
 intro gV s σ H Q I h;refine thn (ha gV s σ H _ I h) λv s1 ⟨x,H1,I1,r1,q1⟩=>?_
 exact Constant_none (isnot_none_gen ⟨.bl _,H1,I1,by rw[r1.none_iff];rfl,q1⟩)
def tB(t:TE):TT:=λσ H Q=>t σ H λx H1=>∃c,x=.bl c∧Q c H1
def Do{op:CmpOp}{t:TE}(h:PC X op a b t)(h1:behindInMarks op b=false:=by first|exact LM _ (by decide) (by decide)|rfl):PE X (.Compare a [op] [b] pos) t:=λgV s σ H Q I hw=>wpAny_Compare1 (h gV s σ H Q I hw) h1
def Lu{op:CmpOp}{t:TE}(h:PC X op a b t)(h1:behindInMarks op b=false:=by first|exact LM _ (by decide) (by decide)|rfl):PT X (.Compare a [op] [b] pos) (tB t):=by
 intro gV s σ H Q I hw;refine wpAny_isTrue_Compare1 (thn (h gV s σ H _ I hw) λv s1 h1=>thn h1 λu s2 h2=>thn h2 λc s3 ⟨x,H1,I1,r1,q1⟩=>?_) h1;obtain⟨d,rfl,q⟩:=q1;cases r1;exact dU ⟨H1,I1,q⟩
variable{tA lH:TT}{rest:iE}
def tAnd(t u:TT):TT:=λσ H Q=>t σ H λc H1=>if c=true then u σ H1 Q else Q false H1
def tOr(t u:TT):TT:=λσ H Q=>t σ H λc H1=>if c=true then Q true H1 else u σ H1 Q
def tNot(t:TT):TT:=λσ H Q=>t σ H λc H1=>Q (!c) H1
def C3(ha:PT X a tA):PW X (.BoolOp .And [a] pos) tA:=by
 intro wh gV s σ H Q I h;refine isTrue_and (thn (ha gV s σ H Q I h) λc s1 e=>?_);cases c with
 |true=>exact isTrue_and_nil e
 |false=>exact e
def pw_or1(ha:PT X a tA):PW X (.BoolOp .Or [a] pos) tA:=by
 intro wh gV s σ H Q I h;refine isTrue_or (thn (ha gV s σ H Q I h) λc s1 e=>?_);cases c with
 |false=>exact isTrue_or_nil e
 |true=>exact e
def pw_and(ha:PT X a tA)(hb:PW X (.BoolOp .And (b::rest) pos) lH):PW X (.BoolOp .And (a::b::rest) pos) (tAnd tA lH):=by
 intro wh gV s σ H Q I h;refine isTrue_and (thn (ha gV s σ H _ I h) λc s1 ⟨H1,I1,q1⟩=>?_);cases c with
 |true=>exact hb wh gV s1 σ H1 Q I1 q1
 |false=>exact⟨H1,I1,q1⟩
def pw_or(ha:PT X a tA)(hb:PW X (.BoolOp .Or (b::rest) pos) lH):PW X (.BoolOp .Or (a::b::rest) pos) (tOr tA lH):=by
 intro wh gV s σ H Q I h;refine isTrue_or (thn (ha gV s σ H _ I h) λc s1 ⟨H1,I1,q1⟩=>?_);cases c with
 |true=>exact⟨H1,I1,q1⟩
 |false=>exact hb wh gV s1 σ H1 Q I1 q1
def pt_not(ha:PT X a tA):PT X (.UnaryOp .Not a pos) (tNot tA):=by
 intro gV s σ H Q I h;exact isTrue_not (ha gV s σ H (λc H1=>Q (!c) H1) I h)
def tAndV(ta tb:TE):TE:=λσ H Q=>ta σ H λx H1=>∃c,x=.bl c∧if c=true then tb σ H1 Q else Q (.bl false) H1
def tNotV(ta:TE):TE:=λσ H Q=>ta σ H λx H1=>∃c,x=.bl c∧Q (.bl (!c)) H1
def pe_one{op}{t:TE}(h:PE X a t):PE X (.BoolOp op [a] pos) t:=λgV s σ H Q I hw=>BoolOp_one (h gV s σ H Q I hw)
def pe_and(ha:PE X a ta)(hb:PE X (.BoolOp .And (b::rest) pos) tb):PE X (.BoolOp .And (a::b::rest) pos) (tAndV ta tb):=by
 intro gV s σ H Q I h;refine BoolOp_and (thn (ha gV s σ H _ I h) λv s1 ⟨x,H1,I1,r1,q1⟩=>?_);obtain⟨c,rfl,q1⟩:=q1;cases r1;refine dU ?_;cases c with
 |true=>exact hb gV s1 σ H1 Q I1 q1
 |false=>exact⟨.bl false,H1,I1,rfl,q1⟩
def pe_not(ha:PE X a ta):PE X (.UnaryOp .Not a pos) (tNotV ta):=by
 intro gV s σ H Q I h;refine UnaryOp_ (thn (ha gV s σ H _ I h) λv s1 ⟨x,H1,I1,r1,q1⟩=>?_);obtain⟨c,rfl,q1⟩:=q1;cases r1;exact not_of (dU ⟨.bl (!c),H1,I1,rfl,q1⟩)
def tIf(t:TT)(ta tb:TE):TE:=λσ H Q=>t σ H λc H1=>if c=true then ta σ H1 Q else tb σ H1 Q
def FN{c:Expr}(hc:PT X c tA)(ha:PE X a ta)(hb:PE X b tb):PE X (.IfExp c a b pos) (tIf tA ta tb):=by
 intro gV s σ H Q I h;refine wpAny_IfExp (thn (hc gV s σ H _ I h) λd s1 ⟨H1,I1,q1⟩=>?_);cases d with
 |true=>exact ha gV s1 σ H1 Q I1 q1
 |false=>exact hb gV s1 σ H1 Q I1 q1
end
def SqL(K:g8)(H:Hp)(a:Addr)(xs:iH):Prop:=
 Rd H a (.lst xs) ∨
  ∃(o:Obj) (ik:Array Value) (n:Nat),K.lookup a=some o∧o.cls=.type "list"∧o.dict=none∧o.data=.seq ik n∧ik.size<=sizeLine∧Vals xs ik.toList
def SqT(K:g8)(H:Hp)(a:Addr)(xs:iH):Prop:=
 Rd H a (.tup xs) ∨
  ∃(o:Obj) (ik:Array Value) (n:Nat),K.lookup a=some o∧o.cls=.type "tuple"∧o.data=.seq ik n∧ik.size<=sizeLine∧Vals xs ik.toList
def absV:Value->Option V
 |.none=>some .non
 |.bool b=>some (.bl b)
 |.int i _=>some (.int i)
 |.str x _=>some (.str x)
 |.bytes b _=>some (.byt b)
 |.float b _=>some (.flt b)
 |.ref a=>some (.ref a)
 |.type n=>some (.ty n)
 |_=>none
def RelV.abs{x:V}{u:Value}(r:RelV x u):absV u=some x:=by
 cases x with
 |non=>cases r;rfl
 |bl _=>cases r;rfl
 |int _=>obtain⟨t,rfl⟩:=r;rfl
 |str _=>obtain⟨t,rfl⟩:=r;rfl
 |byt _=>obtain⟨t,rfl⟩:=r;rfl
 |flt _=>obtain⟨t,rfl⟩:=r;rfl
 |ref _=>cases r;rfl
 |ty _=>cases r;rfl
def RelV.inj{x y:V}{u:Value}(r:RelV x u)(q:RelV y u):x=y:=bT (r.abs.symm.trans q.abs)
def Vals.inj:∀{xs ys:iH} {us:iA},Vals xs us->Vals ys us->xs=ys
 |_,_,_,.nil,.nil=>rfl
 |_,_,_,.cons r t,.cons r' t'=>by rw[r.inj r',Vals.inj t t']
section
variable{X:Cx}{gV:g9}{σ:St}{H:Hp}{s:Shared}{a:Addr}{xs ys:iH}
def SqL.of{K:g8}(h:H a=some (.lst xs)):SqL K H a xs:=.inl (.inl h)
def SqT.of{K:g8}(h:H a=some (.tup xs)):SqT K H a xs:=.inl (.inl h)
def Inv.list(I:Inv X gV σ H s)(h:SqL X.K H a xs):∃ik:iA,Vals xs ik∧PlainL s.heap a ik.toArray∧xs.length<=sizeLine:=by
 rcases h with h|⟨o,ik,n,hk,hc,hd,hs,hz,r⟩
 ·obtain⟨z,ik,n,r,e⟩:=h.ok I.hok
  exact⟨ik,r,⟨_,n,e,rfl,rfl,rfl⟩,z⟩
 ·refine⟨ik.toList,r,⟨o,n,I.kIn a o hk,hc,hd,by simpa using hs⟩,?_⟩
  have e:=r.length;simp only[aQ]at e;omega
def Inv.tuple(I:Inv X gV σ H s)(h:SqT X.K H a xs):∃ik:iA,Vals xs ik∧IsTup s.heap a ik.toArray∧xs.length<=sizeLine:=by
 rcases h with h|⟨o,ik,n,hk,hc,hs,hz,r⟩
 ·obtain⟨z,ik,r,p⟩:=h.ok I.hok
  exact⟨ik,r,p,z⟩
 ·refine⟨ik.toList,r,⟨o,I.kIn a o hk,hc,n,by simpa using hs⟩,?_⟩
  have e:=r.length;simp only[aQ]at e;omega
def Inv.list_inj(I:Inv X gV σ H s)(h:SqL X.K H a xs)(h':SqL X.K H a ys):xs=ys:=by
 obtain⟨ik,r,⟨o,n,e,_,_,d⟩,_⟩:=I.list h;obtain⟨its',r',⟨o',n',e',_,_,d'⟩,_⟩:=I.list h';rw[e]at e';cases e';rw[d]at d';injection d' with d1 _
 have:ik=its':=by simpa using cx Array.toList d1
 subst this;exact r.inj r'
end
abbrev Cx.wish(X:Cx)(E:g6):Cx:={X with xe:=E}
abbrev Cx.nox(X:Cx):Cx:=X.wish λ_ _=>False
def Cx.Ok.wish{X:Cx}(ok:X.Ok)(E:g6):(X.wish E).Ok:=
 ⟨ok.mod,ok.kind,ok.glob,ok.blt,ok.above,ok.inj,ok.has,ok.cab,ok.hd,ok.frames,ok.stk,ok.exf,ok.bs,ok.bsz,ok.noex,ok.exfs,ok.funs,ok.frf⟩
def Cx.Ok.unwish{X:Cx}{E:g6}(ok:(X.wish E).Ok):X.Ok:=
 ⟨ok.mod,ok.kind,ok.glob,ok.blt,ok.above,ok.inj,ok.has,ok.cab,ok.hd,ok.frames,ok.stk,ok.exf,ok.bs,ok.bsz,ok.noex,ok.exfs,ok.funs,ok.frf⟩
section
variable{X:Cx}{gV:g9}{σ:St}{H:Hp}{s:Shared}{E:g6}
def Inv.wish(I:Inv X gV σ H s)(E:g6):Inv (X.wish E) gV σ H s:=⟨I.ok.wish E,I.os,I.bare,I.base,I.loc,I.cell,I.free,I.freeC,I.pin,I.hok,I.len⟩
def Inv.unwish(I:Inv (X.wish E) gV σ H s):Inv X gV σ H s:=⟨I.ok.unwish,I.os,I.bare,I.base,I.loc,I.cell,I.free,I.freeC,I.pin,I.hok,I.len⟩
def SP.unwish{D:Ends}{f:Flow}{s':Shared}(h:SP (X.wish E) gV D f s'):SP X gV D f s':=by
 cases f with
 |next=>obtain⟨ir,H',I,q⟩:=h;exact⟨ir,H',I.unwish,q⟩
 |brk=>obtain⟨ir,H',I,q⟩:=h;exact⟨ir,H',I.unwish,q⟩
 |cont=>obtain⟨ir,H',I,q⟩:=h;exact⟨ir,H',I.unwish,q⟩
 |ret u=>obtain⟨v,ir,H',I,r,q⟩:=h;exact⟨v,ir,H',I.unwish,r,q⟩
def PE.nox{e:Expr}{t:TE}(h:PE X.nox e t):PE X e t:=λgV s σ H Q I hw=>
 cy (h gV s σ H Q (I.wish _) hw) (λ_ _ ⟨v,H',I',r,q⟩=>⟨v,H',I'.unwish,r,q⟩) λ_ _ z=>False.elim z
def PT.nox{e:Expr}{t:TT}(h:PT X.nox e t):PT X e t:=λgV s σ H Q I hw=>
 cy (h gV s σ H Q (I.wish _) hw) (λ_ _ ⟨H',I',q⟩=>⟨H',I'.unwish,q⟩) λ_ _ z=>False.elim z
def PSs.nox{st:List Stmt}{t:TS}(h:PSs X.nox st t):PSs X st t:=λgV s σ H D I hw=>
 cy (h gV s σ H D (I.wish _) hw) (λ_ _ q=>q.unwish) λ_ _ z=>False.elim z
end
section
variable{X:Cx}{st:Stmt}{rest:List Stmt}{t u:TS}{e:Expr}{te:TE}{pos:Pos}
def tNext:TS:=λD σ H=>D.nx σ H
def tSeq(t u:TS):TS:=λD σ H=>t {D with nx:=u D} σ H
def CS:PSs X [] tNext:=λ_ _ σ H _ I h=>gu ⟨σ,H,I,h⟩
def Pc(h1:PS X st t)(h2:PSs X rest u):PSs X (st::rest) (tSeq t u):=by
 intro gV s σ H D I h;refine wpAny_execs_cons (thn (h1 gV s σ H {D with nx:=u D} I h) λf s1 q=>?_);cases f with
 |next=>
  obtain⟨ir,H',I',q⟩:=q;exact h2 gV s1 ir H' D I' q
 |ret v=>exact q
 |brk=>exact q
 |cont=>exact q
def BA(h1:PS X st t):PSs X [st] t:=by
 intro gV s σ H D I h;refine wpAny_execs_cons (thn (h1 gV s σ H D I h) λf s1 q=>?_);cases f with
 |next=>exact gu q
 |ret v=>exact q
 |brk=>exact q
 |cont=>exact q
def Inv.quiet{gV:g9}{σ:St}{H:Hp}{s:Shared}(I:Inv X gV σ H s):interactive X.env=false:=by simp[interactive,I.ok.kind]
def tDrop(te:TE):TS:=λD σ H=>te σ H λ_ H1=>D.nx σ H1
def BL(he:PE X e te)(hs:swapsWith e none pos.line X.env=pure false:=by rfl):PS X (.Expr e pos) (tDrop te):=by
 intro gV s σ H D I h;exact wpAny_Expr_any (thn (he gV s σ H _ I h) λv s1 ⟨x,H1,I1,r1,q1⟩=>⟨σ,H1,I1,q1⟩) I.quiet hs
def tRet(te:TE):TS:=λD σ H=>te σ H D.rt
def ps_ret(he:PE X e te):PS X (.Return (some e) pos) (tRet te):=by
 intro gV s σ H D I h;exact wpAny_Return_some (thn (he gV s σ H _ I h) λv s1 ⟨x,H1,I1,r1,q1⟩=>⟨x,σ,H1,I1,r1,q1⟩)
def tRetN:TS:=λD _ H=>D.rt .non H
def BR:PS X (.Return none pos) tRetN:=λ_ _ σ H _ I h=>wpAny_Return_none ⟨.non,σ,H,I,rfl,h⟩
def tIfS(c:TT)(t u:TS):TS:=λD σ H=>c σ H λb H1=>if b=true then t D σ H1 else u D σ H1
def ps_if{c:Expr}{a b:List Stmt}{tc:TT}(hc:PT X c tc)(ha:PSs X a t)(hb:PSs X b u):PS X (.If c a b pos) (tIfS tc t u):=by
 intro gV s σ H D I h;refine wpAny_If (thn (hc gV s σ H _ I h) λd s1 ⟨H1,I1,q1⟩=>?_);cases d with
 |true=>exact ha gV s1 σ H1 D I1 q1
 |false=>exact hb gV s1 σ H1 D I1 q1
end
abbrev TG:=V->St->Hp->(St->Hp->Prop)->Prop
abbrev TGs:=iH->St->Hp->(St->Hp->Prop)->Prop
def PG(X:Cx)(target:Expr)(t:TG):Prop:=
 ∀(gV:g9) (s:Shared) (σ:St) (H:Hp) (v:V) (u:Value) (Q:St->Hp->Prop),Inv X gV σ H s->RelV v u->t v σ H Q ->
  wpAny (model X.prog X.w) X.A (assign target X.env u) (λ_ s'=>∃ir H',Inv X gV ir H' s'∧Q ir H') X.xe s
def PGs(X:Cx)(ts:iE)(t:TGs):Prop:=
 ∀(gV:g9) (s:Shared) (σ:St) (H:Hp) (vs:iH) (us:iA) (Q:St->Hp->Prop),Inv X gV σ H s->Vals vs us->t vs σ H Q ->
  wpAny (model X.prog X.w) X.A (assignInOrder ((assignEach ts X.env).map (·.2)) us) (λ_ s'=>∃ir H',Inv X gV ir H' s'∧Q ir H') X.xe s
abbrev TSet:=V->V->V->Hp->(Hp->Prop)->Prop
def PSet(X:Cx)(t:TSet):Prop:=
 ∀(gV:g9) (s:Shared) (σ:St) (H:Hp) (o i v:V) (ov iv u:Value) (Q:Hp->Prop),Inv X gV σ H s->RelV o ov->RelV i iv->RelV v u->t o i v H Q ->
  wpAny (model X.prog X.w) X.A (setItem ov iv u) (λ_ s'=>∃H',Inv X gV σ H' s'∧Q H') X.xe s
section
variable{X:Cx}{pos:Pos}
def Q4(i:Nat):TG:=λv σ H Q=>Q (σ.set i (some v)) H
def YX{i:Nat}{x:Str}(hN:X.N.Nodup)(hi:X.N[i]?=some x)(hx:Loc X.env.scope x)(hf:X.fn x=true∨X.env.scope.names.lookup x=some .local:=by first|exact .inl rfl|exact .inr rfl|assumption):PG X (.Name x pos) (Q4 i):=by
 intro gV s σ H v u Q I r h;exact wpAny_assign_Name (LG I hN hi hx r (λs' I'=>⟨_,H,I',h⟩) hf)
def gNil:TGs:=λvs σ H Q=>vs=[]∧Q σ H
def Aa(t:TG)(u:TGs):TGs:=λvs σ H Q=>∃v r,vs=v::r∧t v σ H λir H'=>u r ir H' Q
def Wh:PGs X [] gNil:=by
 intro gV s σ H vs us Q I r h;obtain⟨e,h⟩:=h;subst e;cases r;exact assignInOrder_nil ⟨σ,H,I,h⟩
def Yi{e:Expr}{es:iE}{t:TG}{u:TGs}(h1:PG X e t)(h2:PGs X es u)(hs:(assignEach (e::es) X.env).map (·.2)=assign e X.env::(assignEach es X.env).map (·.2):=by rfl):PGs X (e::es) (Aa t u):=by
 intro gV s σ H vs us Q I r h;obtain⟨v,vr,e1,h⟩:=h;subst e1;cases r with
 |cons r rr=>
  rw[hs];refine assignInOrder_cons (thn (h1 gV s σ H _ _ _ I r h) λ_ s1 ⟨kE,H1,I1,q1⟩=>?_);exact h2 gV s1 kE H1 _ _ Q I1 rr q1
def Ff(K:g8)(n:Nat)(t:TGs):TG:=λv σ H Q=>∃a xs,v=.ref a∧SqT K H a xs∧xs.length=n∧t xs σ H Q
def Vy{es:iE}{k:Nat}{t:TGs}{n:Nat}(hc:X.calm=true)(h:PGs X es t)(hn:(assignEach es X.env).length=n:=by rfl) (jD:(assignEach es X.env).findIdx? (·.1)=none:=by rfl):PG X (.Tuple es k pos) (Ff X.K n t):=by
 intro gV s σ H v u Q I r hw;obtain⟨a,xs,e1,hq,hl,hw⟩:=hw;subst e1;cases r;obtain⟨ik,rv,ht,hz⟩:=I.tuple hq;refine assign_Tuple_tuple (I.ok.hd hc) ht (by simp[hn,← hl,rv.length]) jD λh' hx=>?_
 have I1:Inv X gV σ H {s with heap:=h'}:=I.kept (t':=s.toks) λb o e=>hx b o (bB (aP e)) e
 exact h gV _ σ H xs _ Q I1 (by simpa using rv) hw
def gSub(to ti:TE)(t:TSet):TG:=λv σ H Q=>to σ H λo H1=>ti σ H1 λi H2=>t o i v H2 λH3=>Q σ H3
def ER{o i:Expr}{to ti:TE}{t:TSet}(ho:PE X o to)(hi:PE X i ti)(hs:PSet X t)(ha:∀v,assign (.Subscript o i pos) X.env v=(do
     let ov ← holding [v] (eval o X.env)
     let iv ← holding [v,ov] (eval i X.env)
     standAt pos
     holding [v,ov,iv] (setItem ov iv v)
     release [v,ov,iv] []):=by intro _;rfl):PG X (.Subscript o i pos) (gSub to ti t):=by
 intro gV s σ H v u Q I r h;rw[ha];refine aB (cE (thn (ho gV s σ H _ I h) λov s1 ⟨x,H1,I1,r1,q1⟩=>?_));refine aB (cE (thn (hi gV s1 σ H1 _ I1 q1) λiv s2 ⟨y,H2,I2,r2,q2⟩=>?_));refine aB (wpAny_standAt (aB (cE (thn (hs gV s2 σ H2 x y v ov iv u _ I2 r1 r2 r q2) λ_ s3 ⟨H3,I3,q3⟩=>?_))));exact wpAny_release ⟨σ,H3,I3,q3⟩
def tAsg(te:TE)(g:TG):TS:=λD σ H=>te σ H λx H1=>g x σ H1 D.nx
def ps_asg{tg e:Expr}{te:TE}{g:TG}(he:PE X e te)(hg:PG X tg g)(hs:swapsWithSole [tg] e pos.line X.env=pure false:=by rfl)(hw:swappedStores [tg] e X.env=pure none:=by rfl)(h1:(assignEach [tg] X.env).map (·.2)=[assign tg X.env]:=by rfl):PS X (.Assign [tg] e pos) (tAsg te g):=by
 intro gV s σ H D I h;refine wpAny_Assign_stores (thn (he gV s σ H _ I h) λv s1 ⟨x,H1,I1,r1,q1⟩=>?_) hs hw;rw[h1];exact thn (hg gV s1 σ H1 x v _ I1 r1 q1) λ_ s2 q=>q
def ps_set{i:Nat}{x:Str}{e:Expr}{te:TE}{iQ:Pos}(hN:X.N.Nodup)(hi:X.N[i]?=some x)(hx:Loc X.env.scope x)(he:PE X e te)(hs:swapsWith e (some (.Name x iQ)) pos.line X.env=pure false:=by rfl)(hf:X.fn x=true∨X.env.scope.names.lookup x=some .local:=by first|exact .inl rfl|exact .inr rfl|assumption):PS X (.Assign [.Name x iQ] e pos) (tAsg te (Q4 i)):=by
 intro gV s σ H D I h;refine wpAny_Assign_Name (thn (he gV s σ H _ I h) λv s1 ⟨y,H1,I1,r1,q1⟩=>?_) hs;exact LG I1 hN hi hx r1 (λs2 I2=>⟨_,H1,I2,q1⟩) hf
end
section
variable{X:Cx}{pos:Pos}
def tWhile(c:TT)(tb:TS):TS:=λD σ H=>∃W:Nat->St->Hp->Prop,(∃m,W m σ H)∧∀m σ H,W m σ H ->
 c σ H λb H1=>if b=true then ∃N:St->Hp->Prop,(∀ir H',N ir H'->∃m',m'<m∧W m' ir H')∧tb {D with nx:=N,ct:=N,bk:=D.nx} σ H1 else D.nx σ H1
def Dq{c:Expr}{body:List Stmt}{tc:TT}{tb:TS}(hp:PassesOwn (model X.prog X.w) X.A X.env X.xe)(hc:PT X c tc)(hb:PSs X body tb):PS X (.While c body [] pos) (tWhile tc tb):=by
 intro gV s σ H D I h;obtain⟨W,⟨m0,w0⟩,turn⟩:=h;refine wpAny_While (codeAny_whileLoop (λn s'=>∃ir H',Inv X gV ir H' s'∧W n ir H') ?_ m0 ⟨σ,H,I,w0⟩);rintro n s1 ⟨kE,H1,I1,w1⟩;refine dN hp (thn (hc gV s1 kE H1 _ I1 (turn n kE H1 w1)) λb s2 ⟨H2,I2,q2⟩=>?_);cases b with
 |true=>
  obtain⟨N,hN,q2⟩:=q2;rw[aC rfl];refine dN hp (thn (hb gV s2 kE H2 _ I2 q2) λf s3 q3=>?_);cases f with
  |next=>
   obtain⟨jM,H3,I3,n3⟩:=q3;obtain⟨m',hm,w3⟩:=hN jM H3 n3;exact⟨m',hm,jM,H3,I3,w3⟩
  |cont=>
   obtain⟨jM,H3,I3,n3⟩:=q3;obtain⟨m',hm,w3⟩:=hN jM H3 n3;exact⟨m',hm,jM,H3,I3,w3⟩
  |brk=>exact q3
  |ret v=>exact q3
 |false=>
  rw[aE aH];exact gu ⟨kE,H2,I2,q2⟩
end
structure It where
 go:Nat->Hp->Prop
 yld:Nat->Hp->V->Hp->Prop
 stop:Nat->Hp->Prop
def Md(X:Cx)(gV:g9)(H:Hp)(b:Addr):Prop:=
 H b=none∧b≠X.env.locals∧b ∉ X.fs∧(b∈X.ex∨X.s₀.heap.objs.size<=b)∧(∀x c,X.env.cells.lookup x=some c->c≠b)∧∀p∈X.pn++gV,p.1≠b
def Inv.fpOk{X:Cx}{gV:g9}{σ:St}{H H':Hp}{s:Shared}{b:Addr}(I:Inv X gV σ H s)(hb:s.heap.objs.size<=b)(hn:H' b=none):Md X gV H' b:=by
 refine⟨hn,dP (bI I.lt hb),I.nofs hb,.inr (bF I.sz hb),λx c e z=>?_,λp hp z=>?_⟩
 ·obtain⟨v,q⟩:=I.cell x c e
  exact absurd (bI q.lt (by rw[z];exact hb)) (cP _)
 ·exact absurd (bI (aP (I.pin p hp).1) (by rw[z];exact hb)) (cP _)
structure Turn(P:Program)(w:World)(K:g8)(tg:Expr)(J:It)(fp:h8)(it:Addr)(tn:Nat->Heap->Prop):Prop where
 mem:it∈fp
 obj:∀i h,tn i h->∀b∈fp,∃o,h.get? b=some o∧∀v,o.data≠.cell v
 keep:∀i h h',tn i h->(∀b∈fp,∀o,h.get? b=some o->h'.get? b=some o)->tn i h'
 item:∀(X:Cx),X.prog=P->X.w=w->X.K=K->X.calm=true->∀(i:Nat) (gV:g9) (s:Shared) (σ:St) (H:Hp) (E:g6),Inv X gV σ H s->(∀b∈fp,Md X gV H b)->tn i s.heap->J.go i H ->
  wpAny (model P w) X.A (pyNext (.ref it)) (λr s1=>∃u,r=some u ∧
   wpAny (model P w) X.A (letOwnedTupleGo tg (.ref it) u) (λ_ s2=>∃x H',Inv X gV σ H' s2∧RelV x u∧J.yld i H x H'∧tn (i+1) s2.heap∧∀b∈fp,H' b=none) E s1) E s
 done:∀(X:Cx),X.prog=P->X.w=w->X.K=K->X.calm=true->∀(i:Nat) (gV:g9) (s:Shared) (σ:St) (H:Hp) (E:g6),Inv X gV σ H s->(∀b∈fp,Md X gV H b)->tn i s.heap->J.stop i H ->
  wpAny (model P w) X.A (pyNext (.ref it)) (λr s1=>r=none∧Inv X gV σ H s1) E s
 self:∀(A:Around) (i:Nat) (s:Shared) (Q:g6) (E:g6),tn i s.heap->Q (.ref it) s->wpAny (model P w) A (pyIter (.ref it)) Q E s
abbrev TI:=St->Hp->(It->Hp->Prop)->Prop
def PIE(X:Cx)(gV:g9)(σ:St)(tg:Expr)(R:It->Hp->Prop)(kF:Value)(s2:Shared):Prop:=
 ∃(it:Addr) (fp:h8) (tn:Nat->Heap->Prop) (J:It) (H':Hp),kF=.ref it∧Inv X gV σ H' s2∧Turn X.prog X.w X.K tg J fp it tn∧tn 0 s2.heap∧(∀b∈fp,Md X gV H' b)∧R J H'
def PI(X:Cx)(tg ii:Expr)(wi:TI):Prop:=
 ∀(gV:g9) (s:Shared) (σ:St) (H:Hp) (R:It->Hp->Prop),Inv X gV σ H s->wi σ H R ->
  wpAny (model X.prog X.w) X.A (eval ii X.env) (λv s1=>wpAny (model X.prog X.w) X.A (pyIter v) (PIE X gV σ tg R) X.xe s1) X.xe s
def FZ{M:Model}{A:Around}{E:g6}{s:Shared}{tg:Expr}{it:Addr}{u:Value}{o:Obj}{n:String}{vs:Array Value}{Q:Unit->Shared->Prop}(ho:s.heap.get? it=some o)(hc:o.cls=.type n)(hd:o.data=.fields vs)(hn:["enumerate","zip","dict_itemiterator","dict_reverseitemiterator","odict_iterator","itertools.zip_longest","itertools.pairwise"].contains n=false) (hQ:Q () s):wpAny M A (letOwnedTupleGo tg (.ref it) u) Q E s:=by
 unfold letOwnedTupleGo
 cases tg <;> first
  |exact aD hQ
  | (cases u <;> first
      |exact aD hQ
      | (refine aB (wpAny_load ho ?_)
         rw[hc,hd];show wpAny M A (if (["enumerate","zip","dict_itemiterator","dict_reverseitemiterator","odict_iterator","itertools.zip_longest","itertools.pairwise"].contains n&&vs[0]? == some (rawInt _))=true then _ else _) Q E s;rw[aE (by intro h;rw[hn,Bool.false_and]at h;cases h)];exact aD hQ))
def Itl(K:g8)(a:Addr):It:=
 ⟨λi H=>∃xs x,SqL K H a xs∧xs[i]?=some x,λi H x H'=>H'=H∧∀xs,SqL K H a xs->xs[i]?=some x,λi H=>∃xs,SqL K H a xs∧xs.length<=i⟩
def Itr(lo:Int)(n:Nat):It:=⟨λi _=>i<n,λi H x H'=>H'=H∧x=.int (lo+i),λi _=>n<=i⟩
def HI{P:Program}{w:World}{K:g8}{tg:Expr}(a it:Addr):Turn P w K tg (Itl K a) [it] it (λi h=>h.IsListIter it a i) where
 mem:=by simp
 obj:=λi h st b hb=>by
  have e:b=it:=by simpa using hb
  subst e;obtain⟨o,e,c,d⟩:=st;exact⟨o,e,λv z=>by rw[d]at z;cases z⟩
 keep:=λi h h' st k=>st.at λo e=>k it (by simp) o e
 item:=by
  intro X hP hw hK hc i gV s σ H E I hf st hg;subst hP hw hK;obtain⟨xs,x,hq,hx⟩:=hg;obtain⟨ik,rv,p,hz⟩:=I.list hq;obtain⟨u,hu,ru⟩:=rv.get hx;obtain⟨f0,f1,f2,f3,f4,f5⟩:=hf it (by simp);refine wpAny_pyNext_list_item st p.isList (x:=u) (by simpa using hu) λh' jE sb=>?_
  have I1:Inv X gV σ H {s with heap:=h'}:=I.turned (t':=s.toks) (λb o hb e=>(sb.2 b hb).trans e) f0 f1 f3 f4 f5;obtain⟨o,e,c,d⟩:=id jE;exact⟨u,rfl,FZ (s:={s with heap:=h'}) e c d (by decide) ⟨x,H,I1,ru,⟨rfl,λys hy=>by rw[I.list_inj hy hq];exact hx⟩,jE,λb hb=>(hf b hb).1⟩⟩
 done:=by
  intro X hP hw hK hc i gV s σ H E I hf st hg;subst hP hw hK;obtain⟨xs,hq,hx⟩:=hg;obtain⟨ik,rv,p,hz⟩:=I.list hq;obtain⟨f0,f1,f2,f3,f4,f5⟩:=hf it (by simp);have hl:=rv.length;exact wpAny_pyNext_list_end (I.ok.hd hc) st p.isList (by simp;omega) λh' eb=>⟨rfl,I.turned (t':=s.toks) (λb o hb e=>eb b o hb e) f0 f1 f3 f4 f5⟩
 self:=λ_ _ _ _ _ st h=>wpAny_pyIter_listiter st h
def Ii{P:Program}{w:World}{K:g8}{tg:Expr}(it:Addr)(lo:Int)(n:Nat):Turn P w K tg (Itr lo n) [it] it (λi h=>IsRangeIter h it (lo+(i:Nat) * 1) ((n:Int)-(i:Nat)) 1) where
 mem:=by simp
 obj:=λi h st b hb=>by
  have e:b=it:=by simpa using hb
  subst e
  exact⟨_,st,λv z=>by
   have z':Data.fields _=Data.cell v:=z;cases z'⟩
 keep:=λi h h' st k=>k it (by simp) _ st
 item:=by
  intro X hP hw hK hc i gV s σ H E I hf st hg;subst hP hw hK;obtain⟨f0,f1,f2,f3,f4,f5⟩:=hf it (by simp);have W:=Walks.range (prog:=X.prog) (w:=X.w) (I.ok.hd hc) it lo 1 n;refine W.item i s _ _ hg st λv h' tk hv jE kk=>?_
  obtain⟨t,rfl⟩:=hv;have I1:Inv X gV σ H {s with heap:=h',toks:=tk}:=I.turned (λb o hb e=>kk b o (by simpa using hb) e) f0 f1 f3 f4 f5;refine⟨_,rfl,FZ (s:={s with heap:=h',toks:=tk}) (n:="range_iterator") jE rfl rfl (by decide) ⟨.int (lo+i),H,I1,⟨t,?_⟩,⟨rfl,rfl⟩,jE,λb hb=>(hf b hb).1⟩⟩;rw[Int.mul_one]
 done:=by
  intro X hP hw hK hc i gV s σ H E I hf st hg;subst hP hw hK;obtain⟨f0,f1,f2,f3,f4,f5⟩:=hf it (by simp);exact wpAny_pyNext_range_end (I.ok.hd hc) st (by have:n<=i:=hg;omega) λh' eb=>⟨rfl,I.turned (t':=s.toks) (λb o hb e=>eb b o hb e) f0 f1 f3 f4 f5⟩
 self:=λ_ _ _ _ _ st h=>wpAny_pyIter_rangeiter st h
section
variable{X:Cx}{tg:Expr}
def iList(K:g8)(tl:TE):TI:=λσ H R=>tl σ H λx H1=>∃a,x=.ref a∧(∃xs,SqL K H1 a xs)∧R (Itl K a) H1
def Bi{l:Expr}{tl:TE}(hl:PE X l tl):PI X tg l (iList X.K tl):=by
 intro gV s σ H R I h;refine thn (hl gV s σ H _ I h) λv s1 ⟨x,H1,I1,r1,q1⟩=>?_
 obtain⟨a,e,⟨xs,hq⟩,q⟩:=q1;subst e;cases r1;obtain⟨ik,rv,p,hz⟩:=I1.list hq;refine gS p.isList ?_;refine⟨s1.heap.objs.size,[s1.heap.objs.size],_,_,H1,rfl,I1.kept (t':=s1.toks) λb o e=>aI _ e,HI a _,⟨_,aZ _ rfl,rfl,rfl⟩,λb hb=>?_,q⟩;have e:b=s1.heap.objs.size:=by simpa using hb
 subst e;exact I1.fpOk (aM _) (I1.hok.fresh (aM _))
def DG{gV:g9}{σ:St}{H:Hp}{s:Shared}{R:It->Hp->Prop}{E:g6}{lo hi:Int}{t u v:Tok}{tk:Nat}(I:Inv X gV σ H s)(h1:-(2 ^ 62)<=lo)(h2:lo<2 ^ 62)(h3:-(2 ^ 62)<=hi)(h4:hi<2 ^ 62)(q:R (Itr lo (hi-lo).toNat) H):wpAny (model X.prog X.w) X.A (pyIter (.ref s.heap.objs.size)) (PIE X gV σ tg R) E {s with heap:=s.heap.push {cls:=.type "range",data:=.fields #[.int lo t,.int hi u,.int 1 v]},toks:=tk}:=by
 refine wpAny_pyIter_range (IsRange.new ..) (small_one h1 h2 h3 h4) ?_;have I1:Inv X gV σ H {s with heap:=s.heap.push {cls:=.type "range",data:=.fields #[.int lo t,.int hi u,.int 1 v]},toks:=tk}:=I.kept λb o e=>aI _ e
 refine⟨(s.heap.push {cls:=.type "range",data:=.fields #[.int lo t,.int hi u,.int 1 v]}).objs.size,[(s.heap.push {cls:=.type "range",data:=.fields #[.int lo t,.int hi u,.int 1 v]}).objs.size],_,_,H,rfl,
  I1.kept (t':=tk) λb o e=>aI _ e,Ii _ lo (hi-lo).toNat,?_,λb hb=>?_,q⟩
 ·have e1:lo+((0:Nat):Int) * 1=lo:=by simp
  have e2:(((hi-lo).toNat:Nat):Int)-((0:Nat):Int)=Builtin.Range.rangeSize lo hi 1:=by rw[rangeSize_one];split <;> omega
  show IsRangeIter _ _ (lo+((0:Nat):Int) * 1) ((((hi-lo).toNat:Nat):Int)-((0:Nat):Int)) 1;rw[e1,e2];exact aZ _ rfl
 ·have e:b=(s.heap.push {cls:=.type "range",data:=.fields #[.int lo t,.int hi u,.int 1 v]}).objs.size:=by simpa using hb
  subst e;exact I1.fpOk (aM _) (I1.hok.fresh (aM _))
def iRng1(ta:TA):TI:=λσ H R=>ta σ H λvs H1=>∃j:Int,vs=[.int j]∧-(2 ^ 62)<=j∧j<2 ^ 62∧R (Itr 0 j.toNat) H1
def GR{a:Expr}{ta:TA}{p pos:Pos}(hg:Gl X "range")(hm:X.mg "range"=none)(ha:PA X [a] ta)(hs:starEach [a] X.env=[(false,eval a X.env)]:=by rfl):PI X tg (.Call (.Name "range" p) [a] [] pos) (iRng1 ta):=by
 intro gV s σ H R I h;refine Call_ (JY I hg hm boot_range (gR (thn (ha pos gV s σ H _ I h) λus s1 ⟨vs,H1,I1,r1,q1⟩=>?_) hs rfl));obtain⟨j,e,q1,q2,q⟩:=q1;subst e;cases r1 with
 |cons r rr=>
  cases rr;obtain⟨t,rfl⟩:=r;exact call_range_1 (DG I1 (by omega) (by omega) q1 q2 (by simpa using q))
def tFor(wi:TI)(g:TG)(tb:TS):TS:=λD σ H=>wi σ H λJ H1=>∃W:Nat->Nat->St->Hp->Prop,(∃m,W 0 m σ H1)∧∀i m σ H,W i m σ H ->
 (J.stop i H∧D.nx σ H)∨(J.go i H∧∃N:St->Hp->Prop,(∀ir H',N ir H'->∃m',m'<m∧W (i+1) m' ir H')∧∀x H',J.yld i H x H'->g x σ H' λjh H2=>tb {D with nx:=N,ct:=N,bk:=D.nx} jh H2)
def RP(fp:h8)(h:Heap):g9:=fp.filterMap λb=>(h.get? b).map λo=>(b,o)
def UQ{fp:h8}{h:Heap}{b:Addr}{o:Obj}(hb:b∈fp)(e:h.get? b=some o):(b,o)∈RP fp h:=gB.mpr ⟨b,hb,by rw[e];rfl⟩
def Gf{fp:h8}{h:Heap}{p:Addr × Obj}(hp:p∈RP fp h):p.1∈fp∧h.get? p.1=some p.2:=by
 obtain⟨b,hb,e⟩:=gB.mp hp;cases q:h.get? b with
 |none=>rw[q]at e;cases e
 |some o=>
  rw[q]at e;have e':(b,o)=p:=bT e;subst e';exact⟨hb,q⟩
def Inv.pinned{gV:g9}{σ:St}{H:Hp}{s:Shared}{fp:h8}(I:Inv X gV σ H s)(hf:∀b∈fp,Md X gV H b)(ho:∀b∈fp,∃o,s.heap.get? b=some o∧∀v,o.data≠.cell v):Inv X (gV++RP fp s.heap) σ H s:=
 I.pins_of λp hp=>(cZ.mp hp).elim (λz=>I.pin p (bY _ z)) λz=>by
  obtain⟨hb,e⟩:=Gf z;obtain⟨f0,f1,f2,_⟩:=hf p.1 hb;obtain⟨o,e',d⟩:=ho p.1 hb;rw[e]at e';cases e';exact⟨e,f0,f1,f2,d⟩
def Inv.unpinned{gV pl:g9}{σ:St}{H:Hp}{s:Shared}(I:Inv X (gV++pl) σ H s):Inv X gV σ H s:=I.pins_of λp hp=>I.pin p (bY _ (eI _ hp))
def El{ii:Expr}{body:List Stmt}{wi:TI}{g:TG}{tb:TS}{pos:Pos}(hp:PassesOwn (model X.prog X.w) X.A X.env X.xe)(hc:X.calm=true)(hi:PI X tg ii wi)(hg:PG X tg g)(hb:PSs X body tb)(hs:∀x,foldedSetIterable ii X.env x=pure x:=by intro _;rfl):PS X (.For tg ii body [] pos) (tFor wi g tb):=by
 intro gV s σ H D I h;refine wpAny_For (thn (hi gV s σ H _ I h) λv s1 h1=>thn h1 λkF s2 h2=>?_) hs;obtain⟨it,fp,tn,J,H2,e,I2,T,lI,f2,W,⟨m0,w0⟩,turn⟩:=h2;subst e;have stat:∀{H':Hp},(∀b∈fp,H' b=none)->∀b∈fp,Md X gV H' b:=λhn b hb=>⟨hn b hb,(f2 b hb).2⟩
 refine codeAny_forLoop_any (λn s'=>∃i ir H',Inv X gV ir H' s'∧tn i s'.heap∧(∀b∈fp,H' b=none)∧W i n ir H') ?_ m0 ⟨0,σ,H2,I2,lI,λb hb=>(f2 b hb).1,w0⟩;rintro n s3 ⟨i,jM,H3,I3,st3,fr3,w3⟩;rcases turn i n jM H3 w3 with ⟨stop,qn⟩|⟨go,N,hN,step⟩
 ·refine dN hp (thn (T.done X rfl rfl rfl hc i gV s3 jM H3 X.xe I3 (stat fr3) st3 stop) λr s4 ⟨hr,I4⟩=>?_)
  subst hr;exact gu ⟨jM,H3,I4,qn⟩
 ·refine dN hp (thn (T.item X rfl rfl rfl hc i gV s3 jM H3 X.xe I3 (stat fr3) st3 go) λr s4 ⟨u,hr,h4⟩=>?_)
  subst hr;refine dN hp (thn h4 λ_ s5 ⟨x,H5,I5,r5,y5,st5,fr5⟩=>?_);have I5':=I5.pinned (stat fr5) (T.obj _ _ st5);refine dN hp (thn (hg _ s5 jM H5 x u _ I5' r5 (step x H5 y5)) λ_ s6 ⟨σ6,H6,I6,q6⟩=>?_);refine dN hp (thn (hb _ s6 σ6 H6 _ I6 q6) λf s7 q7=>?_)
  have again:∀{jN:St} {H7:Hp},Inv X (gV++RP fp s5.heap) jN H7 s7->N jN H7->∃m,m<n∧∃i ir H',Inv X gV ir H' s7∧tn i s7.heap∧(∀b∈fp,H' b=none)∧W i m ir H':=λ{jN H7} I7 n7=>by
   obtain⟨m',hm,w7⟩:=hN jN H7 n7;refine⟨m',hm,i+1,jN,H7,I7.unpinned,T.keep _ _ _ st5 λb hb o e=>(I7.pin (b,o) (bY _ (bY _ (UQ hb e)))).1,λb hb=>?_,w7⟩;obtain⟨o,e,d⟩:=T.obj _ _ st5 b hb;exact(I7.pin (b,o) (bY _ (bY _ (UQ hb e)))).2.1
  cases f with
  |next=>obtain⟨jN,H7,I7,n7⟩:=q7;exact again I7 n7
  |cont=>obtain⟨jN,H7,I7,n7⟩:=q7;exact again I7 n7
  |brk=>obtain⟨jN,H7,I7,q7⟩:=q7;exact⟨jN,H7,I7.unpinned,q7⟩
  |ret v=>obtain⟨x7,jN,H7,I7,r7,q7⟩:=q7;exact⟨x7,jN,H7,I7.unpinned,r7,q7⟩
end
abbrev R2:=V->V->Hp->VK->Prop
def OpR(X:Cx)(f:Value->Value->Sem Value)(r:R2):Prop:=
 ∀(gV:g9) (s:Shared) (σ:St) (H:Hp) (x y:V) (v u:Value) (Q:VK),Inv X gV σ H s->RelV x v->RelV y u->r x y H Q ->
  wpAny (model X.prog X.w) X.A (f v u) (EP X gV σ Q) X.xe s
def CallR(X:Cx)(f:Value)(r:iH->Hp->VK->Prop):Prop:=
 ∀(gV:g9) (s:Shared) (σ:St) (H:Hp) (xs:iH) (us:iA) (Q:VK),Inv X gV σ H s->Vals xs us->r xs H Q ->
  wpAny (model X.prog X.w) X.A (call f us) (EP X gV σ Q) X.xe s
def TruR(X:Cx)(r:V->Hp->(Bool->Hp->Prop)->Prop):Prop:=
 ∀(gV:g9) (s:Shared) (σ:St) (H:Hp) (x:V) (v:Value) (Q:Bool->Hp->Prop),Inv X gV σ H s->RelV x v->r x H Q ->
  wpAny (model X.prog X.w) X.A (truthy v) (TP X gV σ Q) X.xe s
def tOp(r:R2)(ta tb:TE):TE:=λσ H Q=>ta σ H λx H1=>tb σ H1 λy H2=>r x y H2 Q
def rI(C:Int->Int->Prop)(g:Int->Int->V):R2:=λx y H Q=>∃i j,x=.int i∧y=.int j∧C i j∧Q (g i j) H
def rI0(g:Int->Int->V):R2:=λx y H Q=>∃i j,x=.int i∧y=.int j∧Q (g i j) H
section
variable{X:Cx}{a b c:Expr}{ta tb tc:TE}{pos:Pos}
def binT(ha:PE X a ta)(hb:PE X b tb){gV:g9}{s:Shared}{σ:St}{H:Hp}{R:V->V->Hp->Prop}(I:Inv X gV σ H s)(h:ta σ H λx H1=>tb σ H1 λy H2=>R x y H2) {Q:g6} {f:Value->Value->Sem Value}(hf:∀v u s2 x y H2,Inv X gV σ H2 s2->RelV x v->RelV y u->R x y H2->wpAny (model X.prog X.w) X.A (f v u) Q X.xe s2):wpAny (model X.prog X.w) X.A (eval a X.env) (λv iq=>wpAny (model X.prog X.w) X.A (eval b X.env) (λu ib=>wpAny (model X.prog X.w) X.A (f v u) Q X.xe ib) X.xe iq) X.xe s:=by
 refine thn (ha gV s σ H _ I h) λv s1 ⟨x,H1,I1,r1,q1⟩=>?_
 refine thn (hb gV s1 σ H1 _ I1 q1) λu s2 ⟨y,H2,I2,r2,q2⟩=>?_
 exact hf v u s2 x y H2 I2 r1 r2 q2
def FU{op:Operator}{r:R2}(ho:OpR X (binaryOp op) r)(ha:PE X a ta)(hb:PE X b tb):PE X (.BinOp a op b pos) (tOp r ta tb):=by
 intro gV s σ H Q I h;exact wpAny_BinOp (binT ha hb I h λv u s2 x y H2 I2 rx ry q=>ho gV s2 σ H2 x y v u Q I2 rx ry q)
def opI{f:Value->Value->Sem Value}{C:Int->Int->Prop}{g:Int->Int->Int}(rule:∀(i j:Int) (t u:Tok) (s:Shared) (Q:g6) (E:g6),C i j->Q (.int (g i j) s.toks) {s with toks:=s.toks+1}->wpAny (model X.prog X.w) X.A (f (.int i t) (.int j u)) Q E s):OpR X f (rI C λi j=>.int (g i j)):=by
 intro gV s σ H x y v u Q I rx ry h;obtain⟨i,j,rfl,rfl,hc,q⟩:=h;obtain⟨t,rfl⟩:=rx;obtain⟨t',rfl⟩:=ry;exact rule i j t t' s _ _ hc ⟨.int (g i j),H,I.tok _,⟨_,rfl⟩,q⟩
def opI0{f:Value->Value->Sem Value}{g:Int->Int->Int}(rule:∀(i j:Int) (t u:Tok) (s:Shared) (Q:g6) (E:g6),Q (.int (g i j) s.toks) {s with toks:=s.toks+1}->wpAny (model X.prog X.w) X.A (f (.int i t) (.int j u)) Q E s):OpR X f (rI0 λi j=>.int (g i j)):=by
 intro gV s σ H x y v u Q I rx ry h;obtain⟨i,j,rfl,rfl,q⟩:=h;obtain⟨t,rfl⟩:=rx;obtain⟨t',rfl⟩:=ry;exact rule i j t t' s _ _ ⟨.int (g i j),H,I.tok _,⟨_,rfl⟩,q⟩
def opB0{f:Value->Value->Sem Value}{g:Int->Int->Bool}(rule:∀(i j:Int) (t u:Tok) (s:Shared) (Q:g6) (E:g6),Q (.bool (g i j)) s->wpAny (model X.prog X.w) X.A (f (.int i t) (.int j u)) Q E s):OpR X f (rI0 λi j=>.bl (g i j)):=by
 intro gV s σ H x y v u Q I rx ry h;obtain⟨i,j,rfl,rfl,q⟩:=h;obtain⟨t,rfl⟩:=rx;obtain⟨t',rfl⟩:=ry;exact rule i j t t' s _ _ ⟨.bl (g i j),H,I,rfl,q⟩
def CDiv(i j:Int):Prop:=0<j∧j<1073741824
def op_add:OpR X (binaryOp .Add) (rI0 λi j=>.int (i+j)):=opI0 λ_ _ _ _ _ _ _ q=>add_int q
def op_sub:OpR X (binaryOp .Sub) (rI0 λi j=>.int (i-j)):=opI0 λ_ _ _ _ _ _ _ q=>sub_int q
def Cz:OpR X (binaryOp .FloorDiv) (rI CDiv λi j=>.int (i / j)):=opI λi j _ _ _ _ _ hc q=>by
 have h1:(0:Int)<j:=hc.1;have h2:j<1073741824:=hc.2;exact floordiv_int (by omega) (by rw[Int.fdiv_eq_ediv_of_nonneg i (by omega)];exact q) (.inl (PyProof.noPylong_small (by omega)))
def op_mod:OpR X (binaryOp .Mod) (rI (λ_ j=>0<j) λi j=>.int (i % j)):=opI λi j _ _ _ _ _ hc q=>by
 have h1:(0:Int)<j:=hc;exact mod_int' (by omega) (by rw[Int.fmod_eq_emod_of_nonneg i (by omega)];exact q)
end
section
variable{X:Cx}{a b c:Expr}{ta tb tc:TE}{pos:Pos}
def op_lt:OpR X (compareOp .Lt) (rI0 λi j=>.bl (decide (i<j))):=opB0 λ_ _ _ _ _ _ _ q=>lt_int q
def AR:OpR X (compareOp .Gt) (rI0 λi j=>.bl (decide (j<i))):=opB0 λ_ _ _ _ _ _ _ q=>gt_int q
def BZ:OpR X (compareOp .GtE) (rI0 λi j=>.bl (decide (j<=i))):=opB0 λ_ _ _ _ _ _ _ q=>ge_int q
def Uz(b:Expr){op:CmpOp}(h:op≠.In:=by decide)(h2:op≠.NotIn:=by decide):behindInMarks op b=false:=by
 have e1:(op == CmpOp.In)=false:=by cases op <;> first|rfl|exact absurd rfl h
 have e2:(op == CmpOp.NotIn)=false:=by cases op <;> first|rfl|exact absurd rfl h2
 cases b <;> simp[behindInMarks,e1,e2]
def BM{op:CmpOp}{r:R2}(ho:OpR X (compareOp op) r)(ha:PE X a ta)(hb:PE X b tb)(hm:behindInMarks op b=false):PE X (.Compare a [op] [b] pos) (tOp r ta tb):=by
 intro gV s σ H Q I h;exact wpAny_Compare1 (binT ha hb I h λv u s2 x y H2 I2 rx ry q=>ho gV s2 σ H2 x y v u Q I2 rx ry q) hm
def tTest(t:TE):TT:=λσ H Q=>t σ H λx H'=>∃k,x=.bl k∧Q k H'
def BC{op:CmpOp}{r:R2}(ho:OpR X (compareOp op) r)(ha:PE X a ta)(hb:PE X b tb)(hm:behindInMarks op b=false):PT X (.Compare a [op] [b] pos) (tTest (tOp r ta tb)):=by
 intro gV s σ H Q I h
 refine wpAny_isTrue_Compare1 (thn (ha gV s σ H _ I h) λv s1 ⟨x,H1,I1,r1,q1⟩=>thn (hb gV s1 σ H1 _ I1 q1) λu s2 ⟨y,H2,I2,r2,q2⟩=>
  thn (ho gV s2 σ H2 x y v u _ I2 r1 r2 q2) λc s3 ⟨z,H3,I3,r3,k,e,q3⟩=>?_) hm
 subst e;cases r3;exact dU ⟨H3,I3,q3⟩
def TruV(K:g8)(x:V)(H:Hp)(k:Bool):Prop:=
 match x with
 |.non=>k=false
 |.bl b=>k=b
 |.int i=>k=(i != 0)
 |.str y=>y.length<=sizeLine∧k=((y.length:Int) != 0)
 |.byt y=>y.size<=sizeLine∧k=((y.size:Int) != 0)
 |.ref p=>(∃xs,SqL K H p xs∧k=!xs.isEmpty)∨(∃xs,SqT K H p xs∧k=!xs.isEmpty)∨∃kvs,H p=some (.dK kvs)∧k=!kvs.isEmpty
 |_=>False
def Jz{κ:Type}{kvs:List (κ × V)}{vs:List (κ × Value)}(r:KV kvs vs):(!vs.isEmpty)=!kvs.isEmpty:=by
 cases r <;> rfl
def PN{xs:iH}{ik:iA}(r:Vals xs ik):(!ik.toArray.isEmpty)=!xs.isEmpty:=by
 cases r <;> simp
def RN:(sizeLine:Nat)<2 ^ 63:=by rw[cA];decide
def tru_ok:TruR X (λx H Q=>∃k,TruV X.K x H k∧Q k H):=by
 intro gV s σ H x v Q I rx h;obtain⟨k,e,q⟩:=h;have hl:=RN;have hs:sizeLine=16777216:=cA;cases x with
 |non=>
  cases rx;have e':k=false:=e;subst e';exact truthy_none ⟨H,I,q⟩
 |bl b=>
  cases rx;have e':k=b:=e;subst e';exact dU ⟨H,I,q⟩
 |int i=>
  obtain⟨t,rfl⟩:=rx;have e':k=(i != 0):=e;subst e';exact PySem.P.truthy_int ⟨H,I,q⟩
 |str y=>
  obtain⟨t,rfl⟩:=rx;obtain⟨hy,e'⟩:y.length<=sizeLine∧k=((y.length:Int) != 0):=e;subst e';exact PySem.P.truthy_str (by omega) ⟨H,I.tok _,q⟩
 |byt y=>
  obtain⟨t,rfl⟩:=rx;obtain⟨hy,e'⟩:y.size<=sizeLine∧k=((y.size:Int) != 0):=e;subst e';exact PySem.W.truthy_bytes (by omega) ⟨H,I.tok _,q⟩
 |ref p=>
  cases rx;have e':(∃xs,SqL X.K H p xs∧k=!xs.isEmpty)∨(∃xs,SqT X.K H p xs∧k=!xs.isEmpty)∨∃kvs,H p=some (.dK kvs)∧k=!kvs.isEmpty:=e
  rcases e' with ⟨xs,hx,e'⟩|⟨xs,hx,e'⟩|⟨kvs,hx,e'⟩
  ·subst e'
   obtain⟨ik,r,pl,hz⟩:=I.list hx;have im:=r.length;exact wpAny_truthy_list pl.isList (by simp only[bE];omega) ⟨H,I.tok _,by rw[PN r];exact q⟩
  ·subst e'
   obtain⟨ik,r,pl,hz⟩:=I.tuple hx;have im:=r.length;exact truthy_tuple pl (by simp only[bE];omega) ⟨H,I.tok _,by rw[PN r];exact q⟩
  ·subst e'
   obtain⟨hz,hS,vs,r,m⟩:kvs.length<=sizeLine∧(p == sysModules)=false∧∃vs,KV kvs vs∧s.heap.DictOf (Z2 X.prog X.w) p vs:=I.hok p _ hx
   have im:kvs.length=vs.length:=gK r;exact wpAny_truthy_dict hS m (by omega) ⟨H,I.tok _,by rw[Jz r];exact q⟩
 |_=>exact(show False from e).elim
def Eu(ha:PE X a ta)(he:∀whole,isTrue a X.env whole=(do let v ← whole;standAt a.pos;holding [v] (truthy v))):PT X a (λσ H Q=>ta σ H λx H'=>∃k,TruV X.K x H' k∧Q k H'):=by
 intro gV s σ H Q I h;exact isTrue_plain (thn (ha gV s σ H _ I h) λv s1 ⟨x,H1,I1,r1,q1⟩=>tru_ok gV s1 σ H1 x v Q I1 r1 q1) (he _)
def Oj{x:V}{us:iA}(r:Vals [x] us):∃u,us=[u]∧RelV x u:=by
 cases r with
 |cons r1 r2=>cases r2;exact⟨_,rfl,r1⟩
def AL{x y:V}{us:iA}(r:Vals [x,y] us):∃u w',us=[u,w']∧RelV x u∧RelV y w':=by
 cases r with
 |cons r1 r2=>
  cases r2 with
  |cons r3 r4=>cases r4;exact⟨_,_,rfl,r1,r3⟩
def HU(hc:X.calm=true):CallR X (.builtin "max") (λxs H Q=>∃i j,xs=[.int i,.int j]∧Q (.int (if j > i then j else i)) H):=by
 intro gV s σ H xs us Q I r h;obtain⟨i,j,rfl,q⟩:=h;obtain⟨u,w',rfl,⟨t,rfl⟩,⟨t',rfl⟩⟩:=AL r;refine max_two_ints (I.ok.hd hc) λh' tk k=>⟨_,H,I.kept k,?_,q⟩
 by_cases hj:j > i
 ·rw[aC hj,aC hj];exact⟨_,rfl⟩
 ·rw[aE hj,aE hj];exact⟨_,rfl⟩
def GD(hc:X.calm=true):CallR X (.builtin "min") (λxs H Q=>∃i j,xs=[.int i,.int j]∧Q (.int (if j<i then j else i)) H):=by
 intro gV s σ H xs us Q I r h;obtain⟨i,j,rfl,q⟩:=h;obtain⟨u,w',rfl,⟨t,rfl⟩,⟨t',rfl⟩⟩:=AL r;refine min_two_ints (I.ok.hd hc) λh' tk k=>⟨_,H,I.kept k,?_,q⟩
 by_cases hj:j<i
 ·rw[aC hj,aC hj];exact⟨_,rfl⟩
 ·rw[aE hj,aE hj];exact⟨_,rfl⟩
end
structure ObjM(h:Heap)(x dx C:Addr)(mA:g7):Prop where
 obj:h.get? x=some (PySem.W.instObj C dx)
 ns:h.Ns1 dx mA
 ne:dx≠x
def Ge{h:Heap}{dx:Addr}{mA:g7}(n:h.Ns1 dx mA):∃od,h.get? dx=some od∧∀name,PySem.W.lookIn name od=some (mA name):=by
 obtain⟨o,es,ep,ho,hd,hk,_,hm⟩:=n;refine⟨o,ho,λname=>?_⟩;have e:=hm name;unfold nsFind findBy at e;rw[← Array.find?_toList]at e;unfold PySem.W.lookIn;rw[hd];dsimp only;split
 ·rename_i y q
  rw[q]at e;exact cx some e
 ·rename_i q
  rw[q]at e
  have a:es.toList.any (·.refKey)=false:=by
   rw[ff];intro y hy;obtain⟨z,t,kG⟩:=hk y (Array.mem_toList_iff.mp hy);simp[DictEntry.refKey,kG]
  have a':¬ es.toList.any (·.refKey)=true:=by rw[a];exact aH
  rw[aE a'];exact cx some e
def ObjM.look{h:Heap}{x dx C:Addr}{mA:g7}(I:ObjM h x dx C mA):∃od,PySem.W.InstAt h x (PySem.W.instObj C dx) C (some od)∧∀name,PySem.W.lookIn name od=some (mA name):=
 let ⟨od,ho,hl⟩:=Ge I.ns
 ⟨od,⟨I.obj,rfl,rfl,ho⟩,hl⟩
section
variable{prog:Program}{w:World}{A:Around}{E:g6}{s:Shared}{K:g8}{x dx C f:Addr}{mA:g7}{name:Str}{v:Value}
def Cg{expr:Bool}{Q:g6}(X:K.In s.heap)(I:ObjM s.heap x dx C mA)(hg:PySem.W.plainGet K C name=true)(hh:PySem.W.hasDictIn K C=true)(ha:PySem.W.findIn K (.ref C) name=some none) (hv:mA name=some v) (m8:PySem.W.handedIn v=true) (h:Q v {s with toks:=s.toks+1}):wpAny (model prog w) A (getAttr (.ref x) name expr) Q E s:=by
 obtain⟨od,J,hl⟩:=I.look;exact PySem.W.get_value X J (gn hg).1 (PySem.W.findObj_own hh ha rfl (by rw[hl,hv])) m8 h
def FP{pl:Sem Bool}{Q:Value × iA->Shared->Prop}(X:K.In s.heap)(I:ObjM s.heap x dx C mA)(hg:PySem.W.plainGet K C name=true)(hf:PySem.W.findIn K (.ref C) name=some (some (.ref f))) (ht:PySem.W.isFn K (.ref f)=true) (hv:mA name=none) (h:Q (.ref f,[.ref x]) s):wpAny (model prog w) A (getMethod (.ref x) name pl) Q E s:=by
 obtain⟨od,J,hl⟩:=I.look;exact PySem.W.method_fn X J (gn hg).1 (gn hg).2 hf (df.mp ht) (by show(PySem.W.lookIn name od).map (·.isSome)=some false;rw[hl,hv];rfl) h
def Cp{ns:iD}{Q:Unit->Shared->Prop}(X:K.In s.heap)(I:ObjM s.heap x dx C mA)(hs:PySem.W.findIn K (.ref C) "__setattr__"=some (some (.builtin "object.__setattr__"))) (hp:PySem.W.plainOver K C=true) (ht:PySem.W.takerIn K C name=some none) (hh:PySem.W.hasDictIn K C=true)(hw:PySem.Within mA ns) (hsz:ns.length<=sizeLine)(h:∀h',ObjM h' x dx C (λy=>if y=name then some v else mA y)->Heap.SameBut dx s.heap h'->Q () {s with heap:=h',toks:=s.toks+2}):wpAny (model prog w) A (setAttr (.ref x) name v) Q E s:=by
 obtain⟨od,J,hl⟩:=I.look;refine PySem.W.set_plain X J hs (PySem.W.osa_open (s:={s with toks:=s.toks+1}) (r:=none) X J hp ht λb=>?_);obtain⟨cd,hc,jY⟩:=PySem.W.any_some hh;have hx:s.heap.get? x=some ⟨.ref C,some dx,.plain,#[]⟩:=I.obj;refine aB (aD (aB (aB (wpAny_loadPart hx (aB (PySem.W.Looks.here (s:={s with toks:=s.toks+1}) (PySem.W.looks_clsIn X hc) ?_))))));rw[jY];refine aD (a:=some dx) (aB (aD (aB ?_)));refine wpAny_nsSet1 (s:={s with toks:=s.toks+1}) I.ns λh' mQ kW=>?_
 obtain⟨oD,oM,oN,m9,nc,ng⟩:=mQ.count (PySem.Within.cons name v hw);refine aB (wpAny_lookBehind m9 (by rw[nc];exact pastItsLine_dict (bF ng (by rw[bG];omega))) ?_);exact aD (h _ ⟨(kW.2 _ (cF I.ne)).trans I.obj,mQ,I.ne⟩ kW)
def Eb{R:Result->Shared->Prop}{vs:iA}{kw:List (Str × Value)}(X:K.In s.heap)(hm:PySem.W.makesIn K C=true)(hi:PySem.W.findIn K (.ref C) "__init__"=some (some (.ref f))) (hf:PySem.W.typeIn K (.ref f)=some (.type "function"))(h:codeAny (model prog w) (A.under (.builtin "type.__call__" ⟨.ref C::vs,kw⟩)) (.call (.ref f) ⟨.ref (s.heap.objs.size+1)::vs,kw⟩) (PySem.W.InitBack (s.heap.objs.size+1) R)
     {s with heap:=(s.heap.push PySem.W.emptyDict).push (PySem.W.instObj C s.heap.objs.size)}):
    codeAny (model prog w) A (.call (.ref C) ⟨vs,kw⟩) R s:=by
 obtain⟨hh,g,d,t,os⟩:=s;exact PySem.W.make_core (PySem.W.makes_of X hm) (PySem.W.looks_findIn X hi) (λself=>PySem.W.bind_fn X self hf) (.inl rfl) h
end
def putF(f:Str)(v:V):List (Str × V)->List (Str × V)
 |[]=>[(f,v)]
 |(g,x)::r=>if g=f then (g,v)::r else (g,x)::putF f v r
def Qm(f g:Str)(v:V):∀fs:List (Str × V),(putF f v fs).lookup g=if g=f then some v else fs.lookup g
 |[]=>by
  show List.lookup g [(f,v)]=_;by_cases h:g=f
  ·have hb:(g == f)=true:=df.mpr h
   simp only[List.lookup,hb,aC h]
  ·have hb:(g == f)=false:=aW.mpr h
   simp only[List.lookup,hb,aE h]
 |(k,x)::r=>by
  have ih:=Qm f g v r;rw[show putF f v ((k,x)::r)=(if k=f then (k,v)::r else (k,x)::putF f v r) from rfl];by_cases hk:k=f
  ·rw[aC hk]
   by_cases h:g=k
   ·have hb:(g == k)=true:=df.mpr h
    simp only[List.lookup,hb,aC (h.trans hk)]
   ·have hb:(g == k)=false:=aW.mpr h
    simp only[List.lookup,hb,aE (λe:g=f=>h (e.trans hk.symm))]
  ·rw[aE hk]
   by_cases h:g=k
   ·have hb:(g == k)=true:=df.mpr h
    simp only[List.lookup,hb,aE (λe:g=f=>hk (h.symm.trans e))]
   ·have hb:(g == k)=false:=aW.mpr h
    simp only[List.lookup,hb];exact ih
def RA(f:Str)(v:V):∀fs:List (Str × V),f∈(putF f v fs).map (·.1)∧∀g,g∈fs.map (·.1)->g∈(putF f v fs).map (·.1)
 |[]=>⟨by simp[putF],λg h=>by simp at h⟩
 |(k,x)::r=>by
  obtain⟨i1,i2⟩:=RA f v r;rw[show putF f v ((k,x)::r)=(if k=f then (k,v)::r else (k,x)::putF f v r) from rfl];by_cases hk:k=f
  ·rw[aC hk]
   subst hk;exact⟨by simp,λg h=>by simpa using h⟩
  ·rw[aE hk]
   refine⟨?_,λg h=>?_⟩
   ·rw[aU]
    exact cO _ i1
   ·rw[aU]at h ⊢
    rcases aT.mp h with e|e
    ·exact aT.mpr (.inl e)
    ·exact cO _ (i2 g e)
def Qv(f:Str)(v:V):∀fs:List (Str × V),(putF f v fs).length<=fs.length+1
 |[]=>by simp[putF]
 |(k,x)::r=>by
  have ih:=Qv f v r;rw[show putF f v ((k,x)::r)=(if k=f then (k,v)::r else (k,x)::putF f v r) from rfl];by_cases hk:k=f
  ·rw[aC hk,bG,bG];omega
  ·rw[aE hk,bG,bG];omega
def RelO.some_of{v:V}{o:iG}(r:RelO (some v) o):∃u,o=some u∧RelV v u:=by
 cases o with
 |none=>exact(show False from r).elim
 |some u=>exact⟨u,rfl,r⟩
def RelO.none_of{o:iG}(r:RelO none o):o=none:=by
 cases o with
 |none=>rfl
 |some u=>exact(show False from r).elim
def Fe{v:V}{u:Value}(r:RelV v u):PySem.W.handedIn u=true:=by
 cases v with
 |non=>cases (show u=Value.none from r);rfl
 |bl b=>cases (show u=Value.bool b from r);rfl
 |int i=>obtain⟨t,e⟩:=(show ∃t,u=Value.int i t from r);cases e;rfl
 |str x=>obtain⟨t,e⟩:=(show ∃t,u=Value.str x t from r);cases e;rfl
 |byt b=>obtain⟨t,e⟩:=(show ∃t,u=Value.bytes b t from r);cases e;rfl
 |flt b=>obtain⟨t,e⟩:=(show ∃t,u=Value.float b t from r);cases e;rfl
 |ref a=>cases (show u=Value.ref a from r);rfl
 |ty n=>cases (show u=Value.type n from r);rfl
section
variable{P:Program}{w:World}{H H':Hp}{h h':Heap}{a C dx:Addr}{fs jf:List (Str × V)}
def Mo(hok:HOk P w H h)(e:H a=some (.ins C dx fs)):∃mA,ObjM h a dx C mA∧(∀f,RelO (fs.lookup f) (mA f))∧PySem.Within mA (fs.map (·.1))∧fs.length<=1000∧H dx=some (.own a):=by
 obtain⟨d,z,ne,ob,mA,n,r,q⟩:=(show ObjOk P w H h a (.ins C dx fs) from hok a _ e);exact⟨mA,⟨ob,n,ne⟩,r,q,z,d⟩
end
structure Cls(K:g8)(C:Addr):Prop where
 pg:PySem.W.plainGet K C Str.empty=true
 hd:PySem.W.hasDictIn K C=true
 po:PySem.W.plainOver K C=true
 sa:PySem.W.findIn K (.ref C) "__setattr__"=some (some (.builtin "object.__setattr__"))
def Cls.get{K:g8}{C:Addr}(c:Cls K C)(f:Str):PySem.W.plainGet K C f=true:=c.pg
def NoAttr(K:g8)(C:Addr)(f:Str):Prop:=PySem.W.findIn K (.ref C) f=some none
def NoAttr.taker{K:g8}{C:Addr}{f:Str}(n:NoAttr K C f):PySem.W.takerIn K C f=some none:=by
 unfold PySem.W.takerIn;rw[show PySem.W.findIn K (.ref C) f=some none from n];rfl
structure Meth(K:g8)(C:Addr)(m:Str)(f:Addr):Prop where
 at_:PySem.W.findIn K (.ref C) m=some (some (.ref f))
 fn:PySem.W.isFn K (.ref f)=true
 kp:PySem.W.keepIn K (.ref f)=true
section
variable{X:Cx}{gV:g9}{σ:St}{H:Hp}{s:Shared}{a C dx:Addr}{fs:List (Str × V)}{f:Str}{v:V}{A:Around}{E:g6}
def Ir{b:Bool}{Q:g6}(I:Inv X gV σ H s)(e:H a=some (.ins C dx fs))(c:Cls X.K C)(n:NoAttr X.K C f)(l:fs.lookup f=some v)(h:∀u s',Inv X gV σ H s'->RelV v u->Q u s'):wpAny (model X.prog X.w) A (getAttr (.ref a) f b) Q E s:=by
 obtain⟨mA,O,r,_,_,_⟩:=Mo I.hok e;obtain⟨u,hu,ru⟩:=RelO.some_of (v:=v) (o:=mA f) (by rw[← l];exact r f);exact Cg I.kIn O (c.get f) c.hd n hu (Fe ru) (h u _ (I.tok _) ru)
def Om{m:Str}{g:Addr}{pl:Sem Bool}{Q:Value × iA->Shared->Prop}(I:Inv X gV σ H s)(e:H a=some (.ins C dx fs))(c:Cls X.K C)(k:Meth X.K C m g)(l:fs.lookup m=none)(h:Q (.ref g,[.ref a]) s):wpAny (model X.prog X.w) A (getMethod (.ref a) m pl) Q E s:=by
 obtain⟨mA,O,r,_,_,_⟩:=Mo I.hok e;have hn:mA m=none:=RelO.none_of (by rw[← l];exact r m);exact FP I.kIn O (c.get m) k.at_ k.fn hn h
def Ia{y:V}{u:Value}{Q:Unit->Shared->Prop}(I:Inv X gV σ H s)(e:H a=some (.ins C dx fs))(c:Cls X.K C)(n:NoAttr X.K C f)(hl:fs.length<1000)(ry:RelV y u)(h:∀s',Inv X gV σ (upd H a (.ins C dx (putF f y fs))) s'->Q () s'):wpAny (model X.prog X.w) A (setAttr (.ref a) f u) Q E s:=by
 obtain⟨mA,O,r,wi,_,ho⟩:=Mo I.hok e;have hz:(fs.map (·.1)).length<=sizeLine:=by rw[aA,cA];omega
 refine Cp I.kIn O c.sa c.po n.taker c.hd wi hz λh' O' sb=>h _ ?_
 have hd:∃o,h'.get? dx=some o:=let ⟨o,_,_,e',_⟩:=O'.ns;⟨o,e'⟩
 refine I.write (x:=a) (e:=dx) (by rw[e];exact True.intro) (.inr ho) (λb q hb z=>(sb.2 b hb).trans z) hd ?_;refine⟨by rw[ZA O.ne];exact ho,?_,O.ne,O'.obj,_,O'.ns,λg=>?_,λg hg=>?_⟩
 ·have:=Qv f y fs;omega
 ·show RelO ((putF f y fs).lookup g) (if g=f then some u else mA g)
  rw[Qm];by_cases q:g=f
  ·rw[aC q,aC q];exact ry
  ·rw[aE q,aE q];exact r g
 ·by_cases q:g=f
  ·rw[q];exact(RA f y fs).1
  ·refine(RA f y fs).2 g (wi g λz=>hg ?_)
   show(if g=f then some u else mA g)=none;rw[aE q];exact z
def Inv.made(I:Inv X gV σ H s):Inv X gV σ (upd (upd H s.heap.objs.size (.own (s.heap.objs.size+1))) (s.heap.objs.size+1) (.ins C s.heap.objs.size [])) {s with heap:=(s.heap.push PySem.W.emptyDict).push (PySem.W.instObj C s.heap.objs.size)}:=by
 have e1:(s.heap.push PySem.W.emptyDict).get? s.heap.objs.size=some PySem.W.emptyDict:=aZ s.heap rfl
 have e2:((s.heap.push PySem.W.emptyDict).push (PySem.W.instObj C s.heap.objs.size)).get? (s.heap.objs.size+1)=some (PySem.W.instObj C s.heap.objs.size):=by
  have:=aZ (s.heap.push PySem.W.emptyDict) (o:=PySem.W.instObj C s.heap.objs.size) rfl
  rwa [dH]at this
 have e3:(s.heap.push PySem.W.emptyDict).Ns s.heap.objs.size (λ_=>none):=⟨PySem.W.emptyDict,#[],_,e1,rfl,(λe he=>absurd he (by simp)),λ_=>rfl⟩;have I1:=I.laid (a:=s.heap.objs.size) (o:=.own (s.heap.objs.size+1)) (h':=s.heap.push PySem.W.emptyDict) (t':=s.toks) (λb u q=>aI _ q) (aM _) ⟨_,e1⟩;refine I1.laid (a:=s.heap.objs.size+1) (o:=.ins C s.heap.objs.size []) (t':=s.toks) (λb u q=>aI _ q) (Nat.le_of_eq (dH _ _)) ?_;have ne:s.heap.objs.size≠s.heap.objs.size+1:=bB (dQ _);refine⟨by rw[ZA ne,ZG],cz _,ne,e2,λ_=>none,(Heap.Ns1.of_empty e3).at λo q=>aI _ q,λ_=>True.intro,λy hy=>absurd rfl hy⟩
def C7{prog:Program}{w:World}{env:Env}{e:Expr}{f:Str}{pos:Pos}{s:Shared}{Q:g6}(hb:attributeBase e f env (eval e env)=eval e env)(h:wpAny (model prog w) A (eval e env) (λo iq=>wpAny (model prog w) A (getAttr o f true) Q E iq) E s):wpAny (model prog w) A (eval (.Attribute e f pos) env) Q E s:=
 Attribute_any_ h (by rw[arm_eval_Attribute,hb])
end
def tFld(K:g8)(ta:TE)(f:Str):TE:=λσ H Q=>ta σ H λx H1=>∃a C dx fs v,x=.ref a∧H1 a=some (.ins C dx fs)∧Cls K C∧NoAttr K C f∧fs.lookup f=some v∧Q v H1
def sFld(K:g8)(ta tv:TE)(f:Str):TS:=λD σ H=>tv σ H λy H1=>ta σ H1 λx H2=>∃a C dx fs,x=.ref a∧H2 a=some (.ins C dx fs)∧Cls K C∧NoAttr K C f∧fs.length<1000 ∧
 D.nx σ (upd H2 a (.ins C dx (putF f y fs)))
section
variable{X:Cx}{o e value:Expr}{f:Str}{pos iQ lX:Pos}{ta tv:TE}
def pe_fld(he:PE X e ta)(hb:attributeBase e f X.env (eval e X.env)=eval e X.env):PE X (.Attribute e f pos) (tFld X.K ta f):=by
 intro gV s σ H Q I h;refine C7 hb (thn (he gV s σ H _ I h) λu s1 ⟨x,H1,I1,rx,a,C,dx,fs,v,ex,ea,c,n,l,q⟩=>?_);subst ex;obtain rfl:u=Value.ref a:=rx;exact Ir I1 ea c n l λu' s2 I2 ru=>⟨v,H1,I2,ru,q⟩
def ps_fld(ha:PE X o ta)(hv:PE X value tv)(hs:swapsWith value (some (.Attribute o f iQ)) pos.line X.env=pure false):PS X (.Assign [.Attribute o f iQ] value pos) (sFld X.K ta tv f):=by
 intro gV s σ H D I h;refine plainObj_wpAny_Assign_Attribute (thn (hv gV s σ H _ I h) λu s1 ⟨y,H1,I1,ry,q⟩=>thn (ha gV s1 σ H1 _ I1 q) λov s2 ⟨x,H2,I2,rx,a,C,dx,fs,ex,ea,c,n,l,q2⟩=>?_) hs;subst ex;obtain rfl:ov=Value.ref a:=rx;exact Ia I2 ea c n l ry λs3 I3=>⟨σ,_,I3,q2⟩
end
structure Room(k:Nat)(A:Around):Prop where
 hd:A.handled=none
 dp:A.depth+3 * k+5<recursionLimit
 un:A.units+16 * k+200<cLine
def Room.mono{j k:Nat}{A:Around}(r:Room k A)(h:j<=k):Room j A:=⟨r.hd,by have:=r.dp;omega,by have:=r.un;omega⟩
def Room.deeper{k:Nat}{A:Around}(r:Room (k+1) A)(env:Env):Room k (A.deeper env):=
 ⟨r.hd,by have:=r.dp;show A.depth+1+3 * k+5<_;omega,by have:=r.un;show A.units+3+16 * k+200<_;omega⟩
def J8{A:Around}{C:Addr}{us:iA}{kw:List (Str × Value)}:(A.under (.builtin "type.__call__" ⟨.ref C::us,kw⟩)).depth=A.depth+1:=by
 first|rfl|simp[Around.under,Code.weight,Code.isCreation,Code.isGuard,Code.isCaller,Code.frames,Code.isFrame,guardIds]
def Jq{A:Around}{C:Addr}{us:iA}{kw:List (Str × Value)}:(A.under (.builtin "type.__call__" ⟨.ref C::us,kw⟩)).units=A.units+1:=by
 first|rfl|simp[Around.under,Code.cUnits,Code.frames,Code.isFrame]
def Room.make{k:Nat}{A:Around}(r:Room (k+1) A)(C:Addr)(us:iA)(kw:List (Str × Value)):Room k (A.under (.builtin "type.__call__" ⟨.ref C::us,kw⟩)):=
 ⟨r.hd,by have:=r.dp;rw[J8];omega,by have:=r.un;rw[Jq];omega⟩
def Room.depth{k:Nat}{A:Around}(r:Room k A):A.depth<recursionLimit:=by have:=r.dp;omega
def Room.units{k:Nat}{A:Around}(r:Room k A):A.units+64<cLine:=by have:=r.un;omega
def tNil:TA:=λ_ H Q=>Q [] H
def tCons(ta:TE)(tr:TA):TA:=λσ H Q=>ta σ H λx H1=>tr σ H1 λxs H2=>Q (x::xs) H2
section
variable{X:Cx}{e:Expr}{es:iE}{te:TE}{t:TA}{pos:Pos}
def V8:PA X [] tNil:=λ_ _ _ _ H Q I h=>gY ⟨[],H,I,.nil,h⟩
def Wz(ha:PE X e te)(hr:PA X es t)(hs:starEach (e::es) X.env=(false,eval e X.env)::starEach es X.env:=by rfl):PA X (e::es) (tCons te t):=by
 intro pos gV s σ H Q I h;rw[hs];show wpAny _ _ (spliced ((false,eval e X.env)::backTo pos (starEach es X.env))) _ _ s;refine fG (thn (ha gV s σ H _ I h) λu s1 ⟨x,H1,I1,r1,q1⟩=>?_);exact thn (hr pos gV s1 σ H1 _ I1 q1) λus s2 ⟨xs,H2,I2,r2,q2⟩=>⟨x::xs,H2,I2,.cons r1 r2,q2⟩
def tTup(t:TA):TE:=λσ H Q=>t σ H λxs H1=>xs.length<=sizeLine∧∀p,H1 p=none->Q (.ref p) (upd H1 p (.tup xs))
def tLst(t:TA):TE:=λσ H Q=>t σ H λxs H1=>xs.length<=sizeLine∧∀p,H1 p=none->Q (.ref p) (upd H1 p (.lst xs))
def pe_tup{x1}(h:PA X es t):PE X (.Tuple es x1 pos) (tTup t):=by
 intro gV s σ H Q I hq;refine wpAny_Tuple_spliced (thn (h pos gV s σ H _ I hq) λus s1 ⟨xs,H1,I1,r,z,q⟩=>⟨by rw[← r.length];exact z,?_⟩);have hf:H1 s1.heap.objs.size=none:=I1.hok.fresh (aM _);refine⟨.ref s1.heap.objs.size,upd H1 s1.heap.objs.size (.tup xs),I1.laid (t':=s1.toks) (λb u e=>aI _ e) (aM _) ?_,rfl,q _ hf⟩;exact⟨z,us,r,⟨_,aZ _ rfl,rfl,_,rfl⟩⟩
def Il(h:PA X es t):PE X (.List es pos) (tLst t):=by
 intro gV s σ H Q I hq;refine wpAny_List_spliced (thn (h pos gV s σ H _ I hq) λus s1 ⟨xs,H1,I1,r,z,q⟩=>⟨by rw[← r.length];exact z,?_⟩);have hf:H1 s1.heap.objs.size=none:=I1.hok.fresh (aM _);refine⟨.ref s1.heap.objs.size,upd H1 s1.heap.objs.size (.lst xs),I1.laid (t':=s1.toks) (λb u e=>aI _ e) (aM _) ?_,rfl,q _ hf⟩;exact⟨z,us,0,r,aZ _ rfl⟩
end
abbrev Sp:=iH->Hp->VK->XK->Prop
abbrev CXT:=List Env->Hp->Shared->XK->Value->Shared->Prop
structure Env0(P:Program)(w:World)(K:g8)(mg:g7)(base:Heap)(A:Around)(outer:List Env)(s:Shared)(H:Hp):Prop where
 frames:A.frames=some outer
 mod:Mod K mg base
 bs:∀b o,base.get? b=some o->s.heap.get? b=some o∧H b=none
 bsz:base.objs.size<=s.heap.objs.size
 funs:s.heap.FunFrames base outer
 frf:∀b∈frs outer,H b=none
 hok:HOk P w H s.heap
 bare:AllBare s.gens
def CE(outer:List Env)(P:Program)(w:World)(H:Hp)(s:Shared)(Q:VK)(u:Value)(s':Shared):Prop:=
 ∃v H',s'.os=s.os∧AllBare s'.gens∧Un (frs outer) [] H H' s.heap s'.heap∧HOk P w H' s'.heap∧RelV v u∧Q v H'
def CR(CX:CXT)(outer:List Env)(P:Program)(w:World)(H:Hp)(s:Shared)(Q:VK)(E:XK)(r:Result)(s':Shared):Prop:=
 match r with
 |.ok (.ret u)=>CE outer P w H s Q u s'
 |.ok _=>False
 |.error e=>CX outer H s E e s'
structure FnOk(P:Program)(w:World)(K:g8)(mg:g7)(base:Heap)(CX:CXT)(k:Nat)(f:Addr)(fd:FuncData)(ps:iD)(sp:Sp):Prop where
 len:∀vs H Q E,sp vs H Q E->vs.length=ps.length
 run:∀(A:Around) (outer:List Env) (s:Shared) (H:Hp) (args:Args) (us:iA) (vs:iH) (Q:VK) (E:XK),Room k A->Env0 P w K mg base A outer s H->BindsTo s fd args (ps.zip us)->Vals vs us->sp vs H Q E ->
  codeAny (model P w) A (.call (.ref f) args) (CR CX outer P w H s Q E) s
def FnOk.imp{P:Program}{w:World}{K:g8}{mg:g7}{base:Heap}{CX:CXT}{k:Nat}{f:Addr}{fd:FuncData}{ps:iD}{sp mR:Sp}(F:FnOk P w K mg base CX k f fd ps sp)(h:∀vs H Q E,mR vs H Q E->sp vs H Q E):FnOk P w K mg base CX k f fd ps mR:=
 ⟨λvs H Q E q=>F.len vs H Q E (h _ _ _ _ q),λA outer s H args us vs Q E hr he hb hv hs=>F.run A outer s H args us vs Q E hr he hb hv (h _ _ _ _ hs)⟩
def Env0.make{P:Program}{w:World}{K:g8}{mg:g7}{base:Heap}{A:Around}{outer:List Env}{s:Shared}{H:Hp}(e:Env0 P w K mg base A outer s H)(C:Addr)(us:iA)(kw:List (Str × Value)):Env0 P w K mg base (A.under (.builtin "type.__call__" ⟨.ref C::us,kw⟩)) outer s H:=⟨by first|exact e.frames|(simpa [Around.under,Code.envs,Code.isFrame,pushEnvs] using e.frames),e.mod,e.bs,e.bsz,e.funs,e.frf,e.hok,e.bare⟩
section
variable{X:Cx}{gV:g9}{σ:St}{H:Hp}{s s':Shared}
def Inv.env0(I:Inv X gV σ H s):Env0 X.prog X.w X.K X.mg X.base X.A X.stack s H:=
 ⟨I.ok.frames,I.ok.mod,I.bs,bF I.ok.bsz I.sz,I.stack,I.stkFree,I.hok,I.bare⟩
def Inv.after{Q:VK}{u:Value}(I:Inv X gV σ H s)(h:CE X.stack X.prog X.w H s Q u s'):EP X gV σ Q u s':=by
 obtain⟨v,H',os,bare,un,hok,r,q⟩:=h;obtain⟨hh,g,d,t,k7⟩:=s';obtain rfl:k7=s.os:=os;exact⟨v,H',I.call (h':=hh) (g':=g) (d':=d) (t':=t) (ch:=[]) un hok bare (λb z=>absurd z (by simp)),r,q⟩
end
def tCall(sp:Sp)(dvs:iH)(E:XK)(t:TA):TE:=λσ H Q=>t σ H λvs H1=>sp (vs++dvs) H1 Q E
def EN(C:Addr)(m:Str)(sp:Sp)(dvs:iH)(E:XK)(ta:TE)(t:TA):TE:=λσ H Q=>ta σ H λx H1=>∃a dx fs,x=.ref a∧H1 a=some (.ins C dx fs)∧fs.lookup m=none ∧
 t σ H1 λvs H2=>sp (x::(vs++dvs)) H2 Q E
def tMake(C:Addr)(sp:Sp)(dvs:iH)(E:XK)(t:TA):TE:=λσ H Q=>t σ H λvs H1=>∀x dx,H1 x=none->H1 dx=none->dx≠x ->
 sp (.ref x::(vs++dvs)) (upd (upd H1 dx (.own x)) x (.ins C dx [])) (λv H2=>v=.non∧Q (.ref x) H2) E
def Binds(K:g8)(fd:FuncData)(ps:iD)(ds:iA):Prop:=
 ∀(s:Shared) (us:iA),K.In s.heap->(us++ds).length=ps.length->BindsTo s fd ⟨us,[]⟩ (ps.zip (us++ds))
def Binds.all{K:g8}{fd:FuncData}{ps:iD}(h:∀us:iA,us.length=ps.length->bindArgs fd ⟨us,[]⟩=pure (ps.zip us)):Binds K fd ps []:=λs us _ hl=>by
 rw[ce]at hl ⊢;exact .of_eq (h us hl)
def XR(CX:CXT)(X:Cx)(E:XK):Prop:=∀(gV:g9) (σ:St) (H:Hp) (s:Shared) (e:Value) (s':Shared),Inv X gV σ H s->CX X.stack H s E e s'->X.xe e s'
section
variable{X:Cx}{CX:CXT}{k:Nat}{f C:Addr}{fd:FuncData}{ps:iD}{sp:Sp}{dvs:iH}{ds:iA}{E:XK}{x m:Str}{p pos ip:Pos}{e o:Expr}{es:iE}{ta:TE}{t:TA}
def JQ{gV:g9}{σ:St}{H:Hp}{s:Shared}{Q:VK}{us:iA}{vs:iH}(F:FnOk X.prog X.w X.K X.mg X.base CX k f fd ps sp)(hr:Room k X.A)(hb:Binds X.K fd ps ds)(hd:Vals dvs ds)(hx:XR CX X E)(I:Inv X gV σ H s) (r:Vals vs us) (h:sp (vs++dvs) H Q E):wpAny (model X.prog X.w) X.A (call (.ref f) us) (EP X gV σ Q) X.xe s:=by
 have r2:Vals (vs++dvs) (us++ds):=r.append hd;have hl:(us++ds).length=ps.length:=by rw[← r2.length];exact F.len _ _ _ _ h
 refine wpAny_call (d4 (F.run X.A X.stack s H ⟨us,[]⟩ (us++ds) (vs++dvs) Q E hr I.env0 (hb s us I.kIn hl) r2 h) λr s' hq=>?_);cases r with
 |error e=>exact hx gV σ H s e s' I hq
 |ok fl=>
  cases fl with
  |ret u=>exact I.after hq
  |next=>exact False.elim hq
  |brk=>exact False.elim hq
  |cont=>exact False.elim hq
def CT(F:FnOk X.prog X.w X.K X.mg X.base CX k f fd ps sp)(hr:Room k X.A)(hg:Gl X x)(hm:X.mg x=some (.ref f))(hk:PySem.W.keepIn X.K (.ref f)=true)(hb:Binds X.K fd ps ds)(hd:Vals dvs ds)(hx:XR CX X E)(ha:PA X (e::es) t) (jn:(x == ("__debug__":Str))=false:=by decide) (he:starEach (e::es) X.env=(false,eval e X.env)::starEach es X.env:=by rfl) (iO:(backTo pos (starEach es X.env)).any (·.1)=false:=by rfl):PE X (.Call (.Name x p) (e::es) [] pos) (tCall sp dvs E t):=by
 intro gV s σ H Q I h;refine fq (QP I hg hm ?_ jn);refine gy (h₀:=X.base) I.ok.mod.kin hk (thn (ha pos gV s σ H _ I h) λus s1 ⟨vs,H1,I1,r,q⟩=>⟨I1.kIn,?_⟩) he iO;exact JQ F hr hb hd hx I1 r q
def Cl{pl:Sem Bool}(he:PE X o ta)(c:Cls X.K C)(hm:Meth X.K C m f)(F:FnOk X.prog X.w X.K X.mg X.base CX k f fd ps sp)(hr:Room k X.A)(hb:Binds X.K fd ps ds)(hd:Vals dvs ds)(hx:XR CX X E)(ha:PA X (e::es) t)(jD:starEach (e::es) X.env=(false,eval e X.env)::starEach es X.env:=by rfl) (iO:(backTo pos (starEach es X.env)).any (·.1)=false:=by rfl)(ht:eval (.Call (.Attribute o m ip) (e::es) [] pos) X.env=(do
     let ov ← eval o X.env
     standAt ip.atName
     let (f,first) ← holding [ov] (getMethod ov m pl)
     callWith pos f first (backTo pos (starEach (e::es) X.env)) (backToKw pos (keywordEach [] X.env))):=by rfl):
    PE X (.Call (.Attribute o m ip) (e::es) [] pos) (EN C m sp dvs E ta t):=by
 intro gV s σ H Q I h;refine PySem.W.methodCall_KW (pl:=pl) (thn (he gV s σ H _ I h) λu s1 ⟨x,H1,I1,rx,a,dx,fs,ex,ea,l,q⟩=>?_) ht;subst ex;obtain rfl:u=Value.ref a:=rx;refine Om I1 ea c hm l ?_;refine gy (first:=[.ref a]) (h₀:=X.base) I.ok.mod.kin hm.kp (thn (ha pos gV s1 σ H1 _ I1 q) λus s2 ⟨vs,H2,I2,r,q2⟩=>⟨I2.kIn,?_⟩) jD iO;exact JQ (us:=.ref a::us) (vs:=.ref a::vs) F hr hb hd hx I2 (.cons rfl r) q2
def D1{pl:Sem Bool}(he:PE X o ta)(c:Cls X.K C)(hm:Meth X.K C m f)(F:FnOk X.prog X.w X.K X.mg X.base CX k f fd ps sp)(hr:Room k X.A)(hb:Binds X.K fd ps ds)(hd:Vals dvs ds)(hx:XR CX X E)(ht:eval (.Call (.Attribute o m ip) [] [] pos) X.env=(do
     let ov ← eval o X.env
     standAt ip.atName
     let (f,first) ← holding [ov] (getMethod ov m pl)
     callWith pos f first (backTo pos (starEach [] X.env)) (backToKw pos (keywordEach [] X.env))):=by rfl):
    PE X (.Call (.Attribute o m ip) [] [] pos) (EN C m sp dvs E ta tNil):=by
 intro gV s σ H Q I h;refine PySem.W.methodCall_KW (pl:=pl) (thn (he gV s σ H _ I h) λu s1 ⟨x,H1,I1,rx,a,dx,fs,ex,ea,l,q⟩=>?_) ht;subst ex;obtain rfl:u=Value.ref a:=rx;refine Om I1 ea c hm l ?_;exact PySem.W.callWith_K0 (first:=[.ref a]) I1.kIn hm.kp (JQ (us:=[.ref a]) (vs:=[.ref a]) F hr hb hd hx I1 (.cons rfl .nil) q)
structure Mk(K:g8)(C f:Addr):Prop where
 makes:PySem.W.makesIn K C=true
 init:PySem.W.findIn K (.ref C) "__init__"=some (some (.ref f))
 fn:PySem.W.isFn K (.ref f)=true
 kp:PySem.W.keepIn K (.ref C)=true
def FF{gV:g9}{σ:St}{H:Hp}{s:Shared}{Q:VK}{us:iA}{vs:iH}(M:Mk X.K C f)(F:FnOk X.prog X.w X.K X.mg X.base CX k f fd ps sp)(hr:Room (k+1) X.A)(hb:Binds X.K fd ps ds)(hd:Vals dvs ds)(hx:XR CX X E) (I:Inv X gV σ H s) (r:Vals vs us)(h:∀x dx,H x=none->H dx=none->dx≠x->sp (.ref x::(vs++dvs)) (upd (upd H dx (.own x)) x (.ins C dx [])) (λv H2=>v=.non∧Q (.ref x) H2) E):wpAny (model X.prog X.w) X.A (call (.ref C) us) (EP X gV σ Q) X.xe s:=by
 have hq:=h (s.heap.objs.size+1) s.heap.objs.size (I.hok.fresh (du _)) (I.hok.fresh (aM _)) (bB (dQ _));have I2:=Inv.made (C:=C) I;have r2:Vals (V.ref (s.heap.objs.size+1)::(vs++dvs)) (Value.ref (s.heap.objs.size+1)::(us++ds)):=.cons rfl (r.append hd)
 have hl:(Value.ref (s.heap.objs.size+1)::us++ds).length=ps.length:=by
  have e:=r2.length;rw[F.len _ _ _ _ hq]at e;exact e.symm
 refine wpAny_call (Eb (f:=f) I.kIn M.makes M.init (df.mp M.fn) (d4 (F.run _ X.stack _ _ ⟨Value.ref (s.heap.objs.size+1)::us,[]⟩ (Value.ref (s.heap.objs.size+1)::(us++ds)) _ _ E (hr.make C us [])
  (I2.env0.make C us []) (hb _ (Value.ref (s.heap.objs.size+1)::us) I2.kIn hl) r2 hq) λr s' j4=>?_))
 cases r with
 |error e=>exact hx gV σ _ _ e s' I2 j4
 |ok fl=>
  cases fl with
  |ret u=>
   obtain⟨v,H',I3,rv,ev,q3⟩:=I2.after j4;subst ev;exact⟨rv,⟨V.ref (s.heap.objs.size+1),H',I3,rfl,q3⟩⟩
  |next=>exact False.elim j4
  |brk=>exact False.elim j4
  |cont=>exact False.elim j4
def C0(M:Mk X.K C f)(F:FnOk X.prog X.w X.K X.mg X.base CX k f fd ps sp)(hr:Room (k+1) X.A)(hg:Gl X x)(hm:X.mg x=some (.ref C))(hb:Binds X.K fd ps ds)(hd:Vals dvs ds)(hx:XR CX X E)(ha:PA X (e::es) t) (jn:(x == ("__debug__":Str))=false:=by decide) (he:starEach (e::es) X.env=(false,eval e X.env)::starEach es X.env:=by rfl) (iO:(backTo pos (starEach es X.env)).any (·.1)=false:=by rfl):PE X (.Call (.Name x p) (e::es) [] pos) (tMake C sp dvs E t):=by
 intro gV s σ H Q I h;refine fq (QP I hg hm ?_ jn);refine gy (h₀:=X.base) I.ok.mod.kin M.kp (thn (ha pos gV s σ H _ I h) λus s1 ⟨vs,H1,I1,r,q⟩=>⟨I1.kIn,?_⟩) he iO;exact FF M F hr hb hd hx I1 r q
end
structure FnScope(N P:iD)(sc:Scope):Prop where
 kind:sc.kind=.function
 co:sc.isCoroutine=false
 gen:sc.isGenerator=false
 nd:N.Nodup
 pre:N.take P.length=P
 par:∀x∈P,sc.names.lookup x=some .local∨sc.names.lookup x=some .cell
 nofree:∀y∈sc.names,y.2≠.free
def Nd{kindOf:Str->Option NameKind}{x:Str}:∀{binds:List (Str × Value)} {m:g7},(∀v,(x,v) ∉ binds)->bindL kindOf binds m x=m x
 |[],_,_=>rfl
 |(n,v)::r,m,h=>by
  unfold bindL;rw[Nd λw hw=>h w (cO _ hw)];split
  ·have:x≠n:=by rintro rfl;exact h v cU
   simp[this]
  ·rfl
def NJ{kindOf:Str->Option NameKind}{x:Str}:∀{binds:List (Str × Value)} {m:g7},(∀v,(x,v) ∉ binds)->bindC kindOf binds m x=m x
 |[],_,_=>rfl
 |(n,v)::r,m,h=>by
  unfold bindC;rw[NJ λw hw=>h w (cO _ hw)];split
  ·rfl
  ·have:x≠n:=by rintro rfl;exact h v cU
   simp[this]
def NS{kindOf:Str->Option NameKind}{x:Str}{v:Value}:∀{P:iD} {vs:iA} {i:Nat} {m:g7},P.Nodup->P[i]?=some x->vs[i]?=some v->kindOf x=some .local -> bindL kindOf (P.zip vs) m x=some v
 |[],_,_,_,_,h,_,_=>by simp at h
 |_::_,[],_,_,_,_,h,_=>by simp at h
 |p::P,w::vs,0,m,nd,h1,h2,hk=>by
  simp at h1 h2;subst h1;subst h2;show bindL kindOf ((p,w)::P.zip vs) m p=_;unfold bindL;rw[Nd λv hv=>(cH.mp nd).1 (gM hv).1,aC hk];simp
 |p::P,w::vs,i+1,m,nd,h1,h2,hk=>by
  show bindL kindOf ((p,w)::P.zip vs) m x=_;unfold bindL;exact NS (i:=i) (cH.mp nd).2 (by simpa using h1) (by simpa using h2) hk
def Nl{kindOf:Str->Option NameKind}{x:Str}{v:Value}:∀{P:iD} {vs:iA} {i:Nat} {m:g7},P.Nodup->P[i]?=some x->vs[i]?=some v->kindOf x≠some .local -> bindC kindOf (P.zip vs) m x=some v
 |[],_,_,_,_,h,_,_=>by simp at h
 |_::_,[],_,_,_,_,h,_=>by simp at h
 |p::P,w::vs,0,m,nd,h1,h2,hk=>by
  simp at h1 h2;subst h1;subst h2;show bindC kindOf ((p,w)::P.zip vs) m p=_;unfold bindC;rw[NJ λv hv=>(cH.mp nd).1 (gM hv).1,aE hk];simp
 |p::P,w::vs,i+1,m,nd,h1,h2,hk=>by
  show bindC kindOf ((p,w)::P.zip vs) m x=_;unfold bindC;exact Nl (i:=i) (cH.mp nd).2 (by simpa using h1) (by simpa using h2) hk
def start(N:iD)(vs:iH):St:=vs.map some++List.replicate (N.length-vs.length) none
def OI(CX:CXT)(P:Program)(w:World)(K:g8)(mg:g7)(base:Heap)(N:iD)(qual:Str)(scope:Scope)(f:Addr)(cd:Value)(A:Around)(outer:List Env)(s:Shared)(H:Hp)(E:XK):Cx where
 prog:=P
 w:=w
 K:=K
 mg:=mg
 base:=base
 A:=A.deeper (envOfC qual scope s.heap.objs.size f cd)
 N:=N
 s₀:=s
 H₀:=H
 env:=envOfC qual scope s.heap.objs.size f cd
 outer:=outer
 stack:=envOfC qual scope s.heap.objs.size f cd::outer
 ex:=[]
 calm:=true
 fn:=λ_=>true
 pn:=[]
 xe:=λe s'=>wpAny (model P w) (A.deeper (envOfC qual scope s.heap.objs.size f cd)) (leaving (envOfC qual scope s.heap.objs.size f cd) e) (λ_ j8=>CX outer H s E e j8) (λe' j8=>CX outer H s E e' j8) s'
def Ku{sc:Scope}{n:Nat}{x:Str}(h:sc.names.lookup x=some .cell):∃c,(cellsFrom n sc.names []).lookup x=some c:=by
 have q:=PySem.W.cellsFrom_some sc.names n [] (.inl h);exact aV.mp q
def G4{CX:CXT}{P:Program}{w:World}{K:g8}{mg:g7}{base:Heap}{N ps:iD}{qual:Str}{scope:Scope}{f:Addr}{cd:Value}{A:Around}{outer:List Env}{s s1:Shared}{H:Hp}{E:XK}{us:iA}{vs:iH}(S:FnScope N ps scope) (hd:A.handled=none) (e0:Env0 P w K mg base A outer s H) (hl:vs.length=ps.length) (r:Vals vs us)(x:InCallC s s.heap.objs.size (bindL (envOfC qual scope s.heap.objs.size f cd).kindOf (ps.zip us) λ_=>none) (cellsFrom (s.heap.objs.size+1) scope.names []) (bindC (envOfC qual scope s.heap.objs.size f cd).kindOf (ps.zip us) λ_=>none) s1):Inv (OI CX P w K mg base N qual scope f cd A outer s H E) [] (start N vs) H s1:=by
 have iO:ps.length<=N.length:=by have:=cx List.length S.pre;rw[fw]at this;omega
 obtain⟨h1,tk,rfl,hk⟩:=x.done;have noA:∀b:Addr,b ∉ (OI CX P w K mg base N qual scope f cd A outer s H E).ex:=λb z=>absurd (show b∈([]:h8) from z) (by simp)
 refine⟨⟨e0.mod,S.kind,rfl,rfl,aM _,λy z c h1 h2=>?_,λy hy=>?_,λy c _ h=>?_,λ_=>hd,Around.frames_deeper e0.frames,.inr ⟨rfl,rfl⟩,λb z=>absurd z (noA b),e0.bs,e0.bsz,λb _ _=>noA b,λb z=>absurd z (noA b),e0.funs,e0.frf⟩,
  rfl,e0.bare,Un.kept hk,⟨_,x.toInCall.ns,λi y v h1 h2 h3=>?_⟩,λy c h=>⟨_,x.cell y c h⟩,e0.hok.fresh (aM _),λy c h=>?_,λp hp=>absurd (show p∈([]:g9) from hp) (by simp),e0.hok.kept hk,?_⟩
 ·exact name_of_addr x.apart (cq h1) (cq h2)
 ·have hy:scope.names.lookup y=some .cell∨scope.names.lookup y=some .free:=hy
  rcases hy with hy|hy
  ·exact Ku hy
  ·exact absurd rfl (S.nofree _ (cq hy))
 ·exact er (x.above y c (cq h))
 ·have hi:i<vs.length:=by
   unfold start at h2;by_cases hi:i<vs.length
   ·exact hi
   ·rw[bL (by simpa using hi)]at h2
    rw[dD]at h2;split at h2 <;> cases h2
  have ha:vs[i]?=some v:=by
   unfold start at h2;rw[bA (by simpa using hi),bC]at h2;cases e:vs[i]? with
   |none=>rw[e]at h2;cases h2
   |some a=>rw[e]at h2;cases h2;rfl
  obtain⟨u,hu,rv⟩:=r.get ha
  have hp:ps[i]?=some y:=by
   rw[← S.pre,List.getElem?_take_of_lt (by omega)];exact h1
  have ndP:ps.Nodup:=by rw[← S.pre];exact S.nd.sublist (List.take_sublist _ _)
  refine⟨u,rv,?_⟩;rcases S.par y (bM hp) with k|k
  ·exact .inl ⟨k,NS ndP hp hu k⟩
  ·obtain⟨c,e⟩:=Ku (n:=s.heap.objs.size+1) k
   refine .inr ⟨.inl k,c,e,?_⟩;have q:=x.cell y c e;rw[Nl ndP hp hu (by show scope.names.lookup y≠_;rw[k];decide)]at q;exact q
 ·exact e0.hok.fresh (er (x.above y c (cq h)))
 ·unfold start
  show _=N.length;rw[aS,aA,dL];omega
def fn_of{CX:CXT}{P:Program}{w:World}{K:g8}{mg:g7}{base:Heap}{k:Nat}{f:Addr}{name qual:Str}{params:Arguments}{body:List Stmt}{scope:Scope}{dV kV doc pm i9 ct oc:Value}{an od:Option Addr}{kX:Array (iG)} {N ps:iD} {sp:Sp} (lk:K.lookup f=some ⟨oc,od,.func (PySem.W.fnOf name qual params body scope dV kV doc pm an i9 ct),kX⟩) (jL:PySem.W.codeIn K i9 qual=true) (S:FnScope N ps scope)(len:∀vs H Q E,sp vs H Q E->vs.length=ps.length)(jO:∀(A:Around) (outer:List Env) (s:Shared) (H:Hp) (vs:iH) (Q:VK) (E:XK),Room k (A.deeper (envOfC qual scope s.heap.objs.size f i9))->sp vs H Q E ->
     ∃t,PSs (OI CX P w K mg base N qual scope f i9 A outer s H E) body t∧t {nx:=λ_ H'=>Q .non H',rt:=Q} (start N vs) H):
    FnOk P w K mg base CX (k+1) f (PySem.W.fnOf name qual params body scope dV kV doc pm an i9 ct) ps sp:=by
 refine⟨len,λA outer s H args us vs Q E hr e0 hb r ko=>?_⟩;have hl:=len _ _ _ _ ko;have KX:K.In s.heap:=e0.mod.kin.keeps λb o e=>(e0.bs b o e).1
 have lim:s.heap.NoLimit:=e0.mod.nolimit.keeps λb o e=>(e0.bs b o e).1
 have hkind:∀y∈ps.zip us,scope.names.lookup y.1=some .local∨(scope.names.lookup y.1=some .cell∧((cellsFrom (s.heap.objs.size+1) scope.names []).lookup y.1).isSome=true):=λ⟨n,v⟩ hy=>by
  rcases S.par n (gM hy).1 with q|q
  ·exact .inl q
  ·exact .inr ⟨q,PySem.W.cellsFrom_some _ _ _ (.inl q)⟩
 refine codeAny_call_function hr.depth (KX _ _ lk) rfl S.co S.gen rfl (PySem.W.codeRec_of KX jL) (hb _ _ _ _ ?_);refine wpAny_newFunctionEnv_cells S.kind hkind λenv he s1 x=>?_
 subst he;refine⟨lim.keeps x.toInCall.keep,codeAny_func ?_⟩;obtain⟨t,ht,hq⟩:=jO A outer s H vs Q E (hr.deeper _) ko;have I:Inv (OI CX P w K mg base N qual scope f i9 A outer s H E) [] (start N vs) H s1:=G4 S hr.hd e0 hl r x;refine cy (ht [] s1 (start N vs) H _ I hq) (λfl s' hs=>?_) λe s' hs=>hs
 have fin:∀{ir:St} {H':Hp} {v:V} {u:Value},Inv (OI CX P w K mg base N qual scope f i9 A outer s H E) [] ir H' s'->RelV v u->Q v H'->CE outer P w H s Q u s':=
  λ{ir H' v u} J rv q=>⟨v,H',J.os,J.bare,J.base,J.hok,rv,q⟩
 cases fl with
 |ret u=>
  obtain⟨v,ir,H',J,rv,q⟩:=hs;exact fin J rv q
 |next=>
  obtain⟨ir,H',J,q⟩:=hs;exact fin (v:=V.non) (u:=Value.none) J rfl q
 |brk=>
  obtain⟨_,_,_,q⟩:=hs;exact False.elim q
 |cont=>
  obtain⟨_,_,_,q⟩:=hs;exact False.elim q
section
variable{X:Cx}{x:Str}{p pos:Pos}{e:Expr}{es:iE}{t:TA}{id T:String}{r:iH->Hp->VK->Prop}
def tCB(r:iH->Hp->VK->Prop)(t:TA):TE:=λσ H Q=>t σ H λvs H1=>r vs H1 Q
def OB(hc:CallR X (.builtin id) r)(hg:Gl X x)(hm:X.mg x=none)(hv:bootBuiltins x=some (.builtin id))(ha:PA X (e::es) t)(hn:x≠"__name__":=by decide)(jn:(x == ("__debug__":Str))=false:=by decide)(he:starEach (e::es) X.env=(false,eval e X.env)::starEach es X.env:=by rfl) (iO:(backTo pos (starEach es X.env)).any (·.1)=false:=by rfl):PE X (.Call (.Name x p) (e::es) [] pos) (tCB r t):=by
 intro gV s σ H Q I h;refine fq (JY I hg hm hv ?_ hn jn);exact PyProof.Rows.callWith_builtin1 (thn (ha pos gV s σ H _ I h) λus s1 ⟨vs,H1,I1,r1,q1⟩=>hc gV s1 σ H1 vs us Q I1 r1 q1) he iO
def Nb(hc:CallR X (.type T) r)(hg:Gl X x)(hm:X.mg x=none)(hv:bootBuiltins x=some (.type T))(ha:PA X (e::es) t)(hn:x≠"__name__":=by decide)(jn:(x == ("__debug__":Str))=false:=by decide)(he:starEach (e::es) X.env=(false,eval e X.env)::starEach es X.env:=by rfl) (iO:(backTo pos (starEach es X.env)).any (·.1)=false:=by rfl):PE X (.Call (.Name x p) (e::es) [] pos) (tCB r t):=by
 intro gV s σ H Q I h;refine fq (JY I hg hm hv ?_ hn jn);exact gR (thn (ha pos gV s σ H _ I h) λus s1 ⟨vs,H1,I1,r1,q1⟩=>hc gV s1 σ H1 vs us Q I1 r1 q1) he iO
end
end L2
namespace HT
open PySem PyProof.Rows
end HT
namespace L2
open PySem PySem.Spec PyProof.Rows
def ixN(n:Nat)(i:Int):Option Nat:=if 0<=i then (if i<n then some i.toNat else none) else if -(n:Int)<=i then some (i+n).toNat else none
def atI{α:Type}(xs:List α)(i:Int):Option α:=(ixN xs.length i).bind λj=>xs[j]?
def IK{n:Nat}{i:Int}{j:Nat}(h:ixN n i=some j):seqIndex? i n=some j∧j<n∧-(n:Int)<=i∧i<n:=by
 unfold ixN at h;by_cases h0:0<=i
 ·rw[aC h0]at h
  by_cases h1:i<n
  ·rw[aC h1]at h
   have e:i.toNat=j:=bT h;exact⟨by rw[seqIndex_of h0 h1,e],by omega,by omega,h1⟩
  ·rw[aE h1]at h;cases h
 ·rw[aE h0]at h
  by_cases h1:-(n:Int)<=i
  ·rw[aC h1]at h
   have e:(i+n).toNat=j:=bT h;exact⟨by rw[seqIndex_neg (by omega) h1,e],by omega,h1,by omega⟩
  ·rw[aE h1]at h;cases h
def MT{α:Type}{xs:List α}{i:Int}{v:α}(h:atI xs i=some v):∃j,seqIndex? i xs.length=some j∧xs[j]?=some v∧j<xs.length∧-(xs.length:Int)<=i∧i<xs.length:=by
 unfold atI at h;cases e:ixN xs.length i with
 |none=>rw[e]at h;cases h
 |some j=>
  rw[e]at h;obtain⟨h1,h2,h3,h4⟩:=IK e;exact⟨j,h1,h,h2,h3,h4⟩
def BI{α:Type}{xs:List α}{j:Nat}{v:α}(h:xs[j]?=some v):atI xs (j:Int)=some v:=by
 have hj:j<xs.length:=(aG.mp h).1
 have e:ixN xs.length (j:Int)=some j:=by
  unfold ixN;rw[aC (by omega),aC (by omega)];simp
 unfold atI;rw[e];exact h
def Ml(b:Expr):Prop:=∀o i,subscripted b false o i=operate [o,i] (getItem o i)
def IxR(X:Cx)(r:R2):Prop:=
 ∀(value slice:Expr) (gV:g9) (s:Shared) (σ:St) (H:Hp) (x y:V) (v u:Value) (Q:VK),Inv X gV σ H s->RelV x v->RelV y u->r x y H Q ->
  subscripted slice false v u=operate [v,u] (getItem v u)->wpAny (model X.prog X.w) X.A (subscriptTail value slice v u) (EP X gV σ Q) X.xe s
def MtR(X:Cx)(id:String)(r:V->List V->Hp->VK->Prop):Prop:=
 ∀(gV:g9) (s:Shared) (σ:St) (H:Hp) (x:V) (xs:iH) (v:Value) (us:iA) (Q:VK),Inv X gV σ H s->RelV x v->Vals xs us->r x xs H Q ->
  wpAny (model X.prog X.w) X.A (call (.builtin id) (v::us)) (EP X gV σ Q) X.xe s
section
variable{X:Cx}{a b:Expr}{ta tb:TE}{pos:Pos}
def IxR.or{r r':R2}(h:IxR X r)(h':IxR X r'):IxR X (λx y H Q=>r x y H Q∨r' x y H Q):=by
 intro value slice gV s σ H x y v u Q I rx ry q hs;rcases q with q|q
 ·exact h value slice gV s σ H x y v u Q I rx ry q hs
 ·exact h' value slice gV s σ H x y v u Q I rx ry q hs
def Ai{r:R2}(hr:IxR X r)(ha:PE X a ta)(hb:PE X b tb)(hs:Ml b):PE X (.Subscript a b pos) (tOp r ta tb):=by
 intro gV s σ H Q I h;exact Subscript_ (binT ha hb I h λv u s2 x y H2 I2 rx ry q=>hr a b gV s2 σ H2 x y v u Q I2 rx ry q (hs _ _))
def rIxL(K:g8):R2:=λx y H Q=>∃p xs i v,x=.ref p∧y=.int i∧SqL K H p xs∧atI xs i=some v∧Q v H
def rIxT(K:g8):R2:=λx y H Q=>∃p xs i v,x=.ref p∧y=.int i∧SqT K H p xs∧atI xs i=some v∧Q v H
def rIxS:R2:=λx y H Q=>∃z i c,x=.str z∧y=.int i∧z.length<=sizeLine∧atI z.cps.toList i=some c∧Q (.str ⟨#[c]⟩) H
def CO:IxR X (rIxL X.K):=by
 intro value slice gV s σ H x y v u Q I rx ry h hs;obtain⟨p,xs,i,z,rfl,rfl,hq,he,q⟩:=h;cases rx;obtain⟨t,rfl⟩:=ry;obtain⟨ik,r,pl,hz⟩:=I.list hq;obtain⟨j,h1,h2,h3,h4,h5⟩:=MT he;obtain⟨w,ew,jg⟩:=r.get h2;have hl:=r.length;have hn:=RN;have fin:EP X gV σ Q w s:=⟨z,H,I,jg,q⟩;by_cases h0:0<=i
 ·have hj:i.toNat=j:=by
   rw[seqIndex_of h0 h5]at h1;exact bT h1
  exact item_listR pl.isList h0 (by omega) (by rw[hj];simpa using ew) fin hs
 ·have hj:(i+(ik.toArray.size:Int)).toNat=j:=by
   rw[seqIndex_neg (by omega) h4]at h1;rw[bE,← hl];exact bT h1
  exact subscriptTail_builtinR (x:=w) pl.isList.typeIs slot_list_getitem.lookup
   (wpAny_getItem_list_neg (Q:=λr s'=>r=w∧EP X gV σ Q r s') pl.isList (by omega) (by rw[bE] <;> omega) (by omega) (by rw[hj];simpa using ew) ⟨rfl,fin⟩) hs
def ix_tup:IxR X (rIxT X.K):=by
 intro value slice gV s σ H x y v u Q I rx ry h hs;obtain⟨p,xs,i,z,rfl,rfl,hq,he,q⟩:=h;cases rx;obtain⟨t,rfl⟩:=ry;obtain⟨ik,r,pl,hz⟩:=I.tuple hq;obtain⟨j,h1,h2,h3,h4,h5⟩:=MT he;obtain⟨w,ew,jg⟩:=r.get h2;have hl:=r.length;have hn:=RN;have fin:EP X gV σ Q w s:=⟨z,H,I,jg,q⟩
 exact subscriptTail_builtinR (x:=w) pl.typeIs slot_tuple_getitem.lookup
  (getItem_tuple (j:=j) (Q:=λr s'=>r=w∧EP X gV σ Q r s') pl (by omega) (by omega) (by rw[bE,← hl];exact h1) (by simpa using ew) ⟨rfl,fin⟩) hs
def ix_str:IxR X rIxS:=by
 intro value slice gV s σ H x y v u Q I rx ry h hs;obtain⟨z,i,c,rfl,rfl,hz,he,q⟩:=h;obtain⟨t,rfl⟩:=rx;obtain⟨t',rfl⟩:=ry;obtain⟨j,h1,h2,h3,h4,h5⟩:=MT he;have hl:z.cps.toList.length=z.length:=by simp[Str.length]
 rw[hl]at h1 h4 h5;have hn:=RN
 exact tail_any (typeIs_str s z t) slot_str_getitem.lookup (getItem_str (c:=c) (by
  have e1:decide (i < -(2 ^ 63:Int))=false:=aJ (by omega);have e2:decide (i ≥ 2 ^ 63)=false:=aJ (by omega);rw[e1,e2,Bool.or_false]) (by rw[h1];simpa using h2) ⟨.str ⟨#[c]⟩,H,I.tok _,⟨_,rfl⟩,q⟩) hs
def rIx(K:g8):R2:=λx y H Q=>rIxL K x y H Q∨rIxT K x y H Q∨rIxS x y H Q
def EE:IxR X (rIx X.K):=CO.or (ix_tup.or ix_str)
def JX(ik:iA)(n j:Nat)(u:Value):Obj.mapSeq (·.setIfInBounds j u) {cls:=.type "list",data:=.seq ik.toArray n}={cls:=.type "list",data:=.seq (ik.set j u).toArray n}:=by
 simp[Obj.mapSeq]
def Inv.lst{gV:g9}{σ:St}{H:Hp}{s:Shared}{p:Addr}{xs:iH}(I:Inv X gV σ H s)(h:H p=some (.lst xs)):∃(ik:iA) (n:Nat),Vals xs ik∧s.heap.get? p=some {cls:=.type "list",data:=.seq ik.toArray n}∧xs.length<=sizeLine:=by
 obtain⟨z,ik,n,r,e⟩:=I.hok p _ h;exact⟨ik,n,r,e,z⟩
def Inv.lstUpd{gV:g9}{σ:St}{H:Hp}{s:Shared}{p:Addr}{xs ys:iH}{ik its':iA}{n n':Nat}{f:Obj->Obj}(I:Inv X gV σ H s)(h:H p=some (.lst xs))(ho:s.heap.get? p=some {cls:=.type "list",data:=.seq ik.toArray n}) (hf:f {cls:=.type "list",data:=.seq ik.toArray n}={cls:=.type "list",data:=.seq its'.toArray n'}) (r:Vals ys its') (hz:ys.length<=sizeLine) (t:Nat):Inv X gV σ (upd H p (.lst ys)) {s with heap:=s.heap.update p f,toks:=t}:=by
 have e:(s.heap.update p f).get? p=some {cls:=.type "list",data:=.seq its'.toArray n'}:=by
  rw[cv f ho (by rw[hf] <;> rfl),hf]
 refine I.write (x:=p) (e:=p) (by rw[h];trivial) (.inl rfl) (λb u hb q=>(cL _ _ (cF hb)).trans q) ⟨_,e⟩ ?_;exact⟨hz,its',n',r,e⟩
def A7:V->V->V->Hp->(Hp->Prop)->Prop:=λo i v H Q=>∃p xs k j,o=.ref p∧i=.int k∧H p=some (.lst xs)∧ixN xs.length k=some j∧Q (upd H p (.lst (xs.set j v)))
def set_list:PSet X A7:=by
 intro gV s σ H o i v ov iv u Q I ro ri rv h;obtain⟨p,xs,k,j,rfl,rfl,hp,hj,q⟩:=h;cases ro;obtain⟨t,rfl⟩:=ri;obtain⟨ik,n,r,ho,hz⟩:=I.lst hp;obtain⟨h1,h2,h3,h4⟩:=IK hj;have hl:=r.length;have hn:=RN
 have I':Inv X gV σ (upd H p (.lst (xs.set j v))) {s with heap:=s.heap.update p (Obj.mapSeq (·.setIfInBounds j u))}:=
  I.lstUpd hp ho (JX ik n j u) (r.set rv j) (by rw[da];exact hz) s.toks
 by_cases h0:0<=k
 ·have hk:k.toNat=j:=by
   rw[seqIndex_of h0 h4]at h1;exact bT h1
  exact PySem.W.ki_setAt ho h0 (by omega) (by rw[bE,← hl];exact h4) (by rw[hk];exact⟨_,I',q⟩)
 ·have hk:(k+(ik.toArray.size:Int)).toNat=j:=by
   rw[seqIndex_neg (by omega) h3]at h1;rw[bE,← hl];exact bT h1
  exact PySem.W.ki_setBack ho (by omega) (by rw[bE,← hl];exact h3) (by omega) (by rw[hk];exact⟨_,I',q⟩)
def TN:V->Bool
 |.non=>true
 |.bl _=>true
 |.int _=>true
 |.str _=>true
 |_=>false
def eqV:V->V->Bool
 |.non,.non=>true
 |.bl a,.bl b=>a == b
 |.bl a,.int b=>(if a then 1 else 0) == b
 |.int a,.bl b=>a == (if b then 1 else 0)
 |.int a,.int b=>a == b
 |.str a,.str b=>a == b
 |_,_=>false
def eqAt_V{A:Around}{s:Shared}{y x:V}{u v:Value}(ry:RelV y u)(rx:RelV x v)(fy:TN y=true)(fx:TN x=true):SeqAt.EqAt A s u v (eqV y x):=by
 cases y with
 |non=>
  cases ry;cases x with
  |non=>cases rx;exact SeqAt.EqAt.same _
  |bl b=>cases rx;exact SeqAt.EqAt.none_bool b
  |int b=>obtain⟨t,rfl⟩:=rx;exact SeqAt.EqAt.none_int b t
  |str b=>obtain⟨t,rfl⟩:=rx;exact SeqAt.EqAt.none_str b t
  |_=>exact absurd (show false=true from fx) aH
 |bl a=>
  cases ry;cases x with
  |non=>cases rx;exact SeqAt.EqAt.bool_none a
  |bl b=>cases rx;exact SeqAt.EqAt.bool_bool a b
  |int b=>obtain⟨t,rfl⟩:=rx;exact SeqAt.EqAt.bool_int a b t
  |str b=>obtain⟨t,rfl⟩:=rx;exact SeqAt.EqAt.bool_str a b t
  |_=>exact absurd (show false=true from fx) aH
 |int a=>
  obtain⟨t',rfl⟩:=ry;cases x with
  |non=>cases rx;exact SeqAt.EqAt.int_none a t'
  |bl b=>cases rx;exact SeqAt.EqAt.int_bool a t' b
  |int b=>obtain⟨t,rfl⟩:=rx;exact SeqAt.EqAt.int_int a t' b t
  |str b=>obtain⟨t,rfl⟩:=rx;exact SeqAt.EqAt.int_str a t' b t
  |_=>exact absurd (show false=true from fx) aH
 |str a=>
  obtain⟨t',rfl⟩:=ry;cases x with
  |non=>cases rx;exact SeqAt.EqAt.str_none a t'
  |bl b=>cases rx;exact SeqAt.EqAt.str_bool a t' b
  |int b=>obtain⟨t,rfl⟩:=rx;exact SeqAt.EqAt.str_int a t' b t
  |str b=>obtain⟨t,rfl⟩:=rx;exact SeqAt.EqAt.str_str a t' b t
  |_=>exact absurd (show false=true from fx) aH
 |_=>exact absurd (show false=true from fy) aH
def eqU(x:V)(u:Value):Bool:=match u with
 |.none=>eqV .non x
 |.bool b=>eqV (.bl b) x
 |.int i _=>eqV (.int i) x
 |.str z _=>eqV (.str z) x
 |_=>false
def FH{x y:V}{u:Value}(r:RelV y u)(f:TN y=true):eqU x u=eqV y x:=by
 cases y with
 |non=>cases r;rfl
 |bl b=>cases r;rfl
 |int i=>obtain⟨t,rfl⟩:=r;rfl
 |str z=>obtain⟨t,rfl⟩:=r;rfl
 |_=>exact absurd (show false=true from f) aH
def SH{x:V}:∀{xs:iH} {us:iA},Vals xs us->xs.all TN=true->us.any (eqU x)=xs.any λy=>eqV y x
 |_,_,.nil,_=>rfl
 |y::xs,u::us,.cons r t,f=>by
  rw[gv,cf]at f;rw[dc,dc,FH r f.1,SH t f.2]
def Ta{A:Around}{s:Shared}{x:V}{v:Value}(rx:RelV x v)(fx:TN x=true):∀{xs:iH} {us:iA},Vals xs us->xs.all TN=true->∀u∈us,SeqAt.EqAt A s u v (eqU x u)
 |_,_,.nil,_=>λu hu=>by cases hu
 |y::xs,u::us,.cons r t,f=>λu' hu=>by
  rw[gv,cf]at f;rcases aT.mp hu with rfl|hu
  ·rw[FH r f.1];exact eqAt_V r rx f.1 fx
  ·exact Ta rx fx t f.2 u' hu
def inV(x:V)(xs:iH):Bool:=xs.any λy=>eqV y x
def rIn(K:g8)(neg:Bool):R2:=λx y H Q=>∃p xs,y=.ref p∧(SqL K H p xs∨SqT K H p xs)∧TN x=true∧xs.all TN=true∧Q (.bl (if neg then !inV x xs else inV x xs)) H
def GA:OpR X (compareOp .In) (rIn X.K false):=by
 intro gV s σ H x y v u Q I rx ry h;obtain⟨p,xs,rfl,hq,fx,fs,q⟩:=h;cases ry;rcases hq with hq|hq
 ·obtain⟨ik,r,pl,hz⟩:=I.list hq
  refine SeqAt.in_listAt (eqU x) pl.isList (λw hw=>Ta rx fx r fs w (by simpa using hw)) ⟨.bl _,H,I,rfl,?_⟩;rw[show ik.toArray.any (eqU x)=ik.any (eqU x) by simp,SH r fs];exact q
 ·obtain⟨ik,r,pl,hz⟩:=I.tuple hq
  refine SeqAt.in_tupleAt (eqU x) pl (λw hw=>Ta rx fx r fs w (by simpa using hw)) ⟨.bl _,H,I,rfl,?_⟩;rw[show ik.toArray.any (eqU x)=ik.any (eqU x) by simp,SH r fs];exact q
def Mb:OpR X (compareOp .NotIn) (rIn X.K true):=by
 intro gV s σ H x y v u Q I rx ry h;obtain⟨p,xs,rfl,hq,fx,fs,q⟩:=h;cases ry;rcases hq with hq|hq
 ·obtain⟨ik,r,pl,hz⟩:=I.list hq
  refine SeqAt.notIn_listAt (eqU x) pl.isList (λw hw=>Ta rx fx r fs w (by simpa using hw)) ⟨.bl _,H,I,rfl,?_⟩;rw[show ik.toArray.any (eqU x)=ik.any (eqU x) by simp,SH r fs];exact q
 ·obtain⟨ik,r,pl,hz⟩:=I.tuple hq
  refine SeqAt.notIn_tupleAt (eqU x) pl (λw hw=>Ta rx fx r fs w (by simpa using hw)) ⟨.bl _,H,I,rfl,?_⟩;rw[show ik.toArray.any (eqU x)=ik.any (eqU x) by simp,SH r fs];exact q
def Mp:CallR X (.builtin "len") (λxs H Q=>∃p ys,xs=[.ref p]∧(SqL X.K H p ys∨SqT X.K H p ys)∧Q (.int ys.length) H):=by
 intro gV s σ H xs us Q I r h;obtain⟨p,ys,rfl,hq,q⟩:=h;obtain⟨u,rfl,rx⟩:=Oj r;cases rx;have hn:=RN;rcases hq with hq|hq
 ·obtain⟨ik,r',pl,hz⟩:=I.list hq
  have im:=r'.length;exact Calls.call_len_list pl.isList (by simp only[bE] <;> omega) ⟨.int ys.length,H,I.tok _,⟨s.toks+1,by rw[bE,im]⟩,q⟩
 ·obtain⟨ik,r',pl,hz⟩:=I.tuple hq
  have im:=r'.length;exact len_tuple pl (by simp only[bE] <;> omega) ⟨.int ys.length,H,I.tok _,⟨s.toks+1,by rw[bE,im]⟩,q⟩
def CallR.or{f:Value}{r r':iH->Hp->VK->Prop}(h:CallR X f r)(h':CallR X f r'):CallR X f (λxs H Q=>r xs H Q∨r' xs H Q):=by
 intro gV s σ H xs us Q I rs q;rcases q with q|q
 ·exact h gV s σ H xs us Q I rs q
 ·exact h' gV s σ H xs us Q I rs q
def tyV(K:g8)(T:String)(x:V)(H:Hp):Prop:=match x with
 |.str _=>T="str"
 |.int _=>T="int"
 | .ref p => (T = "list" ∧ ∃ xs,SqL K H p xs) ∨ (T = "tuple" ∧ ∃ o,K.lookup p = some o ∧ o.cls = .type "tuple" ∧ o.dict = none) ∨
     (T="dict"∧((∃kvs,H p=some (.dK kvs))∨∃kvs,H p=some (.dT kvs)))∨(T="set"∧∃S n,H p=some (.set S n))
 |_=>False
def DU{gV:g9}{σ:St}{H:Hp}{s:Shared}{T:String}{x:V}{v:Value}(I:Inv X gV σ H s)(r:RelV x v)(ty:tyV X.K T x H):s.TypeIs v T∧∀a,v=.ref a->∃ob,s.heap.get? a=some ob∧ob.dict=none:=by
 cases x with
 |str z=>
  obtain⟨t,rfl⟩:=r;cases (show T="str" from ty);exact⟨typeIs_str s z t,λ_ e=>nomatch e⟩
 |int i=>
  obtain⟨t,rfl⟩:=r;cases (show T="int" from ty);exact⟨typeIs_int s i t,λ_ e=>nomatch e⟩
 |ref p=>
  cases r;rcases ty with ⟨rfl,xs,hq⟩|⟨rfl,o,hk,hc,hd⟩|⟨rfl,hk⟩|⟨rfl,S,n,hk⟩
  ·obtain⟨ik,_,pl,_⟩:=I.list hq
   refine⟨pl.isList.typeIs,λa e=>?_⟩;cases e;obtain⟨o,n,e,c,hd,_⟩:=pl;exact⟨o,e,hd⟩
  ·refine⟨⟨o,I.kIn p o hk,hc⟩,λa e=>?_⟩
   cases e;exact⟨o,I.kIn _ o hk,hd⟩
  ·have z:∃o,s.heap.get? p=some o∧o.ExactDict:=by
    rcases hk with ⟨kvs,hk⟩|⟨kvs,hk⟩
    ·obtain⟨_,_,_,_,o,_,_,e,ex,_⟩:=I.hok p _ hk
     exact⟨o,e,ex⟩
    ·obtain⟨_,_,_,_,o,_,_,e,ex,_⟩:=I.hok p _ hk
     exact⟨o,e,ex⟩
   obtain⟨o,e,ex⟩:=z;refine⟨⟨o,e,ex.1⟩,λa e2=>?_⟩;cases e2;exact⟨o,e,ex.2.1⟩
  ·obtain⟨o,_,_,_,e,ex,_⟩:=I.hok p _ hk
   refine⟨⟨o,e,ex.1⟩,λa e2=>?_⟩;cases e2;exact⟨o,e,ex.2.1⟩
 |_=>exact False.elim ty
def tBM0(K:g8)(T:String)(r:V->List V->Hp->VK->Prop)(to:TE):TE:=λσ H Q=>to σ H λx H1=>tyV K T x H1∧r x [] H1 Q
def tBM(K:g8)(T:String)(r:V->List V->Hp->VK->Prop)(to:TE)(t:TA):TE:=λσ H Q=>to σ H λx H1=>tyV K T x H1∧t σ H1 λxs H2=>r x xs H2 Q
variable{o e:Expr}{es:iE}{to:TE}{t:TA}{name:Str}{ip io:Pos}{T id:String}{r:V->List V->Hp->VK->Prop}
def pe_bm0(pa:PlainAttrs T)(slot:Slot T name id)(lY:typeOf (.builtin id)=pure (.type "method_descriptor"))(hm:MtR X id r)(ho:PE X o to)(iZ:attributeBase o name X.env (eval o X.env)=eval o X.env:=by rfl) (i4:(ip.endLine == io.line)=true:=by rfl):PE X (.Call (.Attribute o name ip) [] [] io) (tBM0 X.K T r to):=by
 intro gV s σ H Q I h;refine wpAny_Call_method0_late iZ i4 (thn (ho gV s σ H _ I h) λv s1 ⟨x,H1,I1,r1,ty,q1⟩=>?_);obtain⟨h1,h2⟩:=DU I1 r1 ty;exact⟨T,id,pa,slot,lY,h1,h2,eJ rfl (PySem.evalArgs_none (hm gV s1 σ H1 x [] v [] Q I1 r1 .nil q1))⟩
def Di(pa:PlainAttrs T)(slot:Slot T name id)(lY:typeOf (.builtin id)=pure (.type "method_descriptor"))(hm:MtR X id r)(ho:PE X o to)(ha:PA X (e::es) t)(iZ:attributeBase o name X.env (eval o X.env)=eval o X.env:=by rfl)(je:((backTo io (starEach (e::es) X.env)).all (λx=>!x.1)&&(backToKw io (keywordEach [] X.env)).all (λx=>x.1.isSome)
     && decide ((e::es).length+([]:List Keyword).length+(if ([]:List Keyword).isEmpty then 0 else 1)<30))=true:=by rfl)
    (i4:(ip.endLine == io.line)=true:=by rfl) (hs:starEach (e::es) X.env=(false,eval e X.env)::starEach es X.env:=by rfl) (ja:(backTo io (starEach es X.env)).any (·.1)=false:=by rfl):
    PE X (.Call (.Attribute o name ip) (e::es) [] io) (tBM X.K T r to t):=by
 intro gV s σ H Q I h;refine wpAny_Call_method_late iZ je i4 rfl (thn (ho gV s σ H _ I h) λv s1 ⟨x,H1,I1,r1,ty,q1⟩=>?_);obtain⟨h1,h2⟩:=DU I1 r1 ty;refine⟨T,id,pa,slot,lY,h1,h2,?_⟩;have hA:=ha io gV s1 σ H1 _ I1 q1;rw[hs]at hA ⊢;refine eJ (by show(false || (backTo io (starEach es X.env)).any (·.1))=false;rw[ja] <;> rfl) (eV ?_);exact thn hA λus s2 ⟨vs,H2,I2,r2,q2⟩=>hm gV s2 σ H2 x vs v us Q I2 r1 r2 q2
end
def MtM(X:Cx)(id:String)(r:V->List V->Hp->VK->Prop):Prop:=
 ∀(gV:g9) (s:Shared) (σ:St) (H:Hp) (x:V) (xs:iH) (v:Value) (us:iA) (Q:VK),Inv X gV σ H s->RelV x v->Vals xs us->r x xs H Q ->
  wpAny (model X.prog X.w) X.A (call (.builtin id) (v::us)) (EP X gV σ Q) X.xe s
def Vals.one:∀{x:V} {us:iA},Vals [x] us->∃u,us=[u]∧RelV x u
 |_,_,.cons r .nil=>⟨_,rfl,r⟩
def Vals.rep{xs:iH}{us:iA}(h:Vals xs us):∀k:Nat,Vals (List.replicate k xs).flatten (List.replicate k us).flatten
 |0=>.nil
 |k+1=>by
  rw[cK,cK,dw,dw];exact Vals.append h (Vals.rep h k)
def NH(ik:iA):∀(k:Nat) (iu:iA), List.foldl (λx1 x2=>x1++x2) iu.toArray (List.replicate k ik.toArray)=(iu++(List.replicate k ik).flatten).toArray
 |0,iu=>by simp
 |k+1,iu=>by
  have e:iu.toArray++ik.toArray=(iu++ik).toArray:=by simp
  have e2:(iu++ik)++(List.replicate k ik).flatten=iu++(List.replicate (k+1) ik).flatten:=by
   rw[cK,dw,bP]
  rw[← e2,← NH ik k (iu++ik),← e,cK,gP]
section
variable{X:Cx}{gV:g9}{σ:St}{H:Hp}{s:Shared}{l b:Addr}{xs ys zs:iH}
def Inv.lset{ik its':iA}{n:Nat}{f:Array Value->Array Value}{t':Nat}(I:Inv X gV σ H s)(hH:H l=some (.lst xs))(e:s.heap.get? l=some {cls:=.type "list",data:=.seq ik.toArray n}) (hf:f ik.toArray=its'.toArray) (hv:Vals ys its') (hz:ys.length<=sizeLine):Inv X gV σ (upd H l (.lst ys)) {s with heap:=s.heap.update l (Obj.mapSeq f),toks:=t'}:=by
 have q:=PySem.IsL.update e f;rw[hf]at q;refine I.write (x:=l) (e:=l) (by rw[hH];exact trivial) (.inl rfl) (λb' u hb hu=>(cL s.heap (Obj.mapSeq f) (cF hb)).trans hu) ⟨_,q⟩ ?_;exact⟨hz,its',_,hv,q⟩
def Inv.lnew{ik:iA}{t':Nat}(I:Inv X gV σ H s)(hv:Vals ys ik)(hz:ys.length<=sizeLine):Inv X gV σ (upd H s.heap.objs.size (.lst ys)) {s with heap:=s.heap.push {cls:=.type "list",data:=.seq ik.toArray},toks:=t'}:=
 I.laid (λ_ _ q=>aI _ q) (aM _) ⟨hz,ik,0,hv,aZ _ rfl⟩
def Inv.fresh(I:Inv X gV σ H s):H s.heap.objs.size=none:=I.hok.fresh (aM _)
def Inv.lstM(I:Inv X gV σ H s)(hH:H l=some (.lst xs)):xs.length<=sizeLine∧∃(ik:iA) (n:Nat),Vals xs ik∧xs.length=ik.length∧s.heap.get? l=some {cls:=.type "list",data:=.seq ik.toArray n}:=by
 obtain⟨z,ik,n,r,e⟩:=I.hok l _ hH;exact⟨z,ik,n,r,r.length,e⟩
def KO{n:Nat}(h:n<=sizeLine):Builtin.List.listTooLong n=false:=by
 unfold Builtin.List.listTooLong;exact aJ (by omega)
end
section
variable{X:Cx}
def Hw:V->List V->Hp->VK->Prop:=λx vs H Q=>∃l xs y,x=.ref l∧vs=[y]∧H l=some (.lst xs)∧xs.length<sizeLine∧Q .non (upd H l (.lst (xs++[y])))
def HM:MtM X "list.append" Hw:=by
 intro gV s σ H x vs v us Q I rx rv h;obtain⟨l,xs,y,rfl,rfl,hH,hz,q⟩:=h;cases rx;obtain⟨u,rfl,ru⟩:=rv.one;obtain⟨z,ik,n,r,hl,e⟩:=I.lstM hH;refine call_meets F.slot_list_append ⟨_,e,rfl⟩ F.entry_list_append (F.args_list_append_2 _ _) (PySem.list_append l ik.toArray n u (by rw[bE];omega)) ⟨e,?_⟩;refine⟨.non,_,I.lset (its':=ik++[u]) hH e (by simp) (r.append (.cons ru .nil)) ?_,rfl,q⟩;rw[aS,fZ];omega
def rRep:R2:=λx y H Q=>∃l k xs,x=.ref l∧y=.int k∧H l=some (.lst xs)∧-(2 ^ 63)<=k∧k<2 ^ 63∧xs.length * k.toNat<=sizeLine ∧
 ∀p,H p=none->Q (.ref p) (upd H p (.lst (List.replicate k.toNat xs).flatten))
def Br{α:Type}(xs:List α)(k:Nat):(List.replicate k xs).flatten.length=k * xs.length:=by
 induction k with
 |zero=>simp
 |succ k ih=>rw[cK,dw,aS,ih,Nat.succ_mul,Nat.add_comm]
def op_rep:OpR X (binaryOp .Mult) rRep:=by
 intro gV s σ H x y v u Q I rx ry h;obtain⟨l,k,xs,rfl,rfl,hH,h1,h2,hz,q⟩:=h;cases rx;obtain⟨t,rfl⟩:=ry;obtain⟨z,ik,n,r,hl,e⟩:=I.lstM hH;have im:ik.toArray.size * k.toNat<=sizeLine:=by rw[bE,← hl];exact hz
 have hcap:¬ ik.toArray.size * k.toNat > (2 ^ 63-1) / 8:=by
  have:(sizeLine:Nat)<=(2 ^ 63-1) / 8:=by decide
  omega
 have hfit:¬ (!Builtin.List.listFitsIndex k)=true:=by
  rw[fitsIndex_both h1 h2];exact aH
 have hlong:¬ Builtin.List.listTooLong (ik.toArray.size * k.toNat)=true:=by
  rw[KO im];exact aH
 have hnew:List.foldl (λx1 x2=>x1++x2) #[] (List.replicate (if ik.toArray.isEmpty=true then 0 else k.toNat) ik.toArray)=(List.replicate k.toNat ik).flatten.toArray:=by
  have f0:∀m:Nat,List.foldl (λx1 x2=>x1++x2) #[] (List.replicate m ik.toArray)=(List.replicate m ik).flatten.toArray:=λm=>by
   have:=NH ik m [];rw[fV]at this;exact this
  rw[f0];cases ik with
  |nil=>simp
  |cons a r'=>rw[aE (by simp)]
 refine wpAny_binaryOp_repeat_ref (T:="list") (U:="int") (by decide) ⟨_,e,rfl⟩ (λs'=>typeIs_int s' k t) noFill_list_mul F.fills_int_mul F.slot_int_rmul repeat_list F.slot_int_index.lookup
  (call_meets F.slot_int_rmul (typeIs_int s k t) F.entry_int_rmul (F.args_int_rmul_2 _ _) (int___rmul___int_list k t l ik.toArray n)
   ⟨e,rfl,⟨_,e,rfl⟩,call_meets F.slot_list_mul ⟨_,e,rfl⟩ F.entry_list_mul (F.args_list_mul_2 _ _) (AutoListH.list___mul___list_int_3 l ik.toArray n k t hfit hcap hlong) ⟨e,?_⟩⟩)
 rw[hnew];exact⟨.ref _,_,I.lnew (t':=s.toks) (r.rep k.toNat) (by rw[Br,Nat.mul_comm];exact hz),rfl,q _ I.fresh⟩
end
section
variable{κ:Type}[DecidableEq κ]
def SW(kvs:List (κ × V))(k:κ):Option V:=(kvs.find? λkv=>decide (kv.1=k)).map (·.2)
def SS(kvs:List (κ × V))(k:κ)(v:V):List (κ × V):=
 if (kvs.any λkv=>decide (kv.1=k))=true then kvs.map (λkv=>if kv.1=k then (kv.1,v) else kv) else kvs++[(k,v)]
def Pe{p:κ × V}{r:List (κ × V)}{k:κ}(e:p.1=k):SW (p::r) k=some p.2:=by simp[SW,cB,e]
def OF{p:κ × V}{r:List (κ × V)}{k:κ}(e:¬ p.1=k):SW (p::r) k=SW r k:=by simp[SW,cB,e]
def K0(k:κ):∀kvs:List (κ × V),(kvs.any λkv=>decide (kv.1=k))=(SW kvs k).isSome
 |[]=>rfl
 |p::r=>by
  rw[dc];by_cases e:p.1=k
  ·simp only[Pe e,bJ e,Bool.true_or,gz]
  ·rw[OF e,aJ e,fj];exact K0 k r
def Qh(kvs:List (κ × V))(k:κ)(v:V):(SS kvs k v).length<=kvs.length+1:=by
 unfold SS;split
 ·rw[aA];omega
 ·rw[aS,bG,cI];omega
def RelO.isSome_eq{o:Option V}{u:iG}(r:RelO o u):o.isSome=u.isSome:=by
 cases o with
 |none=>cases u with
  |none=>rfl
  |some _=>exact(show False from r).elim
 |some _=>cases u with
  |none=>exact(show False from r).elim
  |some _=>rfl
def RelO.getD{o:Option V}{u:iG}{d:V}{d':Value}(r:RelO o u)(rd:RelV d d'):RelV (o.getD d) (u.getD d'):=by
 cases o with
 |none=>cases u with
  |none=>exact rd
  |some _=>exact(show False from r).elim
 |some _=>cases u with
  |none=>exact(show False from r).elim
  |some _=>exact r
def KV.val{kvs:List (κ × V)}{vs:List (κ × Value)}(r:KV kvs vs)(k:κ):RelO (SW kvs k) (valueAt vs k):=by
 unfold KV at r
 induction r with
 |nil=>exact True.intro
 |@cons p q ps qs h t ih=>
  obtain⟨h1,h2⟩:=h;by_cases e:p.1=k
  ·have e':q.1=k:=h1.symm.trans e
   have b:valueAt (q::qs) k=some q.2:=by simp[valueAt,cB,e']
   rw[Pe e,b];exact h2
  ·have e':¬ q.1=k:=λz=>e (h1.trans z)
   have b:valueAt (q::qs) k=valueAt qs k:=by simp[valueAt,cB,e']
   rw[OF e,b];exact ih
def KV.any{kvs:List (κ × V)}{vs:List (κ × Value)}(r:KV kvs vs)(k:κ):(kvs.any λkv=>decide (kv.1=k))=vs.any λkv=>decide (kv.1=k):=by
 unfold KV at r
 induction r with
 |nil=>rfl
 |cons h t ih=>rw[dc,dc,ih,h.1]
def KV.repl{kvs:List (κ × V)}{vs:List (κ × Value)}(r:KV kvs vs)(k:κ){y:V}{u:Value}(ry:RelV y u):KV (kvs.map λkv=>if kv.1=k then (kv.1,y) else kv) (vs.map λkv=>if kv.1=k then (kv.1,u) else kv):=by
 unfold KV at r ⊢
 induction r with
 |nil=>exact .nil
 |@cons p q ps qs h t ih=>
  rw[aU,aU];refine .cons ?_ ih;obtain⟨h1,h2⟩:=h;by_cases e:p.1=k
  ·rw[aC e,aC (h1.symm.trans e)];exact⟨h1,ry⟩
  ·rw[aE e,aE (λz=>e (h1.trans z))];exact⟨h1,h2⟩
def KV.put{kvs:List (κ × V)}{vs:List (κ × Value)}(r:KV kvs vs)(k:κ){y:V}{u:Value}(ry:RelV y u):KV (SS kvs k y) (stored vs k u):=by
 unfold SS stored;rw[r.any k];by_cases e:(vs.any λkv=>decide (kv.1=k))=true
 ·rw[aC e,aC e];exact r.repl k ry
 ·rw[aE e,aE e];exact Paired.snoc r ⟨rfl,ry⟩
def KV.length{kvs:List (κ × V)}{vs:List (κ × Value)}(r:KV kvs vs):kvs.length=vs.length:=gK r
end
def P5{P:Program}{w:World}{k:Key}{u:Value}(r:RelV (kV k) u):(Z2 P w).is k u=true:=by
 cases k with
 |inl i=>obtain⟨t,e⟩:=(show ∃t,u=Value.int i t from r);subst e;exact Ja P w i t
 |inr x=>obtain⟨t,e⟩:=(show ∃t,u=Value.str x t from r);subst e;exact Kh P w x t
def O8{P:Program}{w:World}:∀{ks:List Key} {us:iA},Vals (ks.map kV) us->ItemsAre (Z2 P w) ks us
 |[],_,r=>by rw[List.map_nil]at r;cases r;exact .nil
 |k::ks,_,r=>by
  rw[aU]at r;cases r with
  |cons h t=>exact .cons (P5 h) (O8 t)
abbrev KT(H:Hp):List (List Key × V)->List (List Key × Addr × Value)->Prop:=Paired λp q=>p.1=q.1∧H q.2.1=some (.tup (p.1.map kV))∧RelV p.2 q.2.2
def KT.val{H:Hp}{kvs:List (List Key × V)}{xs:List (List Key × Addr × Value)}(r:KT H kvs xs)(k:List Key):RelO (SW kvs k) ((atKey xs k).map (·.2)):=by
 induction r with
 |nil=>exact True.intro
 |@cons p q ps qs h t ih=>
  obtain⟨h1,_,h2⟩:=h;by_cases e:p.1=k
  ·have e':q.1=k:=h1.symm.trans e
   have b:atKey (q::qs) k=some q.2:=by simp[atKey,cB,e']
   rw[Pe e,b];exact h2
  ·have e':¬ q.1=k:=λz=>e (h1.trans z)
   have b:atKey (q::qs) k=atKey qs k:=by simp[atKey,cB,e']
   rw[OF e,b];exact ih
def KT.repl{H:Hp}{kvs:List (List Key × V)}{xs:List (List Key × Addr × Value)}(r:KT H kvs xs)(k:List Key){y:V}{u:Value}(ry:RelV y u):KT H (kvs.map λkv=>if kv.1=k then (kv.1,y) else kv) (xs.map (putAt k u)):=by
 induction r with
 |nil=>exact .nil
 |@cons p q ps qs h t ih=>
  rw[aU,aU];refine .cons ?_ ih;obtain⟨h1,h2,h3⟩:=h;unfold putAt;by_cases e:p.1=k
  ·rw[aC e,aC (h1.symm.trans e)];exact⟨h1,h2,ry⟩
  ·rw[aE e,aE (λz=>e (h1.trans z))];exact⟨h1,h2,h3⟩
def KT.put{H:Hp}{kvs:List (List Key × V)}{xs:List (List Key × Addr × Value)}(r:KT H kvs xs)(k:List Key){b:Addr}{y:V}{u:Value}(hb:H b=some (.tup (k.map kV)))(ry:RelV y u):KT H (SS kvs k y) (storedH xs k b u):=by
 have e:(kvs.any λkv=>decide (kv.1=k))=(atKey xs k).isSome:=by
  rw[K0,(r.val k).isSome_eq,gD]
 unfold SS storedH;rw[e];by_cases q:(atKey xs k).isSome=true
 ·rw[aC q,aC q];exact r.repl k ry
 ·rw[aE q,aE q];exact Paired.snoc r ⟨rfl,hb,ry⟩
def KT.keeps{H H':Hp}{kvs:List (List Key × V)}{xs:List (List Key × Addr × Value)}(r:KT H kvs xs)(ht:∀b ys,H b=some (.tup ys)->H' b=some (.tup ys)):KT H' kvs xs:=
 Paired.mapP r λ_ _ z=>⟨z.1,ht _ _ z.2.1,z.2.2⟩
section
variable{P:Program}{w:World}{H:Hp}{h:Heap}{a:Addr}
def AD{u:HO}(ok:HOk P w H h)(e:Rd H a u):ObjOk P w H h a u:=e.ok ok
def Rh{kvs:List (Key × V)}(ok:HOk P w H h)(e:Rd H a (.dK kvs)):kvs.length<=sizeLine∧(a == sysModules)=false∧∃vs,KV kvs vs∧h.DictOf (Z2 P w) a vs:=
 show ObjOk P w H h a (.dK kvs) from AD ok e
def dk_of{kvs:List (Key × V)}(ok:HOk P w H h)(e:H a=some (.dK kvs)):kvs.length<=sizeLine∧(a == sysModules)=false∧∃vs,KV kvs vs∧h.DictOf (Z2 P w) a vs:=Rh ok (.inl e)
def Sj{ks:List Key}(ok:HOk P w H h)(e:H a=some (.tup (ks.map kV))):(tupleKind (Z2 P w)).is h ks a:=by
 obtain⟨_,ik,r,o,h1,h2,n,h3⟩:=(show ObjOk P w H h a (.tup (ks.map kV)) from ok a _ e);exact⟨o,ik.toArray,n,h1,h2,h3,by simpa using O8 r⟩
def Qc{kvs:List (List Key × V)}(ok:HOk P w H h)(e:Rd H a (.dT kvs)):kvs.length<=sizeLine∧(a == sysModules)=false ∧ ∃xs,KT H kvs xs∧h.DictOfH (tupleKind (Z2 P w)) a xs:=by
 obtain⟨z,y,xs,r,o,es,ep,h1,h2,h3,h4,h5⟩:=(show ObjOk P w H h a (.dT kvs) from AD ok e);refine⟨z,y,xs,r,o,es,ep,h1,h2,h3,h4,λx hx=>?_,h5⟩
 have all:∀{l:List (List Key × V)} {m:List (List Key × Addr × Value)},KT H l m->∀x∈m,(tupleKind (Z2 P w)).is h x.1 x.2.1:=by
  intro l m q
  induction q with
  |nil=>intro x hx;exact nomatch hx
  |@cons p q ps qs hq t ih=>
   intro x hx;rcases aT.mp hx with e|hx
   ·subst e
    exact Sj ok (by rw[← hq.1];exact hq.2.1)
   ·exact ih x hx
 exact all r x hx
def dt_of{kvs:List (List Key × V)}(ok:HOk P w H h)(e:H a=some (.dT kvs)):kvs.length<=sizeLine∧(a == sysModules)=false ∧ ∃xs,KT H kvs xs∧h.DictOfH (tupleKind (Z2 P w)) a xs:=Qc ok (.inl e)
end
def DGet(H:Hp)(a:Addr)(y:V)(r:Option V):Prop:=
 (∃kvs k,Rd H a (.dK kvs)∧y=kV k∧r=SW kvs k)∨∃kvs k b,Rd H a (.dT kvs)∧y=.ref b∧H b=some (.tup (k.map kV))∧r=SW kvs k
def DPut(H:Hp)(a:Addr)(y v:V)(H':Hp):Prop:=
 (∃kvs k,H a=some (.dK kvs)∧y=kV k∧kvs.length<sizeLine∧H'=upd H a (.dK (SS kvs k v))) ∨
 ∃kvs k b,H a=some (.dT kvs)∧y=.ref b∧H b=some (.tup (k.map kV))∧kvs.length<sizeLine∧H'=upd H a (.dT (SS kvs k v))
def DGet.k{H:Hp}{a:Addr}{kvs:List (Key × V)}{k:Key}(e:H a=some (.dK kvs)):DGet H a (kV k) (SW kvs k):=.inl ⟨kvs,k,.inl e,rfl,rfl⟩
def DGet.t{H:Hp}{a b:Addr}{kvs:List (List Key × V)}{k:List Key}(e:H a=some (.dT kvs))(eb:H b=some (.tup (k.map kV))):DGet H a (.ref b) (SW kvs k):=.inr ⟨kvs,k,b,.inl e,rfl,eb,rfl⟩
def DPut.k{H:Hp}{a:Addr}{kvs:List (Key × V)}{k:Key}{v:V}(e:H a=some (.dK kvs))(hl:kvs.length<sizeLine):DPut H a (kV k) v (upd H a (.dK (SS kvs k v))):=.inl ⟨kvs,k,e,rfl,hl,rfl⟩
def DPut.t{H:Hp}{a b:Addr}{kvs:List (List Key × V)}{k:List Key}{v:V}(e:H a=some (.dT kvs))(eb:H b=some (.tup (k.map kV)))(hl:kvs.length<sizeLine):DPut H a (.ref b) v (upd H a (.dT (SS kvs k v))):=.inr ⟨kvs,k,b,e,rfl,eb,hl,rfl⟩
section
variable{X:Cx}{gV:g9}{σ:St}{H:Hp}{s:Shared}{a:Addr}{y v:V}{u r:Value}{o:Option V}{A:Around}{E:g6}
def Inv.big(I:Inv X gV σ H s):sysModules<s.heap.objs.size:=by
 have h:mainGlobals<s.heap.objs.size:=(I.mod.glob.keeps I.bk).lt;exact Nat.lt_trans (by decide) h
def Gh{Q:g6}(hu:A.units+1<cLine)(I:Inv X gV σ H s)(g:DGet H a y (some v))(ry:RelV y u)(h:∀w' s',Inv X gV σ H s'->RelV v w'->Q w' s'):wpAny (model X.prog X.w) A (getItem (.ref a) u) Q E s:=by
 rcases g with ⟨kvs,k,e,ey,l⟩|⟨kvs,k,b,e,ey,eb,l⟩
 ·subst ey
  obtain⟨z,hd,vs,rel,dd⟩:=Rh I.hok e;obtain⟨w',hw,jg⟩:=RelO.some_of (v:=v) (o:=valueAt vs k) (by rw[l];exact rel.val k);exact wpAny_getItem_of (P5 ry) dd.mapOf hw (h w' _ (I.tok _) jg)
 ·subst ey
  cases (show u=Value.ref b from ry);obtain⟨z,hd,xs,rel,dd⟩:=Qc I.hok e;obtain⟨w',hw,jg⟩:=RelO.some_of (v:=v) (o:=(atKey xs k).map (·.2)) (by rw[l];exact rel.val k);obtain⟨p,hp,j5⟩:=cQ.mp hw;refine wpAny_getItem_heap (dM hu) (Sj I.hok eb) dd hp ?_;rw[j5];exact h w' _ (I.tok _) jg
def d_in{Q:g6}(hu:A.units+1<cLine)(I:Inv X gV σ H s)(g:DGet H a y o)(ry:RelV y u)(h:∀s',Inv X gV σ H s'->Q (.bool o.isSome) s'):wpAny (model X.prog X.w) A (compareOp .In u (.ref a)) Q E s:=by
 rcases g with ⟨kvs,k,e,ey,l⟩|⟨kvs,k,b,e,ey,eb,l⟩
 ·subst ey
  obtain⟨z,hd,vs,rel,dd⟩:=Rh I.hok e;refine wpAny_in_of (P5 ry) hd dd.mapOf ?_;rw[← (rel.val k).isSome_eq,← l];exact h _ (I.tok _)
 ·subst ey
  cases (show u=Value.ref b from ry);obtain⟨z,hd,xs,rel,dd⟩:=Qc I.hok e;refine wpAny_in_heap (dM hu) (Sj I.hok eb) hd dd ?_;have q:=(rel.val k).isSome_eq;rw[gD]at q;rw[← q,← l];exact h _ (I.tok _)
def Bm{Q:g6}(hu:A.units+1<cLine)(I:Inv X gV σ H s)(g:DGet H a y o)(ry:RelV y u)(h:∀s',Inv X gV σ H s'->Q (.bool (!o.isSome)) s'):wpAny (model X.prog X.w) A (compareOp .NotIn u (.ref a)) Q E s:=by
 rcases g with ⟨kvs,k,e,ey,l⟩|⟨kvs,k,b,e,ey,eb,l⟩
 ·subst ey
  obtain⟨z,hd,vs,rel,dd⟩:=Rh I.hok e;refine wpAny_notIn_of (P5 ry) hd dd.mapOf ?_;rw[← (rel.val k).isSome_eq,← l];exact h _ (I.tok _)
 ·subst ey
  cases (show u=Value.ref b from ry);obtain⟨z,hd,xs,rel,dd⟩:=Qc I.hok e;refine wpAny_notIn_heap (dM hu) (Sj I.hok eb) hd dd ?_;have q:=(rel.val k).isSome_eq;rw[gD]at q;rw[← q,← l];exact h _ (I.tok _)
def IT{h':Heap}{t':Nat}{ob:HO}(I:Inv X gV σ H s)(mu:Mut (H a))(hs:Heap.SameBut a s.heap h')(he:∃q,h'.get? a=some q)(new:ObjOk X.prog X.w (upd H a ob) h' a ob):Inv X gV σ (upd H a ob) {s with heap:=h',toks:=t'}:=
 I.write (x:=a) (e:=a) mu (.inl rfl) (λb q hb z=>(hs.2 b hb).trans z) he new
def dk_new{P:Program}{w:World}{H':Hp}{h':Heap}{kvs:List (Key × V)}{vs:List (Key × Value)}(z:kvs.length<=sizeLine)(hd:(a == sysModules)=false)(rel:KV kvs vs)(dd:h'.DictOf (Z2 P w) a vs):ObjOk P w H' h' a (.dK kvs):=⟨z,hd,vs,rel,dd⟩
def GZ{H':Hp}{Q:Unit->Shared->Prop}(hu:A.units+1<cLine)(I:Inv X gV σ H s)(g:DPut H a y v H')(ry:RelV y u)(rv:RelV v r)(h:∀s',Inv X gV σ H' s'->Q () s'):wpAny (model X.prog X.w) A (setItem (.ref a) u r) Q E s:=by
 rcases g with ⟨kvs,k,e,ey,l,eH⟩|⟨kvs,k,b,e,ey,eb,l,eH⟩
 ·subst ey eH
  obtain⟨z,hd,vs,rel,dd⟩:=dk_of I.hok e;have hz:vs.length<=sizeLine:=by rw[← rel.length];exact z
  have hl:(SS kvs k v).length<=sizeLine:=by have:=Qh kvs k v;omega
  refine wpAny_setItem_pairs (hsz:=hz) (P5 ry) dd λh' lJ hs=>h _ ?_
  have he:∃q,h'.get? a=some q:=let ⟨q,_,_,hq,_⟩:=lJ;⟨q,hq⟩
  exact IT I (by rw[e];exact True.intro) hs he (dk_new hl hd (rel.put k rv) lJ)
 ·subst ey eH
  cases (show u=Value.ref b from ry);obtain⟨z,hd,xs,rel,dd⟩:=dt_of I.hok e;have hz:xs.length<=sizeLine:=by rw[← gK rel];exact z
  have hl:(SS kvs k v).length<=sizeLine:=by have:=Qh kvs k v;omega
  refine wpAny_setItem_heap (hsz:=hz) (dM hu) (Sj I.hok eb) dd λh' lJ hs=>h _ ?_
  obtain⟨q,es,ep,hq,h2,h3,h4,_,h5⟩:=lJ;refine IT I (by rw[e];exact True.intro) hs ⟨q,hq⟩ ⟨hl,hd,_,(rel.put k eb rv).keeps λc ys ec=>?_,q,es,ep,hq,h2,h3,h4,h5⟩;rw[ZA (ne_of ec e (λz=>nomatch z))];exact ec
end
section
variable{X:Cx}{gV:g9}{σ:St}{H:Hp}{s:Shared}{a:Addr}{kvs:List (Key × V)}{k:Key}{u:Value}{A:Around}{E:g6}
def d_len{Q:g6}(I:Inv X gV σ H s)(e:Rd H a (.dK kvs))(h:∀t s',Inv X gV σ H s'->Q (.int kvs.length t) s'):wpAny (model X.prog X.w) A (call (.builtin "len") [.ref a]) Q E s:=by
 obtain⟨z,hd,vs,rel,dd⟩:=Rh I.hok e;refine call_len_dict hd dd (by rw[← rel.length];rw[cA]at z;omega) ?_;rw[← rel.length];exact h _ _ (I.tok _)
end
def NoSl(i:Expr):Prop:=∀ov iv,subscripted i false ov iv=operate [ov,iv] (getItem ov iv)
def Cu{prog:Program}{w:World}{A:Around}{E:g6}{s:Shared}{env:Env}{value slice:Expr}{pos:Pos}{T id:String}{Q:g6}(hl:typeLookup (.type T) "__getitem__"=pure (some (.builtin id))) (hs:NoSl slice)(h:wpAny (model prog w) A (eval value env) (λo iq=>wpAny (model prog w) A (eval slice env) (λi ib=>ib.TypeIs o T∧wpAny (model prog w) A (getItem o i) Q E ib) E iq) E s):wpAny (model prog w) A (eval (.Subscript value slice pos) env) Q E s:=by
 refine Subscript_ (cy h (λo iq iW=>cy iW (λi ib jP=>?_) λ_ _ x=>x) λ_ _ x=>x);obtain⟨hT,jP⟩:=jP;unfold subscriptTail;refine aB ?_;rw[getitemInPython_of_ne hT.not_modules];refine aB (wpAny_specialOf hT hl ?_)
 have fin:wpAny (model prog w) A (subscripted slice false o i) (λr jl=>wpAny (model prog w) A (letTemporaryGo value o r >>= λ_=>pure r) Q E jl) E ib:=by
  rw[hs o i];exact wpAny_operating (cy jP (λr jl jF=>aB (wpAny_letTemporaryGo (aD jF))) λ_ _ x=>x)
 first
  |exact aD (aB fin)
  |exact aB (aD (aB fin))
  |exact aB fin
def Lz{X:Cx}{gV:g9}{σ:St}{H:Hp}{s:Shared}{a:Addr}{y:V}{o:Option V}(I:Inv X gV σ H s)(g:DGet H a y o):s.TypeIs (.ref a) "dict":=by
 rcases g with ⟨kvs,k,e,_,_⟩|⟨kvs,k,b,e,_,_,_⟩
 ·obtain⟨_,_,vs,_,dd⟩:=Rh I.hok e
  exact dd.typeIs
 ·obtain⟨_,_,xs,_,dd⟩:=Qc I.hok e
  exact dd.typeIs
def tDGet(td ty:TE):TE:=λσ H Q=>td σ H λx H1=>ty σ H1 λy H2=>∃a v,x=.ref a∧DGet H2 a y (some v)∧Q v H2
def tDIn(ty td:TE):TE:=λσ H Q=>ty σ H λy H1=>td σ H1 λx H2=>∃a o,x=.ref a∧DGet H2 a y o∧Q (.bl o.isSome) H2
def D7(ty td:TE):TE:=λσ H Q=>ty σ H λy H1=>td σ H1 λx H2=>∃a o,x=.ref a∧DGet H2 a y o∧Q (.bl (!o.isSome)) H2
def sDPut(td ty tv:TE):TS:=λD σ H=>tv σ H λv H1=>td σ H1 λx H2=>ty σ H2 λy H3=>∃a H4,x=.ref a∧DPut H3 a y v H4∧D.nx σ H4
section
variable{X:Cx}{o i e value:Expr}{pos iQ lX:Pos}{td ty tv:TE}
def Bh(hu:X.A.units+1<cLine)(ho:PE X o td)(hi:PE X i ty)(hs:NoSl i):PE X (.Subscript o i pos) (tDGet td ty):=by
 intro gV s σ H Q I h;refine Cu PySem.F.slot_dict_getitem.lookup hs (thn (ho gV s σ H _ I h) λu s1 ⟨x,H1,I1,rx,q1⟩=>thn (hi gV s1 σ H1 _ I1 q1) λiv s2 ⟨y,H2,I2,ry,a,v,ex,g,q2⟩=>?_);subst ex;obtain rfl:u=Value.ref a:=rx;exact⟨Lz I2 g,Gh hu I2 g ry λw' s3 I3 jg=>⟨v,H2,I3,jg,q2⟩⟩
def E8(hu:X.A.units+1<cLine)(hi:PE X i ty)(ho:PE X o td):PC X .In i o (tDIn ty td):=by
 intro gV s σ H Q I h;refine thn (hi gV s σ H _ I h) λiv s1 ⟨y,H1,I1,ry,q1⟩=>thn (ho gV s1 σ H1 _ I1 q1) λu s2 ⟨x,H2,I2,rx,a,ov,ex,g,q2⟩=>?_
 subst ex;obtain rfl:u=Value.ref a:=rx;exact d_in hu I2 g ry λs3 I3=>⟨.bl ov.isSome,H2,I3,rfl,q2⟩
def GQ(hu:X.A.units+1<cLine)(hi:PE X i ty)(ho:PE X o td):PC X .NotIn i o (D7 ty td):=by
 intro gV s σ H Q I h;refine thn (hi gV s σ H _ I h) λiv s1 ⟨y,H1,I1,ry,q1⟩=>thn (ho gV s1 σ H1 _ I1 q1) λu s2 ⟨x,H2,I2,rx,a,ov,ex,g,q2⟩=>?_
 subst ex;obtain rfl:u=Value.ref a:=rx;exact Bm hu I2 g ry λs3 I3=>⟨.bl (!ov.isSome),H2,I3,rfl,q2⟩
def D9(hu:X.A.units+1<cLine)(ho:PE X o td)(hi:PE X i ty)(hv:PE X value tv)(hs:swapsWith value (some (.Subscript o i iQ)) pos.line X.env=pure false):PS X (.Assign [.Subscript o i iQ] value pos) (sDPut td ty tv):=by
 intro gV s σ H D I h;refine wpAny_Assign_Subscript (thn (hv gV s σ H _ I h) λr s1 ⟨v,H1,I1,rv,q1⟩=>thn (ho gV s1 σ H1 _ I1 q1) λu s2 ⟨x,H2,I2,rx,q2⟩=>thn (hi gV s2 σ H2 _ I2 q2) λiv s3 ⟨y,H3,I3,ry,a,H4,ex,g,q3⟩=>?_) hs;subst ex;obtain rfl:u=Value.ref a:=rx;exact GZ hu I3 g ry rv λs4 I4=>⟨σ,H4,I4,q3⟩
end
def Ef{P:Program}{w:World}{H:Hp}(h:Heap)(hb:sysModules<h.objs.size):ObjOk P w H (h.push {cls:=.type "dict",data:=.dict #[]}) h.objs.size (.dK []):=
 ⟨cz _,aW.mpr (cF (bB hb)),[],.nil,Heap.DictOf.new h⟩
def FO{P:Program}{w:World}{H:Hp}(h:Heap)(hb:sysModules<h.objs.size):ObjOk P w H (h.push {cls:=.type "dict",data:=.dict #[]}) h.objs.size (.dT []):=
 ⟨cz _,aW.mpr (cF (bB hb)),[],.nil,_,#[],0,aZ _ rfl,⟨rfl,rfl,rfl⟩,rfl,rfl,f9⟩
def tDNewK:TE:=λ_ H Q=>∀p,H p=none->Q (.ref p) (upd H p (.dK []))
def tDNewT:TE:=λ_ H Q=>∀p,H p=none->Q (.ref p) (upd H p (.dT []))
section
variable{X:Cx}{pos:Pos}
def EI:PE X (.Dict [] [] pos) tDNewK:=λgV s σ H Q I h=>
 wpAny_Dict_empty ⟨.ref s.heap.objs.size,_,I.laid (a:=s.heap.objs.size) (o:=.dK []) (t':=s.toks) (λ_ _ q=>aI _ q) (aM _) (Ef s.heap I.big),rfl,h _ (I.hok.fresh (aM _))⟩
def EG:PE X (.Dict [] [] pos) tDNewT:=λgV s σ H Q I h=>
 wpAny_Dict_empty ⟨.ref s.heap.objs.size,_,I.laid (a:=s.heap.objs.size) (o:=.dT []) (t':=s.toks) (λ_ _ q=>aI _ q) (aM _) (FO s.heap I.big),rfl,h _ (I.hok.fresh (aM _))⟩
end
structure M1(X:Cx)(o:Expr)(m:Str)(ip:Pos)(e:Expr)(io:Pos):Prop where
 base:attributeBase o m X.env (eval o X.env)=eval o X.env
 few:((backTo io (starEach [e] X.env)).all (λx=>!x.1)&&(backToKw io (keywordEach [] X.env)).all (λx=>x.1.isSome)
  && decide (([e]:iE).length+([]:List Keyword).length+(if ([]:List Keyword).isEmpty then 0 else 1)<30))=true
 line:(ip.endLine == io.line)=true
 trees:backTo io (starEach [e] X.env)=[(false,eval e X.env)]
structure M2(X:Cx)(o:Expr)(m:Str)(ip:Pos)(e f:Expr)(io:Pos):Prop where
 base:attributeBase o m X.env (eval o X.env)=eval o X.env
 few:((backTo io (starEach [e,f] X.env)).all (λx=>!x.1)&&(backToKw io (keywordEach [] X.env)).all (λx=>x.1.isSome)
  && decide (([e,f]:iE).length+([]:List Keyword).length+(if ([]:List Keyword).isEmpty then 0 else 1)<30))=true
 line:(ip.endLine == io.line)=true
 trees:backTo io (starEach [e,f] X.env)=[(false,eval e X.env),(false,eval f X.env)]
def IsD(H:Hp)(a:Addr):Prop:=(∃kvs,Rd H a (.dK kvs))∨∃kvs,Rd H a (.dT kvs)
def E9{X:Cx}{gV:g9}{σ:St}{H:Hp}{s:Shared}{a:Addr}(I:Inv X gV σ H s)(d:IsD H a):s.TypeIs (.ref a) "dict"∧(∀b,Value.ref a=.ref b->∃ob,s.heap.get? b=some ob∧ob.dict=none)∧(a == sysModules)=false:=by
 rcases d with ⟨kvs,e⟩|⟨kvs,e⟩
 ·obtain⟨_,hd,vs,_,dd⟩:=Rh I.hok e
  refine⟨dd.typeIs,λb q=>?_,hd⟩;cases q;obtain⟨ob,_,_,h1,h2,_⟩:=dd;exact⟨ob,h1,h2.2.1⟩
 ·obtain⟨_,hd,xs,_,dd⟩:=Qc I.hok e
  refine⟨dd.typeIs,λb q=>?_,hd⟩;cases q;obtain⟨ob,_,_,h1,h2,_⟩:=dd;exact⟨ob,h1,h2.2.1⟩
section
variable{X:Cx}{gV:g9}{σ:St}{H:Hp}{s:Shared}{a:Addr}{y d:V}{u r:Value}{o:Option V}{A:Around}{E:g6}
def d_get1{Q:g6}(hu:A.units+1<cLine)(I:Inv X gV σ H s)(g:DGet H a y o)(ry:RelV y u)(h:∀w' s',Inv X gV σ H s'->RelV (o.getD .non) w'->Q w' s'):wpAny (model X.prog X.w) A (call (.builtin "dict.get") [.ref a,u]) Q E s:=by
 rcases g with ⟨kvs,k,e,ey,l⟩|⟨kvs,k,b,e,ey,eb,l⟩
 ·subst ey
  obtain⟨z,hd,vs,rel,dd⟩:=Rh I.hok e;refine gh dh dd.typeIs eA (PySem.F.args_dict_get_2 _ _) (meets_dict_get (Z2 X.prog X.w) a (P5 ry) hd) ⟨_,dd.mapOf,h _ _ (I.tok _) ?_⟩;rw[l];exact(rel.val k).getD rfl
 ·subst ey
  cases (show u=Value.ref b from ry);obtain⟨z,hd,xs,rel,dd⟩:=Qc I.hok e;refine gh dh dd.typeIs eA (PySem.F.args_dict_get_2 _ _) (meetsH_dict_get (tupleKind (Z2 X.prog X.w)) a b hd) ⟨dM hu,k,xs,Sj I.hok eb,dd,h _ _ (I.tok _) ?_⟩;rw[l];exact(rel.val k).getD rfl
def d_get2{Q:g6}(hu:A.units+1<cLine)(I:Inv X gV σ H s)(g:DGet H a y o)(ry:RelV y u)(rd:RelV d r)(h:∀w' s',Inv X gV σ H s'->RelV (o.getD d) w'->Q w' s'):wpAny (model X.prog X.w) A (call (.builtin "dict.get") [.ref a,u,r]) Q E s:=by
 rcases g with ⟨kvs,k,e,ey,l⟩|⟨kvs,k,b,e,ey,eb,l⟩
 ·subst ey
  obtain⟨z,hd,vs,rel,dd⟩:=Rh I.hok e;refine gh dh dd.typeIs eA (PySem.F.args_dict_get_3 _ _ _) (meets_dict_get_default (Z2 X.prog X.w) a (P5 ry) hd r) ⟨_,dd.mapOf,h _ _ (I.tok _) ?_⟩;rw[l];exact(rel.val k).getD rd
 ·subst ey
  cases (show u=Value.ref b from ry);obtain⟨z,hd,xs,rel,dd⟩:=Qc I.hok e;refine gh dh dd.typeIs eA (PySem.F.args_dict_get_3 _ _ _) (meetsH_dict_get_default (tupleKind (Z2 X.prog X.w)) a b hd r) ⟨dM hu,k,xs,Sj I.hok eb,dd,h _ _ (I.tok _) ?_⟩;rw[l];exact(rel.val k).getD rd
end
def tDGet1(td ty:TE):TE:=λσ H Q=>td σ H λx H1=>∃a,x=.ref a∧IsD H1 a∧ty σ H1 λy H2=>∃o,DGet H2 a y o∧Q (o.getD .non) H2
def tDGet2(td ty tx:TE):TE:=λσ H Q=>td σ H λx H1=>∃a,x=.ref a∧IsD H1 a∧ty σ H1 λy H2=>tx σ H2 λz H3=>∃o,DGet H3 a y o∧Q (o.getD z) H3
section
variable{X:Cx}{o e f:Expr}{ip io:Pos}{td ty tx:TE}
def D2(hu:X.A.units+1<cLine)(ho:PE X o td)(he:PE X e ty)(m:M1 X o "get" ip e io):PE X (.Call (.Attribute o "get" ip) [e] [] io) (tDGet1 td ty):=by
 intro gV s σ H Q I h;refine wpAny_Call_method m.base m.few m.line fJ dh PySem.F.type_dict_get (thn (ho gV s σ H _ I h) λu s1 ⟨x,H1,I1,rx,a,ex,d,q1⟩=>?_);subst ex;obtain rfl:u=Value.ref a:=rx;obtain⟨t1,t2,_⟩:=E9 I1 d;refine⟨t1,t2,?_⟩;rw[m.trees];refine eJ rfl (eV (fG (thn (he gV s1 σ H1 _ I1 q1) λiv s2 ⟨y,H2,I2,ry,ov,g,q2⟩=>gY ?_)));exact d_get1 hu I2 g ry λw' s3 I3 jg=>⟨_,H2,I3,jg,q2⟩
def Dv(hu:X.A.units+1<cLine)(ho:PE X o td)(he:PE X e ty)(hf:PE X f tx)(m:M2 X o "get" ip e f io):PE X (.Call (.Attribute o "get" ip) [e,f] [] io) (tDGet2 td ty tx):=by
 intro gV s σ H Q I h;refine wpAny_Call_method m.base m.few m.line fJ dh PySem.F.type_dict_get (thn (ho gV s σ H _ I h) λu s1 ⟨x,H1,I1,rx,a,ex,d,q1⟩=>?_);subst ex;obtain rfl:u=Value.ref a:=rx;obtain⟨t1,t2,_⟩:=E9 I1 d;refine⟨t1,t2,?_⟩;rw[m.trees]
 refine eJ rfl (eV (fG (thn (he gV s1 σ H1 _ I1 q1) λiv s2 ⟨y,H2,I2,ry,q2⟩=>
  fG (thn (hf gV s2 σ H2 _ I2 q2) λfv s3 ⟨z,H3,I3,rz,ov,g,q3⟩=>gY ?_))))
 exact d_get2 hu I3 g ry rz λw' s4 I4 jg=>⟨_,H3,I4,jg,q3⟩
end
end L2
namespace Att
open PySem PySem.W PySem.Calls PyProof.Rows
def QE{P:Params}{h:Heap}:∀(ns:iB) (vs:iA),WellAll P h vs (ns.map WData.int)->IntsAre vs ns:=by
 intro ns
 induction ns with
 |nil=>
  intro vs w;rw[List.map_nil]at w;cases w;exact .nil
 |cons n ns ih=>
  intro vs w;rw[aU]at w;cases w with
  |cons a b=>
   cases a;exact .cons _ _ (ih _ b)
def Gz{l:OpenLaw}{n:Nat}(hn:l.most=some n){P:Params}{h:Heap}{args:List WData}{kH:iA}(j9:l.row.toRowW.claim.pre args=true) (jG:WellAll P h kH args):∃a vs ns,kH=[Value.ref a]∧args=[WData.list (ns.map WData.int)]∧h.get? a=some {cls:=.type "list",data:=.seq vs.toArray}∧IntsAre vs ns∧ns.length<=n:=by
 have hsh:WShape.hasAll [] args [.list .int]=true:=(pre_splitW j9).1;have hc:l.pre.holds [] {args:=args}=true:=(pre_splitW j9).2;obtain⟨d,r,rfl,h1,h2⟩:=hasAllW_cons hsh;obtain rfl:=hasAllW_nil h2;obtain⟨xs,rfl,h3⟩:=hasW_list h1;obtain⟨ns,rfl⟩:=items_int h3
 have im:ns.length<=n:=by
  unfold OpenLaw.pre at hc
  have h4:(WTm.not (.lt (.lit (.int (n:Int))) (.len (.arg 0)))).holds [] {args:=[.list (ns.map .int)]}=true:=by
   have h4:=(holds_andW hc).1;rw[hn]at h4;exact h4
  have h5:=condW_of h4 (w_not (w_lt w_lit (w_len_list (w_arg rfl))));rw[aA]at h5;refine Nat.le_of_not_lt λq=>?_
  have q':(n:Int)<((ns.length:Nat):Int):=by omega
  first
   |(rw[bJ q']at h5;exact absurd h5 (by decide))
   |(simp at h5;omega)
 cases jG with
 |cons w1 w2=>
  cases w2;cases w1 with
  |list ho hall=>exact⟨_,_,ns,rfl,rfl,ho,QE ns _ hall,im⟩
def GB(l:OpenLaw)(args:List WData):l.row.toRowW.claim.post args (.bool true) args=true:=
 postW_of (r:=l.row.toRowW) (X:=(true == true))
  (show WShape.has [] (.bool true) .bool=true by first|rfl|decide|simp[WShape.has,WShape.arms,WShape.armsAll])
  (show(WTm.eq .res (.lit (.bool true))).value [] {args:=args,res:=some (.bool true),after:=args}=some (.bool (true == true)) from w_eq_bool (w_res rfl) w_lit) rfl
def attach_call{l:OpenLaw}{n:Nat}{q:Program}{loose:iD}{XP:(g7)->Heap->Prop}{YP:World->Heap->Prop}{d:DefRec}(hn:l.most=some n) (lZ:d.params.defaults=[])(call:∀(w:World) (s₀ iq:Shared) (mg mb:g7) (fa:Addr) (o:Obj) (pm cd doc:Value) (a:Addr) (vs:iA) (ns:iB),
     Ground q loose [] XP w s₀ mg mb iq.heap->YP w iq.heap ->
     iq.heap.get? fa=some o->o.data=.func (docDef d.name d.params d.body d.scope pm cd doc)->iq.heap.CodeRec cd d.name->mg d.name=some (.ref fa) ->
     iq.heap.get? a=some {cls:=.type "list",data:=.seq vs.toArray}->IntsAre vs ns->ns.length<=n->iq.gens=#[] ->
     codeAny (model l.prog w) callerA (.call (.ref fa) ⟨[.ref a],[]⟩) (λr s'=>r=.ok (.ret (.bool true))∧OldK iq.heap s'.heap∧s'.os=iq.os∧AllBare s'.gens) iq):
    WalkO q loose XP YP l.row.toRowW d [] (λf vs=>PySem.call f vs):=by
 intro w s₀ iq mg mb G Y fa o pm cd doc dV kV ho hd jL hD lK hg args kH as j9 nh oO jG oP;obtain rfl:dV=.none:=Dflts.none hD lZ;obtain rfl:kV=.none:=Dflts.noKw hD;obtain⟨a,vs,ns,rfl,rfl,kJ,jQ,im⟩:=Gz hn j9 jG;refine enter_call (d4 (call w s₀ iq mg mb fa o pm cd doc a vs ns G Y ho (fd_plain hd) jL lK kJ jQ im hg) λr s' hq=>?_);obtain⟨rfl,h2,h3,h4⟩:=hq;exact⟨.inl ⟨.bool true,.bool true,[],rfl,λ_=>rfl,.bool true,GB l _,λ_=>⟨List.Pairwise.nil,λ_ hm=>(nomatch hm)⟩⟩,h2,h3,h4⟩
end Att
namespace L2
open PySem PySem.Spec PyProof.Rows
def NP:∀{vs:iA} {ns:iB},IntsAre vs ns->Vals (ns.map V.int) vs
 |_,_,.nil=>.nil
 |_,_,.cons n t h=>.cons ⟨t,rfl⟩ (NP h)
def Only(H:Hp):Prop:=∀b,H b=none∨∃o xs,H b=some (.frz o (.lst xs))
def Dn{P:Program}{w:World}{K:g8}{mg mb:g7}{CX:CXT}{k:Nat}{fa a:Addr}{fd:FuncData}{x:Str}{sp:Sp}{iq:Shared}{vs:iA}{ns:iB}(KX:K.In iq.heap) (lL:iq.heap.Ns mainGlobals mg) (hb:iq.heap.Ns builtinsNs mb) (l0:∀x:Str,x≠"__name__"->mb x=bootBuiltins x) (iw:iq.heap.NoLimit) (hg:iq.gens=#[])(ha:iq.heap.get? a=some {cls:=.type "list",data:=.seq vs.toArray}) (hi:IntsAre vs ns) (hl:ns.length<=sizeLine) (hr:Room k callerA)(F:∀base:Heap,K.In base->base.Ns mainGlobals mg->FnOk P w K mg base CX k fa fd [x] sp) (k9:∀(s:Shared) (u:Value),BindsTo s fd ⟨[u],[]⟩ [(x,u)])(ko:∀H:Hp,Only H->SqL K H a (ns.map V.int)->sp [.ref a] H (λv _=>v=.bl true) λ_ _ _=>False)(nk:∀H e s',CX [] H iq (λ_ _ _=>False) e s'->False):codeAny (model P w) callerA (.call (.ref fa) ⟨[.ref a],[]⟩) (λr s'=>r=.ok (.ret (.bool true))∧OldK iq.heap s'.heap∧s'.os=iq.os∧AllBare s'.gens) iq:=by
 have rv:=NP hi;have lenV:=hi.length
 have core : ∀ H : Hp,Only H -> SqL K H a (ns.map V.int) -> HOk P w H iq.heap -> (∀ b,H b ≠ none -> b = a) -> (H a ≠ none -> K.lookup a = none) ->
     codeAny (model P w) callerA (.call (.ref fa) ⟨[.ref a],[]⟩) (λr s'=>r=.ok (.ret (.bool true))∧OldK iq.heap s'.heap∧s'.os=iq.os∧AllBare s'.gens) iq:=by
  intro H hO hS hok hA hK;have base_of:∀{b:Addr} {o:Obj},iq.heap.get? b=some o->H b=none->(NY iq.heap H).get? b=some o:=λe n=>EQ e n
  have noA:∀{b:Addr} {o:Obj} {es:Array DictEntry} {ep:Nat},iq.heap.get? b=some o->o.data=.dict es ep->H b=none:=λ{b o es ep} e d=>by
   cases q:H b with
   |none=>rfl
   |some u=>
    have e':b=a:=hA b (by rw[q];simp);subst e';rw[ha]at e;cases e;have d':Data.seq vs.toArray _=Data.dict es ep:=d;cases d'
  have nsK:∀{b:Addr} {m:g7},iq.heap.Ns b m->(NY iq.heap H).Ns b m:=λ{b m} ⟨o,es,ep,e,d,r⟩=>⟨o,es,ep,base_of e (noA e d),d,r⟩
  have hKb:K.In (NY iq.heap H):=λb o e=>base_of (KX b o e) (by
   cases q:H b with
   |none=>rfl
   |some u=>
    have e':b=a:=hA b (by rw[q];simp);subst e';rw[hK (by rw[q];simp)]at e;cases e)
  have hM:Mod K mg (NY iq.heap H):=⟨hKb,nsK lL,⟨mb,nsK hb,l0⟩,let ⟨mc,h1,h2⟩:=iw;⟨mc,nsK h1,h2⟩⟩;have e0:Env0 P w K mg (NY iq.heap H) callerA [] iq H:=⟨rfl,hM,λb o e=>Cn e,Nat.le_of_eq (Fd _ _),trivial,λb hb=>absurd (show b∈([]:h8) from hb) (by simp),hok,.of_eq hg⟩;refine d4 ((F _ hKb (nsK lL)).run callerA [] iq H ⟨[.ref a],[]⟩ [.ref a] [.ref a] _ _ hr e0 (k9 iq (.ref a)) (.cons rfl .nil) (ko H hO hS)) λr s' h=>?_
  cases r with
  |error e=>exact(nk H e s' h).elim
  |ok fl=>
   cases fl with
   |next=>exact False.elim h
   |brk=>exact False.elim h
   |cont=>exact False.elim h
   |ret u=>
    obtain⟨v,H',os,bare,un,l5,r',q⟩:=h;have q':v=.bl true:=q;subst q';obtain rfl:u=Value.bool true:=r';refine⟨rfl,OldK.of_keep λb o e=>?_,os,bare⟩;cases q:H b with
    |none=>exact un.keep b o e q (by intro z;exact absurd (show b∈([]:h8) from z) (by simp)) (by simp)
    |some u=>
     rcases hO b with z|⟨ob,xs,z⟩
     ·rw[q]at z;cases z
     ·have z2:=un.frzs b ob _ z
      obtain⟨e1,_⟩:=hok b _ z;obtain⟨e2,_⟩:=l5 b _ z2;rw[e]at e1;cases e1;exact e2
 cases hk:K.lookup a with
 |some o=>
  have e:=KX a o hk;rw[ha]at e;cases e;refine core (λ_=>none) (λ_=>.inl rfl) (.inr ⟨_,vs.toArray,_,hk,rfl,rfl,rfl,by rw[bE,lenV];exact hl,by simpa using rv⟩) (λb u z=>by have z':(none:Option HO)=some u:=z;cases z') (λb z=>absurd rfl z) λz=>absurd rfl z
 |none=>
  refine core (λb=>if b=a then some (.frz {cls:=.type "list",data:=.seq vs.toArray} (.lst (ns.map V.int))) else none) (λb=>?_) (.inl (.inr ⟨{cls:=.type "list",data:=.seq vs.toArray},aC rfl⟩)) (λb u z=>?_) (λb z=>?_) λ_=>hk
  ·by_cases hb:b=a
   ·exact .inr ⟨_,_,aC hb⟩
   ·exact .inl (aE hb)
  ·by_cases hb:b=a
   ·have z':=(aC hb).symm.trans z
    cases z';subst hb;exact⟨ha,by rw[aA];exact hl,vs,_,rv,ha⟩
   ·have z':=(aE hb).symm.trans z
    cases z'
  ·by_cases hb:b=a
   ·exact hb
   ·exact absurd (aE hb) z
abbrev E0:XK:=λ_ _ _=>False
structure Fun(K:g8)(x qual:Str)(st:Stmt)(f:Addr)(fd:FuncData):Prop where
 ex:∃(oc:Value) (od:Option Addr) (kV doc pm:Value) (an:Option Addr) (i9 ct:Value) (kX:Array (iG)),
  fd=PySem.W.fnOf x qual (QW st) (UD st) (YF st) .none kV doc pm an i9 ct∧K.lookup f=some ⟨oc,od,.func fd,kX⟩∧PySem.W.codeIn K i9 qual=true
 kp:PySem.W.keepIn K (.ref f)=true
section
variable{P:Program}{w:World}{K:g8}{mg:g7}{base:Heap}
def Fun.binds{x qual:Str}{st:Stmt}{f:Addr}{fd:FuncData}{ps:iD}(F:Fun K x qual st f fd)(h:∀(kV doc pm:Value) (an:Option Addr) (i9 ct:Value) (us:iA),us.length=ps.length->bindArgs (PySem.W.fnOf x qual (QW st) (UD st) (YF st) .none kV doc pm an i9 ct) ⟨us,[]⟩=pure (ps.zip us)):Binds K fd ps []:=by
 obtain⟨oc,od,kV,doc,pm,an,i9,ct,kX,rfl,lk,jL⟩:=F.ex;exact .all (h kV doc pm an i9 ct)
end
def Same(H H':Hp):Prop:=∀b o,H b=some o->H' b=some o
def Same.refl(H:Hp):Same H H:=λ_ _ h=>h
def Same.trans{H H1 H2:Hp}(a:Same H H1)(b:Same H1 H2):Same H H2:=λc o h=>b c o (a c o h)
def Same.free{H H':Hp}(e:Same H H'){l:Addr}(h:H' l=Option.none):H l=Option.none:=by
 cases q:H l with
 |none=>rfl
 |some o=>
  rw[e l o q]at h;cases h
section
variable{X:Cx}
def HE:CallR X (.builtin "len") (λxs H Q=>∃a kvs,xs=[V.ref a]∧H a=some (.dK kvs)∧Q (.int kvs.length) H):=by
 intro gV s σ H xs us Q I r h;obtain⟨a,kvs,rfl,ha,q⟩:=h;obtain⟨u,rfl,ru⟩:=Oj r;cases ru;exact d_len I (.inl ha) λt s' I'=>⟨.int kvs.length,H,I',⟨t,rfl⟩,q⟩
end
section
variable{X:Cx}{e:Expr}{es:iE}{te:TE}{pos:Pos}
def tFmt(te:TE):TE:=λσ H Q=>te σ H λx H1=>∃i,x=.int i∧i.natAbs.log2<1920∧Q (.str (toString i)) H1
def pe_fmt(he:PE X e te):PE X (.FormattedValue e (-1) none pos) (tFmt te):=by
 intro gV s σ H Q I h;refine PyProof.Rows.FormattedValue_plain (thn (he gV s σ H _ I h) λv s1 ⟨x,H1,I1,r1,i,ex,hb,q⟩=>?_);subst ex;obtain⟨t,rfl⟩:=r1;exact PySem.wpAny_formatField_int hb ⟨.str (toString i),H1,I1.tok _,⟨_,rfl⟩,q⟩
def PJ(X:Cx)(n:Nat)(es:iE)(t:TA):Prop:=
 ∀(gV:g9) (s:Shared) (σ:St) (H:Hp) (iu:Str) (Q:VK),Inv X gV σ H s->iu.length+n * es.length<=sizeLine ->
  t σ H (λ_ H1=>∀z:Str,Q (.str z) H1)->wpAny (model X.prog X.w) X.A (joinParts iu (evalEach es X.env)) (EP X gV σ Q) X.xe s
def tPart1(n:Nat)(te:TE)(t:TA):TA:=λσ H Q=>te σ H λx H1=>(∃y:Str,x=.str y∧y.length<=n)∧t σ H1 Q
def pj_nil{n:Nat}:PJ X n [] tNil:=by
 intro gV s σ H iu Q I hl h;exact PyProof.Rows.joinParts_nil ⟨.str iu,H,I.tok _,⟨_,rfl⟩,h iu⟩ (by simpa using hl)
def Hx{n:Nat}{t:TA}(he:PE X e te)(hr:PJ X n es t)(hs:evalEach (e::es) X.env=eval e X.env::evalEach es X.env:=by rfl):PJ X n (e::es) (tPart1 n te t):=by
 intro gV s σ H iu Q I hl h;rw[hs];refine PyProof.Rows.joinParts_cons (thn (he gV s σ H _ I h) λv s1 ⟨x,H1,I1,r1,⟨y,ex,hy⟩,q⟩=>?_);subst ex;obtain⟨t',rfl⟩:=r1
 have hz:iu.length+n * es.length+n<=sizeLine:=by
  rw[bG,Nat.mul_succ]at hl;omega
 have hap:(iu++y).length=iu.length+y.length:=strLen_append ..;have hm:(iu++y).length<=sizeLine:=by rw[hap];omega
 exact⟨hm,hr gV s1 σ H1 (iu++y) Q I1 (by rw[hap];omega) q⟩
def tJoin(t:TA):TE:=λσ H Q=>t σ H λ_ H1=>∀z:Str,Q (.str z) H1
def Be{iS iT:Expr}{rest:iE}{n:Nat}{t:TA}(h:PJ X n (iS::iT::rest) t)(hn:n * (iS::iT::rest).length<=16000000)(hs:evalEach (iS::iT::rest) X.env=eval iS X.env::eval iT X.env::evalEach rest X.env:=by rfl):PE X (.JoinedStr (iS::iT::rest) pos) (tJoin t):=by
 intro gV s σ H Q I q;refine PyProof.Rows.JoinedStr_many ?_;rw[← hs];refine h gV s σ H Str.empty Q I ?_ q;rw[cA];have:Str.empty.length=0:=rfl;omega
def Gp{i:Int}{n:Nat}(h:i.natAbs.log2<1920)(hn:1921<=n):(toString i:Str).length<=n:=bF (PyProof.Rows.int_text_len_1921 h) hn
end
def ObjOk.ex{P:Program}{w:World}{H:Hp}{h:Heap}{a:Addr}{o:HO}(x:ObjOk P w H h a o):∃ob,h.get? a=some ob:=by
 cases o with
 |lst xs=>obtain⟨_,_,_,_,e⟩:=x;exact⟨_,e⟩
 |tup xs=>obtain⟨_,_,_,ob,e,_⟩:=x;exact⟨_,e⟩
 |dK kvs=>obtain⟨_,_,_,_,o,_,_,e,_⟩:=x;exact⟨_,e⟩
 |dT kvs=>obtain⟨_,_,_,_,o,_,_,e,_⟩:=x;exact⟨_,e⟩
 |set S n=>obtain⟨o,_,_,_,e,_⟩:=x;exact⟨_,e⟩
 |ins C dx fs=>obtain⟨_,_,_,e,_⟩:=x;exact⟨_,e⟩
 |own y=>exact x
 |xd fs=>obtain⟨_,⟨_,_,_,e,_⟩,_⟩:=x;exact⟨_,e⟩
 |rng lo hi=>obtain⟨_,_,_,e⟩:=x;exact⟨_,e⟩
 |frz ob u=>obtain⟨e,_⟩:=x;exact⟨_,e⟩
 |tbl ps=>exact⟨_,x⟩
 |met f y=>exact⟨_,x⟩
 |ext φ=>obtain⟨_,e,_⟩:=x;exact e
def Un.on{fs:h8}{H H1:Hp}{h0 h1 h2:Heap}(u:Un fs [] H H1 h0 h1)(kB:∀b o o1,h0.get? b=some o->b ∉ fs->h1.get? b=some o1->h2.get? b=some o1)(ks:∀b o o1,h0.get? b=some o->b∈fs->h1.get? b=some o1->∃sl,h2.get? b=some {o1 with slots:=sl}):Un fs [] H H1 h0 h2 where
 keep:=λb o e n hb hx=>kB b o o e hb (u.keep b o e n hb hx)
 slot:=λb o e n hb hx=>by
  obtain⟨sl,e1⟩:=u.slot b o e n hb hx;obtain⟨iy,e2⟩:=ks b o _ e hb e1;exact⟨iy,e2⟩
 free:=u.free
 there:=λb o e hx=>by
  obtain⟨o1,e1⟩:=u.there b o e hx;by_cases hb:b∈fs
  ·obtain⟨sl,e2⟩:=ks b o o1 e hb e1
   exact⟨_,e2⟩
  ·exact⟨o1,kB b o o1 e hb e1⟩
 tups:=u.tups
 frzs:=u.frzs
 tbls:=u.tbls
structure Fly(P:Program)(w:World)(outer:List Env)(H:Hp)(s:Shared)(H':Hp)(a:Addr)(cls:Value)(s':Shared):Prop where
 os:s'.os=s.os
 bare:AllBare s'.gens
 un:Un (frs outer) [] H H' s.heap s'.heap
 hok:HOk P w H' s'.heap
 fl:∃B a0,Heap.FlyingW B outer a cls a0 s'.heap∧(∀b o ob,H' b=some o->s'.heap.get? b=some ob->B.get? b=some ob) ∧
  ∀b o ob,s.heap.get? b=some o->b ∉ frs outer->s'.heap.get? b=some ob->B.get? b=some ob
def CXw(P:Program)(w:World):CXT:=λouter H s E e s'=>∃a cls H',e=.ref a∧Fly P w outer H s H' a cls s'∧E cls none H'
def HOk.flown{P:Program}{w:World}{H:Hp}{h h' B:Heap}(x:HOk P w H h)(c1:∀b o ob,H b=some o->h.get? b=some ob->B.get? b=some ob)(st:B.StaysIn h'):HOk P w H h':=λb o e=>
 (x b o e).stay (λc u hc q=>by
  rcases hc with rfl|hc
  ·exact st _ _ (c1 _ _ _ e q)
  ·exact st _ _ (c1 _ _ _ hc q)) (λ_ q=>q) λ_ _ q=>q
section
variable{P:Program}{w:World}{K:g8}{mg:g7}{base:Heap}{N:iD}{qual:Str}{scope:Scope}{f:Addr}{cd:Value}{A:Around}{outer:List Env}{s:Shared}{H:Hp}{E:XK}
def IE:XR (CXw P w) (OI (CXw P w) P w K mg base N qual scope f cd A outer s H E) E:=by
 intro gV σ H1 s1 e s' I nq;obtain⟨a,cls,H',rfl,kK,hE⟩:=nq;have I':=I.call' (ch:=[]) kK.os kK.un kK.hok kK.bare (λ_ z=>nomatch z);obtain⟨B,a0,fl,c1,c2⟩:=kK.fl;have hfr:(A.deeper (envOfC qual scope s.heap.objs.size f cd)).frames=some (envOfC qual scope s.heap.objs.size f cd::outer):=I.ok.frames;refine wpAny_leaves_onW (L:=s.heap.objs.size) hfr rfl fl λh' jR up=>⟨a,cls,H',rfl,?_,hE⟩
 have hub:Un (frs outer) [] H H' s.heap s'.heap:=I'.base
 have nL:∀b o,s.heap.get? b=some o->b ∉ frs outer->b ∉ frs (envOfC qual scope s.heap.objs.size f cd::outer):=λb o e hb hm=>by
  unfold frs at hm hb;rw[cD]at hm;rcases aT.mp hm with z|z
  ·exact absurd (aP e) (by rw[z];exact cP _)
  ·exact hb z
 have kB:∀b o o1,s.heap.get? b=some o->b ∉ frs outer->s'.heap.get? b=some o1->B.get? b=some o1:=λb o o1 e hb e1=>by
  obtain⟨o2,e2⟩:=(show Un (frs outer) [] H H1 s.heap s1.heap from I.base).there b o e (by simp);exact c2 b o2 o1 e2 (nL b o e hb) e1
 refine⟨I'.os,I'.bare,hub.on (λb o o1 e hb e1=>jR.1 _ _ (kB b o o1 e hb e1)) (λb o o1 e hb e1=>?_),kK.hok.flown c1 jR.1,B,a0,jR,λb o ob e eb=>?_,λb o ob e hb eb=>?_⟩
 ·obtain⟨_,o',iY,l7⟩:=I'.funs.mem hb
  have iY:s'.heap.get? b=some o':=iY;rw[e1]at iY;cases iY;exact up b o1 e1 l7
 ·obtain⟨kL,e2⟩:=(kK.hok b o e).ex
  have e3:=c1 b o kL e e2;have e4:=jR.1 _ _ e3;have eb:h'.get? b=some ob:=eb;rw[e4]at eb;cases eb;exact e3
 ·obtain⟨kL,e2⟩:=hub.there b o e (by simp)
  have e3:=kB b o kL e hb e2;have e4:=jR.1 _ _ e3;have eb:h'.get? b=some ob:=eb;rw[e4]at eb;cases eb;exact e3
end
def Lw(X:Cx)(E:XK):Prop:=∀(gV:g9) (σ:St) (H:Hp) (s:Shared) (h':Heap) (e:Addr) (cls:Value) (args:iA),Inv X gV σ H s->Heap.MadeExcOf s.heap h' e cls args->E cls none H->X.xe (.ref e) {s with heap:=h'}
section
variable{P:Program}{w:World}{K:g8}{mg:g7}{base:Heap}{N:iD}{qual:Str}{scope:Scope}{f:Addr}{cd:Value}{A:Around}{outer:List Env}{s:Shared}{H:Hp}{E:XK}
def throwX:Lw (OI (CXw P w) P w K mg base N qual scope f cd A outer s H E) E:=by
 intro gV σ H1 s1 h1 e cls args I hx hE;have hfr:(A.deeper (envOfC qual scope s.heap.objs.size f cd)).frames=some (envOfC qual scope s.heap.objs.size f cd::outer):=I.ok.frames;have jD:s1.heap.FunFrames base (envOfC qual scope s.heap.objs.size f cd::outer):=I.stack
 have hl:s1.heap.FunFrames (PySem.W.hideAll s1.heap (frs (envOfC qual scope s.heap.objs.size f cd::outer))) (envOfC qual scope s.heap.objs.size f cd::outer):=
  PySem.W.funFrames_hide jD λenv he a ha=>gB.mpr ⟨env,he,ha⟩
 refine wpAny_leaves_madeW (base:=PySem.W.hideAll s1.heap (frs (envOfC qual scope s.heap.objs.size f cd::outer))) (h:=s1.heap) (L:=s.heap.objs.size) hfr rfl (λb o q=>PySem.W.of_hideAll _ q) hl hx λh' t jR _ _ up=>⟨e,cls,H1,rfl,?_,hE⟩
 have hub:Un (frs outer) [] H H1 s.heap s1.heap:=I.base
 have nL:∀b o,s.heap.get? b=some o->b ∉ frs outer->b ∉ frs (envOfC qual scope s.heap.objs.size f cd::outer):=λb o e hb hm=>by
  unfold frs at hm hb;rw[cD]at hm;rcases aT.mp hm with z|z
  ·exact absurd (aP e) (by rw[z];exact cP _)
  ·exact hb z
 have tB:∀b o ob,H1 b=some o->s1.heap.get? b=some ob->(PySem.W.hideAll s1.heap (frs (envOfC qual scope s.heap.objs.size f cd::outer))).get? b=some ob:=λb o ob e eb=>
  gp _ eb λhm=>by
   have:=I.stkFree b hm;rw[e]at this;cases this
 have kB:∀b o o1,s.heap.get? b=some o->b ∉ frs outer->s1.heap.get? b=some o1->(PySem.W.hideAll s1.heap (frs (envOfC qual scope s.heap.objs.size f cd::outer))).get? b=some o1:=λb o o1 e hb e1=>
  gp _ e1 (nL b o e hb)
 refine⟨I.os,I.bare,hub.on (λb o o1 e hb e1=>jR.1 _ _ (kB b o o1 e hb e1)) (λb o o1 e hb e1=>?_),I.hok.flown tB jR.1,_,_,jR,λb o ob e eb=>?_,λb o ob e hb eb=>?_⟩
 ·obtain⟨_,o',iY,l7⟩:=I.funs.mem hb
  have iY:s1.heap.get? b=some o':=iY;rw[e1]at iY;cases iY;exact up b o1 (hx.keeps b o1 e1) l7
 ·obtain⟨kL,e2⟩:=(I.hok b o e).ex
  have e3:=tB b o kL e e2;have e4:=jR.1 _ _ e3;have eb:h'.get? b=some ob:=eb;rw[e4]at eb;cases eb;exact e3
 ·obtain⟨kL,e2⟩:=hub.there b o e (by simp)
  have e3:=kB b o kL e hb e2;have e4:=jR.1 _ _ e3;have eb:h'.get? b=some ob:=eb;rw[e4]at eb;cases eb;exact e3
end
def GC{K:g8}{h:Heap}{C:Addr}{kq:iA}{ji:String}(X:K.In h)(q:PySem.W.excIn K C kq ji=true):∃bm Nn nm qn bs hdct sn sub ab col dd k0 k1 k2 k3 k5 mN,h.get? C=some (excClassObj nm qn C Nn bs bm hdct sn sub ab col dd k0 k1 k2 k3 k5 ji)∧h.Ns Nn mN∧mN "__init__"=none∧OwnTail h kq bm:=by
 unfold PySem.W.excIn at q;split at q
 ·rename_i dd cd sl ho
  split at q
  ·rename_i C' bm k0 k1 k2 k3 n k5 hm hs
   simp only[cf,df,fg]at q;obtain⟨⟨⟨⟨⟨e1,e2⟩,lh⟩,ht⟩,hok⟩,lM⟩:=q;subst e1 e2;obtain⟨nm,bs,mro,ns,qn,hd,sn,sub,ab,col,del⟩:=cd;dsimp only at hm lh hok lM;subst hm lh;obtain⟨l⟩:=sl;have hs:l=_:=hs;subst hs;exact⟨bm,ns,nm,qn,bs,hd,sn,sub,ab,col,dd,k0,k1,k2,k3,k5,_,X _ _ ho,.of_isNs (PySem.W.isNs_of_in X hok),PySem.W.nsMap_none_of_in X hok lM,PySem.W.tail_of_in X ht⟩
  ·cases q
 ·cases q
section
variable{X:Cx}{x:Str}{C:Addr}{kq:iA}{B ji jy:String}{E:XK}{ka:Expr}{rest:iE}{np io pos:Pos}{t:TA}
def tRaise(C:Addr)(E:XK)(t:TA):TS:=λ_ σ H=>t σ H λvs H1=>vs.length<=sizeLine∧E (.ref C) none H1
def Et(FB:ExcBaseFacts B ji jy kq)(q:PySem.W.excIn X.K C kq ji=true)(hg:Gl X x)(hm:X.mg x=some (.ref C))(hc:X.calm=true)(hE:Lw X E)(ha:PA X (ka::rest) t)(he:starEach (ka::rest) X.env=(false,eval ka X.env)::starEach rest X.env:=by rfl) (iO:(backTo io (starEach rest X.env)).any (·.1)=false:=by rfl) (jn:(x == ("__debug__":Str))=false:=by decide):PS X (.Raise (some (.Call (.Name x np) (ka::rest) [] io)) none pos) (tRaise C E t):=by
 intro gV s σ H D I h;obtain⟨bm,Nn,nm,qn,bs,hdct,sn,sub,ab,col,dd,k0,k1,k2,k3,k5,mN,hC,hN,lM,T⟩:=GC I.mod.kin q
 refine wpAny_Raise_call_subT (C:=C) (nm:=nm) (q:=qn) (N:=Nn) (bs:=bs) (bm:=bm) (hdct:=hdct) (sn:=sn) (sub:=sub) (ab:=ab) (col:=col) (dd:=dd) (k0:=k0) (k1:=k1) (k2:=k2) (k3:=k3) (k5:=k5)
  FB (mN:=mN) (T.hasType FB.hasBase) (I.ok.hd hc) (by rw[he];show(false || (backTo io (starEach rest X.env)).any (·.1))=false;rw[iO];rfl) lM (QP I hg hm ⟨rfl,?_⟩ jn)
 have hw:=ha io gV s σ H _ I h;rw[he]at hw ⊢;refine eV (thn hw λus s1 ⟨vs,H1,I1,r,hl,hq⟩=>?_);exact⟨rfl,by rw[← r.length];exact hl,I1.bk _ _ hC,hN.keeps I1.bk,T.keeps I1.bk,λh' e nr=>hE gV σ H1 s1 h' e _ _ I1 nr hq⟩
end
def Fun.okX{P:Program}{w:World}{K:g8}{mg:g7}{base:Heap}{x qual:Str}{st:Stmt}{f:Addr}{fd:FuncData}{N ps:iD}{k:Nat}{sp:Sp}(F:Fun K x qual st f fd)(S:FnScope N ps (YF st))(len:∀vs H Q E,sp vs H Q E->vs.length=ps.length)(jO:∀(i9:Value) (A:Around) (outer:List Env) (s:Shared) (H:Hp) (vs:iH) (Q:VK) (E:XK),Room k (A.deeper (envOfC qual (YF st) s.heap.objs.size f i9))->sp vs H Q E ->
     ∃t,PSs (OI (CXw P w) P w K mg base N qual (YF st) f i9 A outer s H E) (UD st) t∧t {nx:=λ_ H'=>Q .non H',rt:=Q} (start N vs) H):FnOk P w K mg base (CXw P w) (k+1) f fd ps sp:=by
 obtain⟨oc,od,kV,doc,pm,an,i9,ct,kX,rfl,lk,jL⟩:=F.ex;exact fn_of lk jL S len λA outer s H vs Q E hr ko=>jO i9 A outer s H vs Q E hr ko
def IR{P:Program}{w:World}{X:Cx}:XR (CXw P w) X E0:=λ_ _ _ _ _ _ _ ⟨_,_,_,_,_,h⟩=>h.elim
def excO(a C:Addr):HO:=.ext λh=>∃ob,h.get? a=some ob∧ob.cls=.ref C
structure ExcK(K:g8)(C:Addr):Prop where
 ga:PySem.W.findIn K (.ref C) "__getattribute__"=some (some (.builtin "BaseException.__getattribute__"))
 gt:PySem.W.findIn K (.ref C) "__getattr__"=some none
 cl:PySem.W.findIn K (.ref C) "__class__"=some (some (.builtin "object.__class__"))
 ob:PySem.W.mroIn K C (.type "object")=some true
 be:PySem.W.mroIn K C (.type "BaseException")=some true
 sp:PySem.W.specialIn K (.builtin "object.__class__") "__get__"=some (some (.builtin "getset_descriptor.__get__"))
 tk:PySem.W.takesIn K (.builtin "object.__class__")=some true
 is:(PySem.W.clsIn K C).isSome=true
def Vt(oc:Option Str)(n:Addr)(cl:hV):hV:=match oc with
 |none=>cl
 |some x=>(x,n)::cl
def Je(oc:Option Str)(h:Heap):Heap:=match oc with
 |none=>h
 |some _=>h.push {cls:=.type "cell",data:=.cell none}
def NC{oc:Option Str}{n c:Addr}{cl:hV}{y:Str}(h:(Vt oc n cl).lookup y=some c):(oc=some y∧c=n)∨cl.lookup y=some c:=by
 cases oc with
 |none=>exact .inr h
 |some x=>
  have h:((x,n)::cl).lookup y=some c:=h;rw[aK]at h;cases e:y == x with
  |true=>rw[e]at h;cases h;exact .inl ⟨by rw[df.mp e],rfl⟩
  |false=>rw[e]at h;exact .inr h
def LP{oc:Option Str}{n:Addr}{cl:hV}{y:Str}(h:oc≠some y):(Vt oc n cl).lookup y=cl.lookup y:=by
 cases oc with
 |none=>rfl
 |some x=>
  show((x,n)::cl).lookup y=_;rw[aK,aW.mpr λz=>h (by rw[z])]
def Nf{n:Addr}{cl:hV}{y:Str}:(Vt (some y) n cl).lookup y=some n:=by
 show((y,n)::cl).lookup y=_;rw[aK,beq_self_eq_true]
def Ny{cl:hV}:∀{names:List (Str × NameKind)},(∀y∈names,y.2≠.cell)->∀n,cellsFrom n names cl=Vt none n cl
 |[],_,_=>rfl
 |(x,k)::r,h,n=>by
  unfold cellsFrom;rw[aE (by have:=h _ (.head _);simpa using this)];exact Ny (λy hy=>h y (.tail _ hy)) n
def Ka:∀{names:List (Str × NameKind)},(∀y∈names,y.2≠.cell)->∀h,pushCells h names=Je none h
 |[],_,_=>rfl
 |(x,k)::r,h,n=>by
  unfold pushCells;rw[aE (by have:=h _ (.head _);simpa using this)];exact Ka (λy hy=>h y (.tail _ hy)) n
def CH{M:Model}{A:Around}{E:g6}{s:Shared}{scope:Scope}{env:Env}{cl:hV}{Q:Env->Shared->Prop}(hQ:Q {scope,locals:=s.heap.objs.size,globals:=env.globals,cells:=cellsFrom (s.heap.objs.size+1) scope.names cl,qual:=env.qual,func:=none,code:=env.code,frame:=env.frame,builtins:=env.builtins} {s with heap:=pushCells (s.heap.push {cls:=.type "dict",data:=.dict #[]}) scope.names}):wpAny M A (newFunctionEnv scope env.globals cl [] env.qual none .none (some env)) Q E s:=by
 simp only[newFunctionEnv,gz,if_true];refine aB (wpAny_alloc ?_);refine aB (wpAny_layCells _ (λname kind cells=>by cases hkc:kind == NameKind.cell <;> simp[hkc]) _ _ _ _ ?_);rw[show({s with heap:=s.heap.push {cls:=.type "dict",data:=.dict #[]}}:Shared).heap.objs.size=s.heap.objs.size+1 from dH ..];rw[List.forIn_nil];exact aB (aD (aD hQ))
def Th(X:Cx)(iU:iE)(t:TT):Prop:=
 ∀(gV:g9) (s:Shared) (σ:St) (H:Hp) (Q:Bool->Hp->Prop),Inv X gV σ H s->t σ H Q ->
  wpAny (model X.prog X.w) X.A (forIn iU true λc r=>if r=true then do let ok ← isTrue c X.env (eval c X.env);pure (ForInStep.yield ok) else pure (ForInStep.yield r)) (TP X gV σ Q) X.xe s
def tNoIf:TT:=λ_ H Q=>Q true H
def EL{X:Cx}:Th X [] tNoIf:=λ_ _ _ H _ I h=>wpAny_tests_nil ⟨H,I,h⟩
def Dm{X:Cx}{c:Expr}{t:TT}(h:PT X c t):Th X [c] t:=λgV s σ H Q I q=>wpAny_tests_one (h gV s σ H Q I q)
def Xx(names:List (Str × NameKind))(env:Env):hV:=names.foldl (λcs p=>if p.2 == .free then (match env.cells.lookup p.1 with|some c=>(p.1,c)::cs|none=>cs) else cs) []
def RL(env:Env):∀(names:List (Str × NameKind)) (cs:hV),(∀p∈cs,env.cells.lookup p.1=some p.2) -> ∀p∈names.foldl (λcs p=>if p.2 == .free then (match env.cells.lookup p.1 with|some c=>(p.1,c)::cs|none=>cs) else cs) cs,env.cells.lookup p.1=some p.2
 |[],cs,h=>h
 |q::r,cs,h=>by
  refine RL env r _ ?_;dsimp only;split
  ·split
   ·rename_i c e
    intro p hp;rcases aT.mp hp with rfl|hp
    ·exact e
    ·exact h p hp
   ·exact h
  ·exact h
def W4(k:Option NameKind):Bool:=k == some .cell || k == some .free
def IY{k:Option NameKind}(h:W4 k=true):k=some .cell∨k=some .free:=by
 unfold W4 at h;rcases Bool.or_eq_true_iff.mp h with q|q
 ·exact .inl (by simpa using q)
 ·exact .inr (by simpa using q)
abbrev Yw(X:Cx)(oc:Option Str)(scope:Scope)(cl:hV)(xs cn:iD)(C:Addr)(ib:Shared)(ie:Hp)(fp:h8):Cx where
 prog:=X.prog
 w:=X.w
 K:=X.K
 mg:=X.mg
 base:=X.base
 A:=X.A
 N:=xs++cn
 s₀:=ib
 H₀:=ie
 env:=compEnvC scope (Vt oc (C+1) cl) C X.env
 outer:=X.stack
 stack:=X.stack
 ex:=fp
 fn:=λy=>decide (oc=some y)
 calm:=X.calm
 pn:=[]
 xe:=λ_ _=>False
def Sn(js:iC)(σ:St):St:=js.map λj=>(σ[j]?).join
structure CompOkT(X:Cx)(oc:Option Str)(scope:Scope)(cl:hV)(xs cn:iD)(js:iC):Prop where
 clos:closureFor scope X.env=pure cl
 cs:∀n,cellsFrom n scope.names cl=Vt oc n cl
 pc:∀h,pushCells h scope.names=Je oc h
 kind:scope.kind=.function
 names:∀y∈scope.names,y.2=.local->scope.names.lookup y.1=some .local
 sub:∀y c,cl.lookup y=some c->X.env.cells.lookup y=some c
 has:∀p∈(relabel scope X.env).names,p.2=.cell∨p.2=.free->oc=some p.1∨∃c,cl.lookup p.1=some c
 cap:∀(k:Nat) y,cn[k]?=some y->∃j,js[k]?=some j∧X.N[j]?=some y∧Vis X.env.scope y∧(X.env.kindOf y=some .cell∨X.env.kindOf y=some .free)∧((compEnvC scope cl 0 X.env).kindOf y=some .cell∨(compEnvC scope cl 0 X.env).kindOf y=some .free)
 own:∀y∈cn,oc≠some y
 len:js.length=cn.length
 nd:(xs++cn).Nodup
def AV{X:Cx}{scope:Scope}{cl:hV}{cn:iD}{js:iC}(len:js.length=cn.length)(cap:((cn.zip js).all λp=>(X.N[p.2]? == some p.1)&&W4 (X.env.scope.names.lookup p.1)&&W4 ((relabel scope X.env).names.lookup p.1))=true):∀(k:Nat) y,cn[k]?=some y->∃j,js[k]?=some j∧X.N[j]?=some y∧Vis X.env.scope y∧(X.env.kindOf y=some .cell∨X.env.kindOf y=some .free)∧((compEnvC scope cl 0 X.env).kindOf y=some .cell∨(compEnvC scope cl 0 X.env).kindOf y=some .free):=λk y e=>by
    have hk:k<cn.length:=(aG.mp e).1;have hj:js[k]?=some (js[k]'(by omega)):=aN _
    have hz:(y,js[k]'(by omega))∈cn.zip js:=by
     refine bM (i:=k) ?_;rw[List.getElem?_zip_eq_some];exact⟨e,hj⟩
    have q:=de.mp cap _ hz;simp only[cf,df]at q;obtain⟨⟨q1,q2⟩,q3⟩:=q;have c2:=IY q2;refine⟨_,hj,q1,?_,c2,IY q3⟩;rcases c2 with z|z
    ·exact .inr (.inl z)
    ·exact .inr (.inr z)
def AC{X:Cx}{scope:Scope}{oc:Option Str}(has:((relabel scope X.env).names.all λp=>!(W4 (some p.2)) || (decide (oc=some p.1) || ((Xx scope.names X.env).lookup p.1).isSome))=true):∀p∈(relabel scope X.env).names,p.2=.cell∨p.2=.free->oc=some p.1∨∃c,(Xx scope.names X.env).lookup p.1=some c:=λp hp hk=>by
    have q:=de.mp has p hp;have hk':W4 (some p.2)=true:=by rcases hk with z|z <;> rw[z] <;> rfl
    rw[hk',fh,fj,eN,bX]at q;exact q.imp id aV.mp
def PB{X:Cx}{scope:Scope}{xs cn:iD}{js:iC}(clos:closureFor scope X.env=pure (Xx scope.names X.env))(i6:∀y∈scope.names,y.2≠.cell)(kind:scope.kind=.function)(names:∀y∈scope.names,y.2=.local->scope.names.lookup y.1=some .local)(has:((relabel scope X.env).names.all λp=>!(W4 (some p.2)) || (decide ((none:Option Str)=some p.1) || ((Xx scope.names X.env).lookup p.1).isSome))=true) (len:js.length=cn.length)(cap:((cn.zip js).all λp=>(X.N[p.2]? == some p.1)&&W4 (X.env.scope.names.lookup p.1)&&W4 ((relabel scope X.env).names.lookup p.1))=true)(nd:(xs++cn).Nodup):CompOkT X none scope (Xx scope.names X.env) xs cn js:=
 ⟨clos,Ny i6,Ka i6,kind,names,λy c h=>RL X.env scope.names [] (λ_ z=>(nomatch z)) (y,c) (cq h),AC has,AV len cap,λ_ _ z=>(nomatch z),len,nd⟩
section
variable{X:Cx}{oc:Option Str}{scope:Scope}{cl:hV}{xs cn:iD}{js:iC}{gV:g9}{σ:St}{ie:Hp}{ib:Shared}{fp:h8}
def CompOkT.ok(O:CompOkT X oc scope cl xs cn js)(I:Inv X gV σ ie ib)(hf:∀b∈fp,Md X gV ie b){C:Addr}(hC:ib.heap.objs.size<=C)(ho:∀b∈fp,∃o,ib.heap.get? b=some o):(Yw X oc scope cl xs cn C ib ie fp).Ok where
 mod:=I.mod
 kind:=by show(relabel scope X.env).kind=.function;exact O.kind
 glob:=I.ok.glob
 blt:=I.ok.blt
 above:=hC
 inj:=λy z c h1 h2=>by
  have lt:∀y,cl.lookup y=some (C+1)->False:=λy h=>by
   obtain⟨v,o,e,_⟩:=I.cell y _ (O.sub y _ h);exact absurd (bI (aP e) hC) (gw.mpr (du C))
  rcases NC h1 with ⟨a,rfl⟩|a
  ·rcases NC h2 with ⟨b,_⟩|b
   ·exact bT (a.symm.trans b)
   ·exact(lt z b).elim
  ·rcases NC h2 with ⟨b,rfl⟩|b
   ·exact(lt y a).elim
   ·exact I.ok.inj y z c (O.sub y c a) (O.sub z c b)
 has:=λy hy=>by
  have hy:(relabel scope X.env).names.lookup y=some .cell∨(relabel scope X.env).names.lookup y=some .free:=hy
  have q:oc=some y∨∃c,cl.lookup y=some c:=by
   rcases hy with hy|hy
   ·exact O.has _ (cq hy) (.inl rfl)
   ·exact O.has _ (cq hy) (.inr rfl)
  by_cases ho:oc=some y
  ·subst ho;exact⟨_,Nf⟩
  ·obtain⟨c,e⟩:=q.resolve_left ho
   exact⟨c,(LP ho).trans e⟩
 cab:=λy c h e=>by
  have h:oc=some y:=bD h;subst h;have e:(Vt (some y) (C+1) cl).lookup y=some c:=e;rw[Nf]at e;cases e;exact gE hC
 hd:=I.ok.hd
 frames:=I.ok.frames
 stk:=.inl rfl
 exf:=λb hb=>by
  obtain⟨o,e⟩:=ho b hb;refine⟨bB (bI (aP e) hC),λy c h=>?_⟩;rcases NC h with ⟨_,rfl⟩|h
  ·exact dP (cW (bI (aP e) hC))
  ·exact(hf b hb).2.2.2.2.1 y c (O.sub y c h)
 bs:=I.bs
 bsz:=bF I.ok.bsz I.sz
 noex:=λb o e hb=>by
  rcases (hf b hb).2.2.2.1 with z|z
  ·exact I.ok.noex b o e z
  ·exact absurd (bI (aP e) (bF I.ok.bsz z)) (cP _)
 exfs:=λb hb hm=>(aT.mp (I.stkSub b hm)).elim (hf b hb).2.1 (hf b hb).2.2.1
 funs:=I.stack
 frf:=I.stkFree
def CompOkT.start(O:CompOkT X oc scope cl xs cn js)(I:Inv X gV σ ie ib)(hf:∀b∈fp,Md X gV ie b)(ho:∀b∈fp,∃o,ib.heap.get? b=some o){iW:Heap}{m:g7}{tk:Nat}(lL:iW.Ns (ib.heap.objs.size+1) m) (hk:∀b o,ib.heap.get? b=some o->iW.get? b=some o) (hD:iW.get? ib.heap.objs.size=some {cls:=.type "list",data:=.seq ([]:iA).toArray}) (l8:∀y,oc=some y->iW.IsCell (ib.heap.objs.size+1+1) none):Inv (Yw X oc scope cl xs cn (ib.heap.objs.size+1) ib ie fp) [] (List.replicate xs.length none++Sn js σ) (upd ie ib.heap.objs.size (.lst [])) {ib with heap:=iW,toks:=tk}:=by
 have fD:ie ib.heap.objs.size=none:=I.hok.fresh (aM _);have fC:ie (ib.heap.objs.size+1)=none:=I.hok.fresh (du _);have neD:ib.heap.objs.size+1≠ib.heap.objs.size:=Nat.succ_ne_self _;obtain⟨m0,oQ,nt⟩:=I.loc;refine⟨O.ok I hf (du _) ho,rfl,I.bare,?_,⟨m,lL,λi y v e1 e2 e3=>?_⟩,λy c e=>?_,?_,λy c e=>?_,(λp hp=>nomatch hp),?_,?_⟩
 ·exact Un.laid hk (aM _) fD
 ·have hi:xs.length<=i:=by
   by_cases h:i<xs.length
   ·rw[bA (by simpa using h),dD,aC h]at e2
    cases e2
   ·omega
  rw[bL (by simpa using hi),dL]at e2
  have e1:cn[i-xs.length]?=some y:=by
   have e1:(xs++cn)[i]?=some y:=e1;rw[bL hi]at e1;exact e1
  ·obtain⟨j,hj,nu,l9,jB,jI⟩:=O.cap _ y e1
   have e4:(σ[j]?).join=some v:=by
    have z:(js.map λj=>(σ[j]?).join)[i-xs.length]?=some (some v):=e2;rw[bC,hj]at z;simpa using z
   have e5:σ[j]?=some (some v):=by
    cases q:σ[j]? with
    |none=>rw[q]at e4;cases e4
    |some o=>rw[q]at e4;simp at e4;rw[e4]
   obtain⟨u,r,l⟩:=nt j y v nu e5 l9;refine⟨u,r,.inr ⟨jI,?_⟩⟩;rcases l with ⟨kl,_⟩|⟨_,c,ec,z⟩
   ·rcases jB with q|q
    ·rw[kl]at q;cases q
    ·rw[kl]at q;cases q
   ·have hown:=O.own y (bM e1)
    have hy:∃c',cl.lookup y=some c':=by
     rcases jI with q|q
     ·exact(O.has _ (cq (show(relabel scope X.env).names.lookup y=some .cell from q)) (.inl rfl)).resolve_left hown
     ·exact(O.has _ (cq (show(relabel scope X.env).names.lookup y=some .free from q)) (.inr rfl)).resolve_left hown
    obtain⟨c',kD⟩:=hy;have ecc:=O.sub y c' kD;rw[ec]at ecc;cases ecc;exact⟨c,(LP hown).trans kD,z.keeps hk⟩
 ·rcases NC e with ⟨a,rfl⟩|e
  ·exact⟨none,l8 y a⟩
  ·obtain⟨v,z⟩:=I.cell y c (O.sub y c e)
   exact⟨v,z.keeps hk⟩
 ·show upd ie ib.heap.objs.size (.lst []) (ib.heap.objs.size+1)=none
  rw[ZA neD];exact fC
 ·rcases NC e with ⟨_,rfl⟩|e
  ·rw[ZA (dP (cW (dQ _)))]
   exact I.hok.fresh (gE (du _))
  ·obtain⟨v,o,iY,_⟩:=I.cell y c (O.sub y c e)
   rw[ZA (bB (aP iY))];exact I.freeC y c (O.sub y c e)
 ·exact I.hok.laid hk (aM _) ⟨cz _,[],0,.nil,hD⟩
 ·show(List.replicate xs.length none++Sn js σ).length=(xs++cn).length
  simp[Sn,O.len]
end
def Ji{prog:Program}{w:World}{A:Around}{R:Result->Shared->Prop}{s:Shared}{iV target ii:Expr}{iU:iE}{scope:Scope}{pos:Pos}{it iu:Value}{env:Env}(I:Nat->Shared->Prop)(turn:∀n s,I n s->wpAny (model prog w) A (pyNext it) (λr iq=>match r with
     |none=>R (.ok .next) iq
     | some v => wpAny (model prog w) A (letOwnedTupleGo target it v) (fun _ kr => wpAny (model prog w) A (assign target env v) (fun _ ib=>
         wpAny (model prog w) A (forIn iU true λc r=>if r=true then do let ok ← isTrue c env (eval c env);pure (ForInStep.yield ok) else pure (ForInStep.yield r)) (λok jl=>
          if ok=true then wpAny (model prog w) A (eval iV env) (λx kb=>wpAny (model prog w) A (call (.builtin "list.append") [iu,x]) (λ_ li=>∃m,m<n∧I m li) (λ_ _=>False) kb) (λ_ _=>False) jl
          else ∃m,m<n∧I m jl) (λ_ _=>False) ib) (λ_ _=>False) kr) (λ_ _=>False) iq) (λ_ _=>False) s)
    (n:Nat) (h:I n s):codeAny (model prog w) A (.compLoop (.ListComp iV [⟨target,ii,iU,0⟩] scope pos) 0 it iu env) R s:=by
 refine codeAny_loop rfl I (λn s hI=>?_) n h;show wpAny _ A ((compTurn (.ListComp iV [⟨target,ii,iU,0⟩] scope pos) 0 it iu env).onRaise (λx=>do noteFrame x env;theTreesLotGoes x)) _ _ s;refine wpAny_noted ?_;rw[compTurn_list];refine aB (wpAny_standAt (aB (cy (turn n s hI) (λr iq iW=>?_) λ_ _ h'=>h'.elim)));cases r with
 |none=>exact aD iW
 |some v=>
  refine aB (cy iW (λ_ kr lj=>?_) λ_ _ h'=>h'.elim);refine aB (cy lj (λ_ ib jP=>aB (cy jP (λok jl jF=>?_) λ_ _ h'=>h'.elim)) λ_ _ h'=>h'.elim);cases ok with
  |false=>
   rw[aE aH]at jF;exact aD ⟨rfl,jF⟩
  |true=>
   rw[aC rfl]at jF;exact aB (aB (cy jF (λx kb ma=>aB (cy ma (λ_ li md=>aD (aD ⟨rfl,md⟩)) λ_ _ h'=>h'.elim)) λ_ _ h'=>h'.elim))
def My(wi:TI)(n:Nat)(g:TG)(js:iC)(tc:Addr->Shared->Hp->List Addr->TT)(te:Addr->Shared->Hp->List Addr->TE):TE:=λσ H Q=>wi σ H λJ H1=>∀D,H1 D=none->∀C ib ie fp,∃W:Nat->Nat->List V->Hp->Prop,(∃m,W 0 m [] (upd H1 D (.lst [])))∧∀i m ys H2,W i m ys H2->H2 D=some (.lst ys) ∧
 ((J.stop i H2∧Q (.ref D) H2)∨(J.go i H2∧∀x H',J.yld i H2 x H'->∀vs:St,vs.length=n->g x (vs++Sn js σ) H' λjh H6=>(∃kt:St,kt.length=n∧jh=kt++Sn js σ)∧tc C ib ie fp jh H6 λb H3=>if b=true then te C ib ie fp jh H3 λv H4=>H4 D=some (.lst ys)∧ys.length<sizeLine∧∃m',m'<m∧W (i+1) m' (ys++[v]) (upd H4 D (.lst (ys++[v])))
  else ∃m',m'<m∧W (i+1) m' ys H3))
section
variable{X:Cx}{oc:Option Str}{scope:Scope}{cl:hV}{xs cn:iD}{js:iC}{iV ii:Expr}{iU:iE}{tg:Expr}{g:TG}{pos:Pos}{wi:TI}{tc:Addr->Shared->Hp->List Addr->TT}{te:Addr->Shared->Hp->List Addr->TE}
def Qj(O:CompOkT X oc scope cl xs cn js)(hc:X.calm=true)(hg:∀C ib ie fp,PG (Yw X oc scope cl xs cn C ib ie fp) tg g)(ht:∀C ib ie fp,Th (Yw X oc scope cl xs cn C ib ie fp) iU (tc C ib ie fp))(he:∀C ib ie fp,PE (Yw X oc scope cl xs cn C ib ie fp) iV (te C ib ie fp)){gV:g9} {σ:St} {ib:Shared} {kF:Value} {R:V->Hp->Prop} {RR:Value->Addr->Result->Shared->Prop} {E:g6}(h:PIE X gV σ (tg) (λJ H1=>∀D,H1 D=none->∀C ib ie fp,∃W:Nat->Nat->List V->Hp->Prop,(∃m,W 0 m [] (upd H1 D (.lst [])))∧∀i m ys H2,W i m ys H2->H2 D=some (.lst ys) ∧
     ((J.stop i H2∧R (.ref D) H2)∨(J.go i H2∧∀x H',J.yld i H2 x H'->∀vs:St,vs.length=xs.length->g x (vs++Sn js σ) H' λjh H6=>(∃kt:St,kt.length=xs.length∧jh=kt++Sn js σ)∧tc C ib ie fp jh H6 λb H3=>if b=true then te C ib ie fp jh H3 λv H4=>H4 D=some (.lst ys)∧ys.length<sizeLine∧∃m',m'<m∧W (i+1) m' (ys++[v]) (upd H4 D (.lst (ys++[v])))
      else ∃m',m'<m∧W (i+1) m' ys H3))) kF ib)
    (nv:∀D C H' s',Inv X gV σ H' s'->R (.ref D) H'->H' C=none->C≠X.env.locals->X.s₀.heap.objs.size<=C->(∀y c,X.env.cells.lookup y=some c->c≠C)->(∀p∈X.pn++gV,p.1≠C)->(∃m,s'.heap.Ns C m)->RR (.ref D) C (.ok .next) s'):
    wpAny (model X.prog X.w) X.A (newList []) (λiu jl=>wpAny (model X.prog X.w) X.A (newFunctionEnv scope X.env.globals cl [] X.env.qual none .none (some X.env)) (λln kb=>
     codeAny (model X.prog X.w) X.A (.compStart (.ListComp iV [⟨tg,ii,iU,0⟩] scope pos) 0 kF iu {ln with scope:=relabel scope X.env}) (RR iu ln.locals) kb) E jl) E ib:=by
 obtain⟨it,fp,tn,J,ie,rfl,I2,T,lI,f2,hR⟩:=h;have ho:∀b∈fp,∃o,ib.heap.get? b=some o:=λb hb=>let ⟨o,e,_⟩:=T.obj _ _ lI b hb;⟨o,e⟩
 obtain⟨W,⟨m0,w0⟩,turn⟩:=hR ib.heap.objs.size (I2.hok.fresh (aM _)) (ib.heap.objs.size+1) ib ie fp;refine dC (CH ?_);dsimp only;generalize hH2:ib.heap.push {cls:=.type "list",dict:=none,data:=.seq ([]:iA).toArray}=HH;have hsz:HH.objs.size=ib.heap.objs.size+1:=by rw[← hH2,dH]
 rw[O.cs,O.pc];generalize hh₁:Je oc (HH.push {cls:=.type "dict",data:=.dict #[]})=iW
 have hkp:∀b o,(HH.push {cls:=.type "dict",data:=.dict #[]}).get? b=some o->iW.get? b=some o:=λb o e=>by
  rw[← hh₁];cases oc with
  |none=>exact e
  |some _=>exact aI _ e
 have old:∀b o,ib.heap.get? b=some o->iW.get? b=some o:=λb o e=>hkp b o (aI _ (hH2 ▸ aI _ e))
 have hD:iW.get? ib.heap.objs.size=some {cls:=.type "list",data:=.seq ([]:iA).toArray}:=hkp _ _ (aI _ (hH2 ▸ aZ _ rfl))
 have hns₁:iW.Ns (ib.heap.objs.size+1) λ_=>none:=by
  rw[← hsz];exact(Heap.Ns.new HH (.type "dict")).keeps hkp
 have l8:∀y,oc=some y->iW.IsCell (ib.heap.objs.size+1+1) none:=λy e=>by
  subst e;have kW:(HH.push {cls:=.type "dict",data:=.dict #[]}).objs.size=ib.heap.objs.size+1+1:=by rw[dH,hsz]
  rw[← hh₁,← kW];exact⟨_,aZ _ rfl,rfl⟩
 show codeAny _ _ (.compStart _ 0 (.ref it) (.ref ib.heap.objs.size) (compEnvC scope (Vt oc (HH.objs.size+1) cl) HH.objs.size X.env)) (RR (.ref ib.heap.objs.size) HH.objs.size) _;rw[hsz];have I3:=O.start I2 f2 ho (tk:=ib.toks) hns₁ old hD l8;have st3:tn 0 iW:=T.keep 0 _ _ lI λb hb o e=>old b o e
 have fpD:∀b∈fp,b≠ib.heap.objs.size:=λb hb=>by obtain⟨o,e⟩:=ho b hb;exact bB (aP e)
 have stat:∀{pl:g9} {H':Hp},(∀b∈fp,H' b=none)->(∀p∈pl,∀b∈fp,p.1≠b)->∀b∈fp,Md (Yw X oc scope cl xs cn (ib.heap.objs.size+1) ib ie fp) pl H' b:=λ{pl H'} hn hp b hb=>
  ⟨hn b hb,(I3.ok.exf b hb).1,λhm=>I3.ok.exfs b hb hm,.inl hb,(I3.ok.exf b hb).2,λp lr=>hp p (by simpa using lr) b hb⟩
 have loop : ∀ jl : Shared,jl = { ib with heap:=iW } ->
     codeAny (model X.prog X.w) X.A (.compLoop (.ListComp iV [⟨tg,ii,iU,0⟩] scope pos) 0 (.ref it) (.ref ib.heap.objs.size) (compEnvC scope (Vt oc (ib.heap.objs.size+1+1) cl) (ib.heap.objs.size+1) X.env)) (RR (.ref ib.heap.objs.size) (ib.heap.objs.size+1)) jl:=by
  rintro jl rfl
  refine Ji (λn s'=>∃i ys vs H',vs.length=xs.length∧Inv (Yw X oc scope cl xs cn (ib.heap.objs.size+1) ib ie fp) [] (vs++Sn js σ) H' s'∧tn i s'.heap∧(∀b∈fp,H' b=none)∧W i n ys H') ?_ m0
   ⟨0,[],_,_,dL,I3,st3,λb hb=>by rw[ZA (fpD b hb)];exact(f2 b hb).1,w0⟩
  rintro n s4 ⟨i,ys,v4,H4,hv4,I4,st4,fr4,w4⟩;obtain⟨oR,tr⟩:=turn i n ys H4 w4;rcases tr with ⟨stop,qn⟩|⟨go,step⟩
  ·refine cy (T.done (Yw X oc scope cl xs cn (ib.heap.objs.size+1) ib ie fp) rfl rfl rfl hc i [] s4 _ H4 (λ_ _=>False) I4 (stat fr4 (λ_ z=>nomatch z)) st4 stop) (λr s5 ⟨hr,I5⟩=>?_) λ_ _ q=>q
   subst hr;have I6:Inv X gV σ H4 s5:=I2.call' (ch:=fp) I5.os I5.base I5.hok I5.bare λb hb=>⟨(f2 b hb).2.2.2.1,(f2 b hb).2.1,(f2 b hb).2.2.2.2.1,(f2 b hb).2.2.2.2.2⟩
   obtain⟨m,hn,_⟩:=I5.loc;refine nv _ _ H4 s5 I6 qn I5.free (dP (cW I2.lt)) (gE I2.sz) (λy c e z=>?_) (λp hp z=>?_) ⟨m,hn⟩
   ·obtain⟨v,o,iY,_⟩:=I2.cell y c e
    exact absurd (aP iY) (by rw[z];exact gw.mpr (du _))
   ·exact absurd (aP (I2.pin p hp).1) (by rw[z];exact gw.mpr (du _))
  ·refine cy (T.item (Yw X oc scope cl xs cn (ib.heap.objs.size+1) ib ie fp) rfl rfl rfl hc i [] s4 _ H4 (λ_ _=>False) I4 (stat fr4 (λ_ z=>nomatch z)) st4 go) (λr s4' ⟨u,hr,h5⟩=>?_) λ_ _ q=>q
   subst hr;refine cy h5 (λ_ s5 ⟨x5,H5,I5,r5,y5,st5,fr5⟩=>?_) λ_ _ q=>q
   have I5p:=I5.pinned (stat fr5 (λ_ z=>nomatch z)) (T.obj _ _ st5);refine cy (hg _ _ _ _ _ s5 _ H5 x5 u _ I5p r5 (step x5 H5 y5 v4 hv4)) (λ_ s6 ⟨σ6,H6,I6,⟨vs6,hv6,e6⟩,q6⟩=>?_) λ_ _ q=>q
   subst e6
   have again:∀{s7:Shared} {H7:Hp},Inv (Yw X oc scope cl xs cn (ib.heap.objs.size+1) ib ie fp) ([]++RP fp s5.heap) (vs6++Sn js σ) H7 s7->tn (i+1) s7.heap∧∀b∈fp,H7 b=none:=λ{s7 H7} I7=>by
    refine⟨T.keep _ _ _ st5 λb hb o e=>(I7.pin (b,o) (bY _ (bY _ (UQ hb e)))).1,λb hb=>?_⟩;obtain⟨o,e,d⟩:=T.obj _ _ st5 b hb;exact(I7.pin (b,o) (bY _ (bY _ (UQ hb e)))).2.1
   refine cy (ht _ _ _ _ _ s6 _ H6 _ I6 q6) (λok s7 ⟨H7,I7,q7⟩=>?_) λ_ _ q=>q
   cases ok with
   |false=>
    rw[aE aH];rw[aE aH]at q7;obtain⟨m',hm,w7⟩:=q7;obtain⟨nw,ny⟩:=again I7;exact⟨m',hm,i+1,ys,vs6,H7,hv6,I7.unpinned,nw,ny,w7⟩
   |true=>
    rw[aC rfl];rw[aC rfl]at q7;refine cy (he _ _ _ _ _ s7 _ H7 _ I7 q7) (λu8 s8 ⟨v8,H8,I8,r8,hD8,hz8,m',hm,w8⟩=>?_) λ_ _ q=>q
    obtain⟨oS,oT⟩:=again I8;obtain⟨z8,ik,k8,mS,e8⟩:=I8.hok _ _ hD8;have hl8:=mS.length;refine append_at (E:=λ_ _=>False) (hsz:=by rw[bE];omega) e8 λh9 nA e9=>?_
    have I9:Inv (Yw X oc scope cl xs cn (ib.heap.objs.size+1) ib ie fp) ([]++RP fp s5.heap) (vs6++Sn js σ) (upd H8 ib.heap.objs.size (.lst (ys++[v8]))) {s8 with heap:=h9}:=by
     refine I8.write (x:=ib.heap.objs.size) (e:=ib.heap.objs.size) (t':=s8.toks) (by rw[hD8];exact True.intro) (.inl rfl) (λb u hb q=>(nA.2 b hb).trans q) ⟨_,e9⟩ ?_;refine⟨by rw[aS,fZ];omega,ik++[u8],k8+1,mS.append (.cons r8 .nil),?_⟩;rw[e9,List.push_toArray]
    obtain⟨nB,nC⟩:=again I9;exact⟨m',hm,i+1,ys++[v8],vs6,_,hv6,I9.unpinned,nB,nC,w8⟩
 exact codeAny_compStart_list (loop _ rfl) (T.self _ 0 _ _ _ st3 (loop _ rfl))
def KL(O:CompOkT X oc scope cl xs cn js)(hc:X.calm=true)(hg:∀C ib ie fp,PG (Yw X oc scope cl xs cn C ib ie fp) tg g)(hi:PI X (tg) ii wi)(ht:∀C ib ie fp,Th (Yw X oc scope cl xs cn C ib ie fp) iU (tc C ib ie fp))(he:∀C ib ie fp,PE (Yw X oc scope cl xs cn C ib ie fp) iV (te C ib ie fp))(hs:∀v,foldedSetIterable ii X.env v=pure v:=by intro _;rfl):PE X (.ListComp iV [⟨tg,ii,iU,0⟩] scope pos) (My wi xs.length g js tc te):=by
 intro gV s σ H Q I h;rw[eval_ListComp];refine wpAny_comprehension_free (use:=none) rfl hs O.clos O.kind O.names (thn (hi gV s σ H _ I h) λv s1 h1=>thn h1 λkF s2 h2=>?_);refine Qj O hc hg ht he (R:=Q) (RR:=λiu C=>compPost (model X.prog X.w) X.A X.xe none (EP X gV σ Q) iu C) h2 ?_;intro D C H' s' I' q hC hL h0 kM hp ⟨m,hn⟩;refine⟨m,hn,λnE kO=>⟨.ref D,H',?_,rfl,q⟩⟩;exact I'.turned (t':=s'.toks) (λb o hb e=>(kO.2 b hb).trans e) hC hL (.inr h0) kM hp
def NK(j:Nat)(wi:TI)(n:Nat)(g:TG)(js:iC)(tc:Addr->Shared->Hp->List Addr->TT)(te:Addr->Shared->Hp->List Addr->TE):TS:=λD σ H=>My wi n g js tc te σ H λv H1=>D.nx (σ.set j (some v)) H1
def R7{j:Nat}{y:Str}{py i7:Pos}(O:CompOkT X oc scope cl xs cn js)(hc:X.calm=true)(hg:∀C ib ie fp,PG (Yw X oc scope cl xs cn C ib ie fp) tg g)(hi:PI X (tg) ii wi)(ht:∀C ib ie fp,Th (Yw X oc scope cl xs cn C ib ie fp) iU (tc C ib ie fp))(he:∀C ib ie fp,PE (Yw X oc scope cl xs cn C ib ie fp) iV (te C ib ie fp))(hN:X.N.Nodup) (hj:X.N[j]?=some y) (hy:Loc X.env.scope y) (jS:swapsWith (.ListComp iV [⟨tg,ii,iU,0⟩] scope pos) (some (.Name y py)) i7.line X.env=pure true)(hs:∀v,foldedSetIterable ii X.env v=pure v:=by intro _;rfl) (hf:X.fn y=true∨X.env.scope.names.lookup y=some .local:=by first|exact .inl rfl|exact .inr rfl):PS X (.Assign [.Name y py] (.ListComp iV [⟨tg,ii,iU,0⟩] scope pos) i7) (NK j wi xs.length g js tc te):=by
 intro gV s σ H D I h;rw[exec_Assign_Name_used _ _ _ _ jS];refine aB (wpAny_standAt (aB ?_));show wpAny _ X.A (do let _ ← comprehension (.ListComp iV [⟨tg,ii,iU,0⟩] scope pos) scope X.env _ (newList []) false (eval ii X.env) (some (assign (.Name y py) X.env))) _ _ s
 refine aB (cy (wpAny_comprehension_free (use:=some (assign (.Name y py) X.env)) (Q:=λ_ s'=>SP X gV D .next s') rfl hs O.clos O.kind O.names
  (thn (hi gV s σ H _ I h) λv s1 h1=>thn h1 λkF s2 h2=>?_)) (λ_ s' hq=>aD (aD hq)) λ_ _ e=>e)
 refine Qj O hc hg ht he (R:=λv H1=>D.nx (σ.set j (some v)) H1) (RR:=λiu C=>compPost (model X.prog X.w) X.A X.xe (some (assign (.Name y py) X.env)) (λ_ s'=>SP X gV D .next s') iu C) h2 ?_;intro DD C H' s' I' q hC hL h0 kM hp ⟨m,hn⟩;show wpAny _ X.A (assign (.Name y py) X.env (.ref DD)) _ _ s';refine wpAny_assign_Name (NV I' hN hj hy (v:=.ref DD) rfl (λs3 I3 ⟨a,hsb,ha⟩=>?_) hf)
 have nCa:C≠a:=λz=>by
  rcases ha with e|e
  ·exact hL (z.trans e)
  ·exact kM _ _ e z.symm
 refine⟨m,hn.sameBut hsb nCa,λnE kO=>⟨_,H',?_,q⟩⟩;exact I3.turned (t':=s3.toks) (λb o hb e=>(kO.2 b hb).trans e) hC hL (.inr h0) kM hp
end
abbrev XB(X:Cx)(oc:Option Str)(scope:Scope)(cl:hV)(x:Str)(cn:iD)(C:Addr)(ib:Shared)(ie:Hp)(fp:h8):Cx:=Yw X oc scope cl [x] cn C ib ie fp
def Sg(js:iC)(v:Option V)(σ:St):St:=v::js.map λj=>(σ[j]?).join
structure CompOk(X:Cx)(oc:Option Str)(scope:Scope)(cl:hV)(x:Str)(cn:iD)(js:iC):Prop where
 T:CompOkT X oc scope cl [x] cn js
 hx:(relabel scope X.env).names.lookup x=some .local∨(oc=some x∧(relabel scope X.env).names.lookup x=some .cell)
def Gw{X:Cx}{scope:Scope}{x:Str}{cn:iD}{js:iC}(clos:closureFor scope X.env=pure (Xx scope.names X.env))(i6:∀y∈scope.names,y.2≠.cell)(kind:scope.kind=.function)(names:∀y∈scope.names,y.2=.local->scope.names.lookup y.1=some .local) (hx:scope.names.lookup x=some .local)(has:((relabel scope X.env).names.all λp=>!(W4 (some p.2)) || (decide ((none:Option Str)=some p.1) || ((Xx scope.names X.env).lookup p.1).isSome))=true) (len:js.length=cn.length)(cap:((cn.zip js).all λp=>(X.N[p.2]? == some p.1)&&W4 (X.env.scope.names.lookup p.1)&&W4 ((relabel scope X.env).names.lookup p.1))=true)(nd:(x::cn).Nodup):CompOk X none scope (Xx scope.names X.env) x cn js:=⟨PB clos i6 kind names has len cap nd,.inl (lookup_relabel_local hx)⟩
def J4{X:Cx}{scope:Scope}{x:Str}{cn:iD}{js:iC}(clos:closureFor scope X.env=pure (Xx scope.names X.env))(cs:∀n,cellsFrom n scope.names (Xx scope.names X.env)=Vt (some x) n (Xx scope.names X.env))(pc:∀h,pushCells h scope.names=Je (some x) h)(kind:scope.kind=.function)(names:∀y∈scope.names,y.2=.local->scope.names.lookup y.1=some .local) (hx:(relabel scope X.env).names.lookup x=some .cell)(has:((relabel scope X.env).names.all λp=>!(W4 (some p.2)) || (decide (some x=some p.1) || ((Xx scope.names X.env).lookup p.1).isSome))=true) (len:js.length=cn.length)(cap:((cn.zip js).all λp=>(X.N[p.2]? == some p.1)&&W4 (X.env.scope.names.lookup p.1)&&W4 ((relabel scope X.env).names.lookup p.1))=true)(nd:(x::cn).Nodup):CompOk X (some x) scope (Xx scope.names X.env) x cn js:=
 ⟨⟨clos,cs,pc,kind,names,λy c h=>RL X.env scope.names [] (λ_ z=>(nomatch z)) (y,c) (cq h),AC has,AV len cap,λy hy z=>(cH.mp nd).1 (bT z ▸ hy),len,nd⟩,.inr ⟨rfl,hx⟩⟩
def CompOk.pg{X:Cx}{oc:Option Str}{scope:Scope}{cl:hV}{x:Str}{cn:iD}{js:iC}{px:Pos}(O:CompOk X oc scope cl x cn js)(C:Addr)(ib:Shared)(ie:Hp)(fp:h8):PG (XB X oc scope cl x cn C ib ie fp) (.Name x px) (Q4 0):=by
 rcases O.hx with h|⟨h,h2⟩
 ·exact YX O.T.nd rfl (.inl h) (.inr h)
 ·exact YX O.T.nd rfl (.inr h2) (.inl (bJ h))
def Kc(wi:TI)(js:iC)(tc:Addr->Shared->Hp->List Addr->TT)(te:Addr->Shared->Hp->List Addr->TE):TE:=λσ H Q=>wi σ H λJ H1=>∀D,H1 D=none->∀C ib ie fp,∃W:Nat->Nat->List V->Hp->Prop,(∃m,W 0 m [] (upd H1 D (.lst [])))∧∀i m ys H2,W i m ys H2->H2 D=some (.lst ys) ∧
 ((J.stop i H2∧Q (.ref D) H2)∨(J.go i H2∧∀x H',J.yld i H2 x H'->tc C ib ie fp (Sg js (some x) σ) H' λb H3=>if b=true then te C ib ie fp (Sg js (some x) σ) H3 λv H4=>H4 D=some (.lst ys)∧ys.length<sizeLine∧∃m',m'<m∧W (i+1) m' (ys++[v]) (upd H4 D (.lst (ys++[v])))
  else ∃m',m'<m∧W (i+1) m' ys H3))
def Kq(wi:TI)(js:iC)(tc:Addr->Shared->Hp->List Addr->TT)(te:Addr->Shared->Hp->List Addr->TE):My wi 1 (Q4 0) js tc te=Kc wi js tc te:=by
 funext σ H Q;refine cx (wi σ H) (funext λJ=>funext λH1=>?_);refine cM λD=>cM λhD=>cM λC=>cM λib=>cM λie=>cM λfp=>?_
 refine cx Exists (funext λW=>cx (_∧·) (cM λi=>cM λm=>cM λys=>cM λH2=>cM λhW=>cx (_∧·) (cx (_∨·) (cx (_∧·) (cM λx=>cM λH'=>cM λhy=>propext ⟨λh=>(h [none] rfl).2,λh vs hv=>?_⟩)))))
 match vs,hv with
 |[v],_=>exact⟨⟨[some x],rfl,rfl⟩,h⟩
section
variable{X:Cx}{oc:Option Str}{scope:Scope}{cl:hV}{x:Str}{cn:iD}{js:iC}{iV ii:Expr}{iU:iE}{px pos:Pos}{wi:TI}{tc:Addr->Shared->Hp->List Addr->TT}{te:Addr->Shared->Hp->List Addr->TE}
def Hi(O:CompOk X oc scope cl x cn js)(hc:X.calm=true)(hi:PI X (.Name x px) ii wi)(ht:∀C ib ie fp,Th (XB X oc scope cl x cn C ib ie fp) iU (tc C ib ie fp))(he:∀C ib ie fp,PE (XB X oc scope cl x cn C ib ie fp) iV (te C ib ie fp))(hs:∀v,foldedSetIterable ii X.env v=pure v:=by intro _;rfl):PE X (.ListComp iV [⟨.Name x px,ii,iU,0⟩] scope pos) (Kc wi js tc te):=Kq wi js tc te ▸ KL O.T hc O.pg hi ht he hs
def DP(j:Nat)(wi:TI)(js:iC)(tc:Addr->Shared->Hp->List Addr->TT)(te:Addr->Shared->Hp->List Addr->TE):TS:=λD σ H=>Kc wi js tc te σ H λv H1=>D.nx (σ.set j (some v)) H1
def OE{j:Nat}{y:Str}{py i7:Pos}(O:CompOk X oc scope cl x cn js)(hc:X.calm=true)(hi:PI X (.Name x px) ii wi)(ht:∀C ib ie fp,Th (XB X oc scope cl x cn C ib ie fp) iU (tc C ib ie fp))(he:∀C ib ie fp,PE (XB X oc scope cl x cn C ib ie fp) iV (te C ib ie fp))(hN:X.N.Nodup) (hj:X.N[j]?=some y) (hy:Loc X.env.scope y) (jS:swapsWith (.ListComp iV [⟨.Name x px,ii,iU,0⟩] scope pos) (some (.Name y py)) i7.line X.env=pure true)(hs:∀v,foldedSetIterable ii X.env v=pure v:=by intro _;rfl) (hf:X.fn y=true∨X.env.scope.names.lookup y=some .local:=by first|exact .inl rfl|exact .inr rfl):PS X (.Assign [.Name y py] (.ListComp iV [⟨.Name x px,ii,iU,0⟩] scope pos) i7) (DP j wi js tc te):=by
 have h:=R7 O.T hc O.pg hi ht he hN hj hy jS hs hf;unfold NK at h;rw[show([x]:iD).length=1 from rfl,Kq]at h;exact h
end
section
variable{X:Cx}{gV:g9}{σ:St}{H:Hp}{s:Shared}
def Inv.freeze{d:Addr}{ob:Obj}{ks:List (Key × V)}(I:Inv X gV σ H s)(hd:H d=some (.dK ks))(ho:s.heap.get? d=some ob):Inv X gV σ (upd H d (.frz ob (.dK ks))) s:=by
 have old:∀b x,H b=some x->(∀ys,x≠.dK ys)->upd H d (.frz ob (.dK ks)) b=some x:=λb x e n=>by
  have hb:b≠d:=λz=>by rw[z,hd]at e;exact n ks (bT e).symm
  rw[ZA hb];exact e
 have ow:∀b a,H b=some (.own a)->upd H d (.frz ob (.dK ks)) b=some (.own a):=λb a e=>old b _ e λ_ z=>by cases z
 have tu:∀b xs,H b=some (.tup xs)->upd H d (.frz ob (.dK ks)) b=some (.tup xs):=λb a e=>old b _ e λ_ z=>by cases z
 refine I.un (h':=s.heap) (t':=s.toks) (H':=upd H d (.frz ob (.dK ks))) ⟨λb o e n _ _=>e,λb o e n _ _=>⟨o.slots,e⟩,λb o e n _=>?_,λb o e _=>⟨o,e⟩,tu,λb o u e=>old b _ e (λ_ z=>by cases z),λb ps e=>⟨#[],?_⟩⟩ (λb x e=>?_)
 ·rw[ZA (cF (Z5 hd n))];exact n
 ·rw[Array.append_empty];exact old b _ e (λ_ z=>by cases z)
 ·by_cases hb:b=d
  ·rw[hb,ZG]at e
   cases e;rw[hb];exact⟨ho,(I.hok d _ hd).stay (λ_ _ _ q=>q) (λc q=>ow c _ q) λc xs q=>tu c xs q⟩
  ·rw[ZA hb]at e
   exact(I.hok b x e).stay (λ_ _ _ q=>q) (λc q=>ow c _ q) λc xs q=>tu c xs q
def Inv.nofrz{d:Addr}{ks:List (Key × V)}(I:Inv X gV σ H s)(hd:H d=some (.dK ks)):∀o u,X.H₀ d≠some (.frz o u):=λo u z=>by
 have:=I.base.frzs d o u z;rw[hd]at this;cases this
def Inv.thaw{d:Addr}{ob:Obj}{ks:List (Key × V)}(I:Inv X gV σ H s)(hd:H d=some (.frz ob (.dK ks)))(nf:∀o u,X.H₀ d≠some (.frz o u)):Inv X gV σ (upd H d (.dK ks)) s:=by
 have old:∀b x,H b=some x->b≠d->upd H d (.dK ks) b=some x:=λb x e n=>by rw[ZA n];exact e
 have nn:∀b,H b=none->upd H d (.dK ks) b=none:=λb n=>by rw[ZA (cF (Z5 hd n))];exact n
 have tu:∀b xs,H b=some (.tup xs)->upd H d (.dK ks) b=some (.tup xs):=λb xs e=>old b _ e λz=>by rw[z,hd]at e;cases e
 have ow:∀b a,H b=some (.own a)->upd H d (.dK ks) b=some (.own a):=λb xs e=>old b _ e λz=>by rw[z,hd]at e;cases e
 refine⟨I.ok,I.os,I.bare,⟨I.base.keep,I.base.slot,λb o e n hx=>nn b (I.base.free b o e n hx),I.base.there,λb xs e=>tu b xs (I.base.tups b xs e),λb o u e=>old b _ (I.base.frzs b o u e) (λz=>nf o u (z ▸ e)),λb ps e=>?_⟩,
  I.loc,I.cell,nn _ I.free,λx c e=>nn c (I.freeC x c e),λp hp=>?_,λb x e=>?_,I.len⟩
 ·obtain⟨more,e1⟩:=I.base.tbls b ps e
  exact⟨more,old b _ e1 λz=>by rw[z,hd]at e1;cases e1⟩
 ·obtain⟨h1,h2,h3⟩:=I.pin p hp
  exact⟨h1,nn _ h2,h3⟩
 ·by_cases hb:b=d
  ·rw[hb,ZG]at e
   cases e;rw[hb];obtain⟨_,q⟩:=(show s.heap.get? d=some ob∧ObjOk X.prog X.w H s.heap d (.dK ks) from I.hok d _ hd);exact q.stay (λ_ _ _ q=>q) (λc q=>ow c _ q) λc xs q=>tu c xs q
  ·rw[ZA hb]at e
   exact(I.hok b x e).stay (λ_ _ _ q=>q) (λc q=>ow c _ q) λc xs q=>tu c xs q
end
def Ca{k:Key}{v:Value}(h:Ow k v=true):RelV (kV k) v:=by
 rcases YS h with ⟨i,t,rfl,rfl⟩|⟨x,t,rfl,rfl⟩
 ·exact⟨t,rfl⟩
 ·exact⟨t,rfl⟩
def IU{α γ:Type}{R:α->γ->Prop}:∀{xs:List α} {ys:List γ} {i:Nat} {x:α} {y:γ},Paired R xs ys->xs[i]?=some x->ys[i]?=some y->R x y
 |_,_,_,_,_,.nil,e,_=>by simp at e
 |_,_,0,_,_,.cons h _,e1,e2=>by simp at e1 e2;subst e1 e2;exact h
 |_,_,i+1,_,_,.cons _ r,e1,e2=>IU (i:=i) r (by simpa using e1) (by simpa using e2)
def Itd(d:Addr)(ob:Obj)(ks:List (Key × V)):It:=
 ⟨λi H=>H d=some (.frz ob (.dK ks))∧i<ks.length,λi H x H'=>H'=H∧∃p,ks[i]?=some p∧x=kV p.1,λi H=>H d=some (.frz ob (.dK ks))∧ks.length<=i⟩
def TnD(d:Addr)(ob:Obj)(it:Addr)(i:Nat)(h:Heap):Prop:=∃es ep,h.IsKeyIter it d i es.size ep∧ob.data=.dict es ep
def B7{P:Program}{w:World}{H:Hp}{h:Heap}{d:Addr}{ob:Obj}{ks:List (Key × V)}{es:Array DictEntry}{ep:Nat}(ok:HOk P w H h)(hd:H d=some (.frz ob (.dK ks)))(iX:ob.data=.dict es ep):∃ws,KV ks ws∧h.DictAt (Z2 P w) d ws ep∧es.size=ws.length:=by
 obtain⟨ho,z,hS,ws,r,m⟩:=(show h.get? d=some ob∧ks.length<=sizeLine∧(d == sysModules)=false∧∃vs,KV ks vs∧h.DictOf (Z2 P w) d vs from ok d _ hd);obtain⟨o',jk,j0,iY,jT,kx,hk,hp,hn⟩:=m;rw[ho]at iY;cases iY;rw[iX]at kx;injection kx with e1 e2
 subst e1 e2;refine⟨ws,r,⟨ob,es,ho,jT,iX,hk,hp,hn⟩,?_⟩;have:=hp.length;simpa using this
def No{P:Program}{w:World}{K:g8}{tg:Expr}(d it:Addr)(ob:Obj)(ks:List (Key × V)):Turn P w K tg (Itd d ob ks) [it] it (TnD d ob it) where
 mem:=by simp
 obj:=λi h ⟨es,ep,st,_⟩ b hb=>by
  have e:b=it:=by simpa using hb
  subst e;obtain⟨o,e,c,d⟩:=st;exact⟨o,e,λv z=>by rw[d]at z;cases z⟩
 keep:=λi h h' ⟨es,ep,⟨o,e,c,q⟩,hd⟩ k=>⟨es,ep,⟨o,k it (by simp) o e,c,q⟩,hd⟩
 item:=by
  intro X hP hw hK hc i gV s σ H E I hf st hg;subst hP hw hK;obtain⟨hd,hi⟩:=hg;obtain⟨es,ep,kP,iX⟩:=st;obtain⟨ws,r,hm,hsz⟩:=B7 I.hok hd iX;have hl:ks.length=ws.length:=r.length;have hiw:i<ws.length:=by omega
  obtain⟨f0,f1,f2,f3,f4,f5⟩:=hf it (by simp);rw[hsz]at kP;refine wpAny_pyNext_dict_item (knd:=Z2 X.prog X.w) (kvs:=ws) (k:=ws[i].1) (v:=ws[i].2) kP hm (aN hiw) λkey h' kG lv sb=>?_
  have I1:Inv X gV σ H {s with heap:=h'}:=I.turned (t':=s.toks) (λb o hb e=>(sb.2 b hb).trans e) f0 f1 f3 f4 f5;obtain⟨oi,e1,c1,d1⟩:=id lv;obtain⟨g1,_⟩:=IU r (aN hi) (aN hiw);refine⟨key,rfl,FZ (s:={s with heap:=h'}) e1 c1 d1 (by decide) ⟨kV ks[i].1,H,I1,?_,⟨rfl,ks[i],aN hi,rfl⟩,⟨es,ep,by rw[hsz];exact lv,iX⟩,λb hb=>(hf b hb).1⟩⟩;rw[g1];exact Ca kG
 done:=by
  intro X hP hw hK hc i gV s σ H E I hf st hg;subst hP hw hK;obtain⟨hd,hi⟩:=hg;obtain⟨es,ep,kP,iX⟩:=st;obtain⟨ws,r,hm,hsz⟩:=B7 I.hok hd iX;have hl:ks.length=ws.length:=r.length;obtain⟨f0,f1,f2,f3,f4,f5⟩:=hf it (by simp);rw[hsz]at kP;exact wpAny_pyNext_dict_end (knd:=Z2 X.prog X.w) (kvs:=ws) (I.ok.hd hc) kP hm (bR (by omega)) λh' eb=>⟨rfl,I.turned (t':=s.toks) (λb o hb e=>eb b o hb e) f0 f1 f3 f4 f5⟩
 self:=λ_ _ _ _ _ ⟨_,_,st,_⟩ h=>wpAny_pyIter_keyiter st h
section
variable{X:Cx}{tg:Expr}
def AO(X:Cx)(tl:TE):TI:=λσ H R=>tl σ H λx H1=>∃d ks,x=.ref d∧((H1 d=some (.dK ks)∧∀ob,(∀o u,X.H₀ d≠some (.frz o u))->R (Itd d ob ks) (upd H1 d (.frz ob (.dK ks))))∨∃ob,H1 d=some (.frz ob (.dK ks))∧R (Itd d ob ks) H1)
def MN{l:Expr}{tl:TE}(hl:PE X l tl):PI X tg l (AO X tl):=by
 intro gV s σ H R I h;refine thn (hl gV s σ H _ I h) λv s1 ⟨x,H1,I1,r1,q1⟩=>?_
 obtain⟨d,ks,e,q⟩:=q1;subst e;cases r1;rcases q with ⟨hd,q⟩|⟨ob,hd,q⟩
 ·obtain⟨z,hS,ws,r,m⟩:=(show ks.length<=sizeLine∧(d == sysModules)=false∧∃vs,KV ks vs∧s1.heap.DictOf (Z2 X.prog X.w) d vs from I1.hok d _ hd)
  obtain⟨ob,es,ep,ho,jT,iX,hk,hp,hn⟩:=m;have hsz:es.size=ws.length:=by have:=hp.length;simpa using this
  have I2:=I1.freeze hd ho;refine gT (knd:=Z2 X.prog X.w) (kvs:=ws) (ep:=ep) hS ⟨ob,es,ho,jT,iX,hk,hp,hn⟩ ?_;refine⟨s1.heap.objs.size,[s1.heap.objs.size],_,_,_,rfl,I2.kept (t':=s1.toks) λb o e=>aI _ e,No d _ ob ks,⟨es,ep,⟨_,aZ _ rfl,rfl,by rw[hsz];rfl⟩,iX⟩,λb hb=>?_,q ob (I1.nofrz hd)⟩;have e:b=s1.heap.objs.size:=by simpa using hb
  subst e;exact I2.fpOk (aM _) (I2.hok.fresh (aM _))
 ·obtain⟨ho,z,hS,ws,r,m⟩:=(show s1.heap.get? d=some ob∧ks.length<=sizeLine∧(d == sysModules)=false∧∃vs,KV ks vs∧s1.heap.DictOf (Z2 X.prog X.w) d vs from I1.hok d _ hd)
  obtain⟨nF,es,ep,iY,jT,iX,hk,hp,hn⟩:=m;rw[ho]at iY;cases iY;have hsz:es.size=ws.length:=by have:=hp.length;simpa using this
  refine gT (knd:=Z2 X.prog X.w) (kvs:=ws) (ep:=ep) hS ⟨ob,es,ho,jT,iX,hk,hp,hn⟩ ?_;refine⟨s1.heap.objs.size,[s1.heap.objs.size],_,_,_,rfl,I1.kept (t':=s1.toks) λb o e=>aI _ e,No d _ ob ks,⟨es,ep,⟨_,aZ _ rfl,rfl,by rw[hsz];rfl⟩,iX⟩,λb hb=>?_,q⟩;have e:b=s1.heap.objs.size:=by simpa using hb
  subst e;exact I1.fpOk (aM _) (I1.hok.fresh (aM _))
def Thawed(X:Cx)(Q:Hp->Prop)(H2:Hp):Prop:=(∃d ob ks,(∀o u,X.H₀ d≠some (.frz o u))∧H2 d=some (.frz ob (.dK ks))∧Q (upd H2 d (.dK ks)))∨Q H2
def Thawed.inv{Q:Hp->Prop}{gV:g9}{σ:St}{H:Hp}{s:Shared}(h:Thawed X Q H)(I:Inv X gV σ H s):∃H',Inv X gV σ H' s∧Q H':=by
 rcases h with ⟨d,ob,ks,nf,hd,q⟩|q
 ·exact⟨_,I.thaw hd nf,q⟩
 ·exact⟨H,I,q⟩
def C4{e:Expr}{t:TE}(h:PE X e t):PE X e (λσ H Q=>t σ H λv=>Thawed X (Q v)):=λgV s σ H Q I q=>
 thn (h gV s σ H _ I q) λv s1 ⟨x,H1,I1,r1,q1⟩=>let ⟨H2,I2,q2⟩:=q1.inv I1;⟨x,H2,I2,r1,q2⟩
def Iz(X:Cx)(D:Ends):Ends:=⟨λσ=>Thawed X (D.nx σ),λv=>Thawed X (D.rt v),λσ=>Thawed X (D.bk σ),λσ=>Thawed X (D.ct σ)⟩
def BQ{gV:g9}{D:Ends}{f:Flow}{s:Shared}(h:SP X gV (Iz X D) f s):SP X gV D f s:=by
 cases f with
 |next=>obtain⟨σ,H,I,q⟩:=h;obtain⟨H2,I2,q2⟩:=Thawed.inv q I;exact⟨σ,_,I2,q2⟩
 |brk=>obtain⟨σ,H,I,q⟩:=h;obtain⟨H2,I2,q2⟩:=Thawed.inv q I;exact⟨σ,_,I2,q2⟩
 |cont=>obtain⟨σ,H,I,q⟩:=h;obtain⟨H2,I2,q2⟩:=Thawed.inv q I;exact⟨σ,_,I2,q2⟩
 |ret u=>obtain⟨v,σ,H,I,r,q⟩:=h;obtain⟨H2,I2,q2⟩:=Thawed.inv q I;exact⟨v,σ,_,I2,r,q2⟩
def Hy{e:Stmt}{t:TS}(h:PS X e t):PS X e (λD σ H=>t (Iz X D) σ H):=λgV s σ H D I q=>thn (h gV s σ H _ I q) λf s1 z=>BQ z
def SF:∀{xs:iH} {us:iA} {ns:iB},xs=ns.map V.int->Vals xs us->IntsAre us ns
 |_,_,[],e,r=>by subst e;cases r;exact .nil
 |_,_,n::ns,e,r=>by
  subst e;cases r with
  |cons h r=>
   obtain⟨t,rfl⟩:=(show ∃t,_=Value.int n t from h);exact .cons n t (SF rfl r)
def N7:∀{us:iA} {ns:iB},IntsAre us ns->Vals (ns.map V.int) us
 |_,_,.nil=>.nil
 |_,_,.cons n t r=>.cons ⟨t,rfl⟩ (N7 r)
def E7(K:g8):iH->Hp->VK->Prop:=λxs H Q=>∃(l:Addr) (ns:iB),xs=[.ref l]∧SqL K H l (ns.map V.int)∧ns.length<64∧∀(p:Addr) (ms:iB),ms.Perm ns->ms.Pairwise (·<=·)->H p=none->Q (.ref p) (upd H p (.lst (ms.map V.int)))
def Jx:CallR X (.builtin "sorted") (E7 X.K):=by
 intro gV s σ H xs us Q I r h;obtain⟨l,ns,rfl,hl,kc,q⟩:=h;obtain⟨u,rfl,ru⟩:=Oj r;cases (show u=Value.ref l from ru);obtain⟨ik,rv,p,hz⟩:=I.list hl;have hI:=SF rfl rv;have im:ik.length=ns.length:=by have:=rv.length;rw[aA]at this;exact this.symm
 refine sorted_ints (vs:=ik) (ns:=ns) p.isList hI (by omega) λout ms a1 a2 a3=>?_
 obtain⟨e,he⟩:=sortedAll_at s.heap ik out;refine⟨.ref (s.heap.objs.size+1),_,I.laid (o:=.lst (ms.map V.int)) (t':=s.toks) (λ_ _=>sortedAll_old) (du _) ?_,rfl,q _ ms a2 a3 (I.hok.fresh (du _))⟩;have hl2:ms.length=ns.length:=a2.length_eq;refine⟨by rw[aA,cA];omega,out.toList,e,N7 a1,?_⟩;rw[he]
def Ni:∀{xs:iH} {us:iA} {bs:iF},xs=bs.map V.bl->Vals xs us->LSm.BoolsAre us bs
 |_,_,[],e,r=>by subst e;cases r;exact .nil
 |_,_,b::bs,e,r=>by
  subst e;cases r with
  |cons h r=>
   cases (show _=Value.bool b from h);exact .cons b (Ni rfl r)
def B9(K:g8)(g:iF->Bool):iH->Hp->VK->Prop:=λxs H Q=>∃(l:Addr) (bs:iF),xs=[.ref l]∧SqL K H l (bs.map V.bl)∧Q (.bl (g bs)) H
def Gy(hc:X.calm=true):CallR X (.builtin "any") (B9 X.K λbs=>bs.any id):=by
 intro gV s σ H xs us Q I r h;obtain⟨l,bs,rfl,hl,q⟩:=h;obtain⟨u,rfl,ru⟩:=Oj r;cases (show u=Value.ref l from ru);obtain⟨ik,rv,p,hz⟩:=I.list hl;have hb:=Ni rfl rv;have hp:=p.isList;have iR:l<s.heap.objs.size:=by obtain⟨_,e,_⟩:=hp;exact aP e
 refine call_any_walk (gS hp ⟨s.heap.objs.size,[s.heap.objs.size,l],[s.heap.objs.size],ik.toArray.size,_,_,λj=>(bs[j]?).getD false,rfl,Walks.list (A:=X.A.in1) (I.ok.hd hc) _ l (bB iR) ik.toArray,
  ⟨⟨_,aZ _ rfl,rfl,rfl⟩,hp.push _⟩,λj v s' Q' E' hP hQ=>?_,λh' tk hk=>?_⟩)
 ·obtain⟨b,e,rfl⟩:=hb.get j v (by simpa using hP)
  simp only[e,gG]at hQ;exact dU hQ
 ·have e:((List.range ik.toArray.size).any λj=>(bs[j]?).getD false)=bs.any id:=by
   rw[bE,hb.length];exact LSm.range_any bs
  rw[e];exact⟨.bl _,H,I.kept (t':=tk) (LSm.kept_iter hk),rfl,q⟩
end
inductive Wv where
 |non|bl (b:Bool)|int (i:Int)|str (x:Str)|lst (ws:List Wv)|tup (ws:List Wv)|o (h:Nat)|g (a:Addr)
abbrev iI:=List Wv
abbrev iJ:=List (Str × Wv)
abbrev iK:=List (List Key × Wv)
abbrev iL:=List (Key × Wv)
inductive Ob where
 |ins (C:Addr) (fs:iJ)|lst (ws:iI)|dk (kvs:iL)|dt (kvs:iK)|exc (C:Addr)|dz (kvs:iL)
abbrev iM:=List Ob
section
variable(F:Hp)(β:h8)
mutual
inductive RW:Wv->V->Prop
 |non:RW .non .non
 |bl (b:Bool):RW (.bl b) (.bl b)
 |int (i:Int):RW (.int i) (.int i)
 |str (x:Str):RW (.str x) (.str x)
 |lst {a:Addr} {xs:iH} {ws:iI} (e:Rd F a (.lst xs)) (r:RWs ws xs):RW (.lst ws) (.ref a)
 |tup {a:Addr} {xs:iH} {ws:iI} (e:F a=some (.tup xs)) (r:RWs ws xs):RW (.tup ws) (.ref a)
 |o {h:Nat} {a:Addr} (e:β[h]?=some a):RW (.o h) (.ref a)
 |g (a:Addr):RW (.g a) (.ref a)
inductive RWs:iI->List V->Prop
 |nil:RWs [] []
 |cons {w:Wv} {ws:iI} {v:V} {vs:iH} (h:RW w v) (r:RWs ws vs):RWs (w::ws) (v::vs)
end
end
structure Gr(F F':Hp)(β il:h8):Prop where
 same:Same F F'
 pre:∀(h:Nat) (a:Addr),β[h]?=some a->il[h]?=some a
def Gr.refl(F:Hp)(β:h8):Gr F F β β:=⟨Same.refl _,λ_ _ e=>e⟩
def Gr.trans{F F1 F2:Hp}{β ij i8:h8}(a:Gr F F1 β ij)(b:Gr F1 F2 ij i8):Gr F F2 β i8:=⟨a.same.trans b.same,λh x e=>b.pre h x (a.pre h x e)⟩
def Rd.same{H H':Hp}{a:Addr}{u:HO}(s:Same H H')(r:Rd H a u):Rd H' a u:=r.elim (λe=>.inl (s _ _ e)) λ⟨o,e⟩=>.inr ⟨o,s _ _ e⟩
mutual
def RW.mono{F F':Hp}{β il:h8}(g:Gr F F' β il):∀{w:Wv} {v:V},RW F β w v->RW F' il w v
 |_,_,.non=>.non
 |_,_,.bl b=>.bl b
 |_,_,.int i=>.int i
 |_,_,.str x=>.str x
 |_,_,.lst e r=>.lst (Rd.same g.same e) (RWs.mono g r)
 |_,_,.tup e r=>.tup (g.same _ _ e) (RWs.mono g r)
 |_,_,.o e=>.o (g.pre _ _ e)
 |_,_,.g a=>.g a
def RWs.mono{F F':Hp}{β il:h8}(g:Gr F F' β il):∀{ws:iI} {vs:iH},RWs F β ws vs->RWs F' il ws vs
 |_,_,.nil=>.nil
 |_,_,.cons h r=>.cons (RW.mono g h) (RWs.mono g r)
end
section
variable{F:Hp}{β:h8}
def RWs.length:∀{ws:iI} {vs:iH},RWs F β ws vs->ws.length=vs.length
 |_,_,.nil=>rfl
 |_,_,.cons _ r=>by rw[bG,bG,RWs.length r]
def RWs.get:∀{ws:iI} {vs:iH} {i:Nat} {w:Wv},RWs F β ws vs->ws[i]?=some w->∃v,vs[i]?=some v∧RW F β w v
 |_,_,_,_,.nil,e=>by simp at e
 |_,_,0,_,.cons h _,e=>by simp at e;subst e;exact⟨_,rfl,h⟩
 |_,_,i+1,w,.cons _ r,e=>by
  obtain⟨v,h1,h2⟩:=RWs.get (i:=i) (w:=w) r (by simpa using e);exact⟨v,by simpa using h1,h2⟩
def RWs.append:∀{ws us:iI} {vs xs:iH},RWs F β ws vs->RWs F β us xs->RWs F β (ws++us) (vs++xs)
 |_,_,_,_,.nil,s=>s
 |_,_,_,_,.cons h r,s=>.cons h (RWs.append r s)
def RWs.set{w:Wv}{v:V}(h:RW F β w v):∀{ws:iI} {vs:iH} (i:Nat),RWs F β ws vs->RWs F β (ws.set i w) (vs.set i v)
 |_,_,_,.nil=>.nil
 |_,_,0,.cons _ r=>.cons h r
 |_,_,i+1,.cons q r=>.cons q (RWs.set h i r)
def RWs.rep{ws:iI}{vs:iH}(h:RWs F β ws vs):∀k:Nat,RWs F β (List.replicate k ws).flatten (List.replicate k vs).flatten
 |0=>.nil
 |k+1=>by rw[cK,cK,dw,dw];exact h.append (RWs.rep h k)
end
inductive RK (F:Hp) (β:h8) {κ:Type}:List (κ × Wv)->List (κ × V)->Prop
 |nil:RK F β [] []
 |cons {k:κ} {w:Wv} {v:V} {ps:List (κ × Wv)} {qs:List (κ × V)} (h:RW F β w v) (r:RK F β ps qs):RK F β ((k,w)::ps) ((k,v)::qs)
def RK.mono{F F':Hp}{β il:h8}{κ:Type}(g:Gr F F' β il):∀{ps:List (κ × Wv)} {qs:List (κ × V)},RK F β ps qs->RK F' il ps qs
 |_,_,.nil=>.nil
 |_,_,.cons h r=>.cons (h.mono g) (RK.mono g r)
def ObR(F H:Hp)(β:h8)(a:Addr):Ob->Prop
 |.ins C fs=>∃dx jf,H a=some (.ins C dx jf)∧RK F β fs jf
 |.lst ws=>∃xs,H a=some (.lst xs)∧RWs F β ws xs
 |.dk kvs=>∃ks,H a=some (.dK ks)∧RK F β kvs ks
 |.dt kvs=>∃ks,H a=some (.dT ks)∧RK F β kvs ks
 |.exc C=>H a=some (excO a C)
 |.dz kvs=>∃o ks,H a=some (.frz o (.dK ks))∧RK F β kvs ks
def ObR.mono{F F' H H':Hp}{β il:h8}{a:Addr}(g:Gr F F' β il)(e:H' a=H a):∀{ob:Ob},ObR F H β a ob->ObR F' H' il a ob
 |.ins C fs,⟨dx,jf,h,r⟩=>⟨dx,jf,e.trans h,r.mono g⟩
 |.lst ws,⟨xs,h,r⟩=>⟨xs,e.trans h,r.mono g⟩
 |.dk kvs,⟨ks,h,r⟩=>⟨ks,e.trans h,r.mono g⟩
 |.dt kvs,⟨ks,h,r⟩=>⟨ks,e.trans h,r.mono g⟩
 |.exc C,h=>e.trans h
 |.dz kvs,⟨o,ks,h,r⟩=>⟨o,ks,e.trans h,r.mono g⟩
def ObR.ex{F H:Hp}{β:h8}{a:Addr}:∀{ob:Ob},ObR F H β a ob->∃x,H a=some x
 |.ins C fs,⟨dx,jf,h,r⟩=>⟨_,h⟩
 |.lst ws,⟨xs,h,r⟩=>⟨_,h⟩
 |.dk kvs,⟨ks,h,r⟩=>⟨_,h⟩
 |.dt kvs,⟨ks,h,r⟩=>⟨_,h⟩
 |.exc C,h=>⟨_,h⟩
 |.dz kvs,⟨o,ks,h,r⟩=>⟨_,h⟩
def ndx{α:Type}{l:List α}(hN:l.Nodup){i j:Nat}{x:α}(a:l[i]?=some x)(b:l[j]?=some x):i=j:=by
 obtain⟨ha,ea⟩:=aG.mp a;obtain⟨hb,eb⟩:=aG.mp b;have hp:=dr.mp hN;rcases Nat.lt_trichotomy i j with h|h|h
 ·exact absurd (ea.trans eb.symm) (hp i j ha hb h)
 ·exact h
 ·exact absurd (eb.trans ea.symm) (hp j i hb ha h)
structure MOk(F H:Hp)(β:h8)(om:iM):Prop where
 sub:Same F H
 nd:β.Nodup
 len:β.length=om.length
 free:∀(h:Nat) (a:Addr),β[h]?=some a->F a=none
 ob:∀(h:Nat) (a:Addr) (x:Ob),β[h]?=some a->om[h]?=some x->ObR F H β a x
section
variable{F H:Hp}{β:h8}{om:iM}
def MOk.at(M:MOk F H β om){h:Nat}{x:Ob}(e:om[h]?=some x):∃a,β[h]?=some a∧F a=none∧ObR F H β a x:=by
 have hl:h < β.length:=by rw[M.len];exact(aG.mp e).1
 have e1:β[h]?=some β[h]:=aN hl;exact⟨_,e1,M.free h _ e1,M.ob h _ x e1 e⟩
def MOk.there(M:MOk F H β om){h:Nat}{a:Addr}(e:β[h]?=some a):∃x,H a=some x:=by
 have hl:h<om.length:=by rw[← M.len];exact(aG.mp e).1
 exact(M.ob h a _ e (aN hl)).ex
def MOk.newF{p:Addr}{o:HO}(M:MOk F H β om)(hp:H p=none):Gr F (upd F p o) β β∧MOk (upd F p o) (upd H p o) β om:=by
 have fp:F p=none:=M.sub.free hp;have g:Gr F (upd F p o) β β:=⟨λb u e=>by rw[ZA (Z5 e fp)];exact e,λ_ _ e=>e⟩
 have ne:∀(h:Nat) (a:Addr),β[h]?=some a->a≠p:=λh a e z=>by
  obtain⟨x,hx⟩:=M.there e;rw[z,hp]at hx;cases hx
 refine⟨g,λb u e=>?_,M.nd,M.len,λh a e=>by rw[ZA (ne h a e)];exact M.free h a e,λh a x e1 e2=>(M.ob h a x e1 e2).mono g (ZA (ne h a e1))⟩;by_cases hb:b=p
 ·subst hb;rw[ZG]at e ⊢;exact e
 ·rw[ZA hb]at e ⊢;exact M.sub b u e
def MOk.newO{p:Addr}{o:HO}{x:Ob}(M:MOk F H β om)(hp:H p=none)(hx:∀il,Gr F F β il->ObR F (upd H p o) il p x):Gr F F β (β++[p])∧MOk F (upd H p o) (β++[p]) (om++[x])∧(β++[p])[om.length]?=some p:=by
 have fp:F p=none:=M.sub.free hp
 have ne:∀(h:Nat) (a:Addr),β[h]?=some a->a≠p:=λh a e z=>by
  obtain⟨y,hy⟩:=M.there e;rw[z,hp]at hy;cases hy
 have g:Gr F F β (β++[p]):=⟨Same.refl _,λh a e=>by rw[bA (aG.mp e).1];exact e⟩;have last:(β++[p])[om.length]?=some p:=by rw[← M.len,bL (aM _),eQ];rfl
 have cs:∀(h:Nat) (a:Addr),(β++[p])[h]?=some a->β[h]?=some a∨(h=om.length∧a=p):=λh a e=>by
  by_cases hl:h < β.length
  ·rw[bA hl]at e;exact .inl e
  ·rw[bL (by omega)]at e
   have:h - β.length=0:=by
    have:=(aG.mp e).1;simp at this;omega
   rw[this]at e;refine .inr ⟨by rw[← M.len];omega,by simpa using e.symm⟩
 refine⟨g,⟨λb u e=>by rw[ZA (Z5 e fp)];exact M.sub b u e,?_,by simp[M.len],λh a e=>?_,λh a y e1 e2=>?_⟩,last⟩
 ·rw[cj]
  refine⟨M.nd,by simp,λa ha b hb z=>?_⟩;obtain⟨i,hi⟩:=dA ha;exact ne i a hi (z.trans (cN.mp hb))
 ·rcases cs h a e with e|⟨_,rfl⟩
  ·exact M.free h a e
  ·exact fp
 ·rcases cs h a e1 with e|⟨rfl,rfl⟩
  ·have hl:h<om.length:=by rw[← M.len];exact(aG.mp e).1
   rw[bA hl]at e2;exact(M.ob h a y e e2).mono g (ZA (ne h a e))
  ·rw[bL (aM _),eQ]at e2
   cases e2;exact hx _ g
def MOk.put{h:Nat}{a:Addr}{o:HO}{x:Ob}(M:MOk F H β om)(e:β[h]?=some a)(hx:ObR F (upd H a o) β a x):MOk F (upd H a o) β (om.set h x):=by
 have fa:=M.free h a e;refine⟨λb u eb=>by rw[ZA (Z5 eb fa)];exact M.sub b u eb,M.nd,by simp[M.len],M.free,λj b y e1 e2=>?_⟩;by_cases hj:j=h
 ·subst hj
  rw[e]at e1;cases e1;have hl:j<om.length:=by rw[← M.len];exact(aG.mp e).1
  rw[bV hl]at e2;cases e2;exact hx
 ·rw[bN (cF hj)]at e2
  have nb:b≠a:=λz=>by
   subst z;exact hj (ndx M.nd e1 e)
  exact(M.ob j b y e1 e2).mono (Gr.refl _ _) (ZA nb)
end
structure Gx(F F' H H':Hp)(β il:h8):Prop extends Gr F F' β il where
 keep:∀b o,H b=some o->b ∉ β->H' b=some o
 there:∀b,H' b=none->H b=none
 new:∀b,b∈il->b∈β∨H b=none
 fnew:∀b o,F' b=some o->F b=some o∨H b=none
 frz:∀b o u,H b=some (.frz o u)->H' b=some (.frz o u)
def Gx.refl(F H:Hp)(β:h8):Gx F F H H β β:=⟨Gr.refl _ _,λ_ _ e _=>e,λ_ e=>e,λ_ e=>.inl e,λ_ _ e=>.inl e,λ_ _ _ e=>e⟩
def Gx.trans{F F1 F2 H H1 H2:Hp}{β ij i8:h8}(a:Gx F F1 H H1 β ij)(b:Gx F1 F2 H1 H2 ij i8):Gx F F2 H H2 β i8:=by
 have n1:∀c o,H c=some o->c ∉ β->c ∉ ij:=λc o e h h1=>(a.new c h1).elim h λz=>by rw[e]at z;cases z
 refine⟨a.toGr.trans b.toGr,λc o e h=>b.keep c o (a.keep c o e h) (n1 c o e h),λc e=>a.there c (b.there c e),λc h=>?_,λc o e=>?_,λc o u e=>b.frz c o u (a.frz c o u e)⟩
 ·rcases b.new c h with h|h
  ·exact a.new c h
  ·exact .inr (a.there c h)
 ·rcases b.fnew c o e with h|h
  ·exact a.fnew c o h
  ·exact .inr (a.there c h)
section
variable{F H:Hp}{β:h8}{om:iM}{p:Addr}{o:HO}
def MOk.gxF(M:MOk F H β om)(hp:H p=none):Gx F (upd F p o) H (upd H p o) β β:=
 ⟨(M.newF (o:=o) hp).1,λb u e _=>by rw[ZA (Z5 e hp)];exact e,λb e=>by
  by_cases hb:b=p
  ·rw[hb];exact hp
  ·rw[ZA hb]at e;exact e,λ_ e=>.inl e,λb u e=>by
  by_cases hb:b=p
  ·rw[hb];exact .inr hp
  ·rw[ZA hb]at e;exact .inl e,λb u w e=>by rw[ZA (Z5 e hp)];exact e⟩
def MOk.gxU(M:MOk F H β om)(hp:H p=none):Gx F F H (upd H p o) β β:=
 ⟨Gr.refl _ _,λb u e _=>by rw[ZA (Z5 e hp)];exact e,λb e=>by
  by_cases hb:b=p
  ·rw[hb];exact hp
  ·rw[ZA hb]at e;exact e,λ_ e=>.inl e,λb u e=>.inl e,λb u w e=>by rw[ZA (Z5 e hp)];exact e⟩
def MOk.gxO(M:MOk F H β om)(hp:H p=none)(g:Gr F F β (β++[p])):Gx F F H (upd H p o) β (β++[p]):=
 ⟨g,(M.gxU (o:=o) hp).keep,(M.gxU (o:=o) hp).there,λb e=>by
  rcases cZ.mp e with e|e
  ·exact .inl e
  ·rw[cN.mp e];exact .inr hp,λb u e=>.inl e,(M.gxU (o:=o) hp).frz⟩
def nz{H:Hp}{a:Addr}{x:HO}(h:H a=some x)(hx:∀o u,x≠.frz o u:=by intro _ _ z;cases z):∀o u,H a≠some (.frz o u):=λo u z=>hx o u (bT (h.symm.trans z))
def MOk.gxP(M:MOk F H β om){h:Nat}{a:Addr}(e:β[h]?=some a)(hz:∀u w,H a≠some (.frz u w)):Gx F F H (upd H a o) β β:=
 ⟨Gr.refl _ _,λb u eb hb=>by
  have hba:b≠a:=λz=>hb (by rw[z];exact bM e)
  rw[ZA hba];exact eb,λb eb=>by
  by_cases hb:b=a
  ·rw[hb,ZG]at eb;cases eb
  ·rw[ZA hb]at eb;exact eb,λ_ e=>.inl e,λb u e=>.inl e,λb u w eb=>by
  have hba:b≠a:=λz=>hz u w (z ▸ eb)
  rw[ZA hba];exact eb⟩
def MOk.newFx(M:MOk F H β om)(hp:H p=none):Gx F (upd F p o) H (upd H p o) β β∧MOk (upd F p o) (upd H p o) β om:=⟨M.gxF hp,(M.newF hp).2⟩
def MOk.newOx{x:Ob}(M:MOk F H β om)(hp:H p=none)(hx:∀il,Gr F F β il->ObR F (upd H p o) il p x):Gx F F H (upd H p o) β (β++[p])∧MOk F (upd H p o) (β++[p]) (om++[x])∧(β++[p])[om.length]?=some p:=
 let ⟨g,m,e⟩:=M.newO hp hx;⟨M.gxO hp g,m,e⟩
end
abbrev Mw(α:Type):=iM->Option (Except Addr α × iM)
def ret{α:Type}(a:α):Mw α:=λom=>some (.ok a,om)
def bnd{α γ:Type}(m:Mw α)(k:α->Mw γ):Mw γ:=λom=>match m om with
 |none=>none
 |some (.ok a,ig)=>k a ig
 |some (.error c,ig)=>some (.error c,ig)
def WM{α:Type}:Mw α:=λ_=>none
def raise{α:Type}(c:Addr):Mw α:=λom=>some (.error c,om)
def Yn{α:Type}(m:Mw α):Mw α:=λom=>match m om with
 |some (.ok a,ig)=>some (.ok a,ig)
 |_=>none
def Res(E:XK){α:Type}(r:Option (Except Addr α × iM))(F H:Hp)(β:h8)(P:α->Hp->Hp->List Addr->Prop):Prop:=match r with
 |none=>False
 |some (.ok x,ig)=>∀F' H' il,Gx F F' H H' β il->MOk F' H' il ig->P x F' H' il
 |some (.error c,ig)=>∀F' H' il,Gx F F' H H' β il->MOk F' H' il ig->E (.ref c) none H'
section
variable{E:XK}{α γ:Type}{F F1 H H1:Hp}{β ij:h8}{om:iM}{P:γ->Hp->Hp->List Addr->Prop}{P':α->Hp->Hp->List Addr->Prop}
def Res.mono{r:Option (Except Addr γ × iM)}(g:Gx F F1 H H1 β ij)(R:Res E r F H β P):Res E r F1 H1 ij P:=by
 match r,R with
 |some (.ok x,ig),R=>exact λF' H' il g' M=>R F' H' il (g.trans g') M
 |some (.error c,ig),R=>exact λF' H' il g' M=>R F' H' il (g.trans g') M
def Res.bind{m:Mw α}{k:α->Mw γ}(R:Res E (bnd m k om) F H β P)(h:∀x om1 F1 H1 ij,Gx F F1 H H1 β ij->MOk F1 H1 ij om1->Res E (k x om1) F1 H1 ij P->P' x F1 H1 ij):Res E (m om) F H β P':=by
 unfold bnd at R
 match hm:m om,R with
 |some (.ok x,ig),R=>exact λF' H' il g M=>h x ig F' H' il g M (Res.mono g R)
 |some (.error c,ig),R=>exact R
end
structure EnvOk(F:Hp)(β:h8)(σ:St)(sl:List (Option Wv)):Prop where
 len:sl.length=σ.length
 get:∀(i:Nat) (w:Wv),sl[i]?=some (some w)->∃v,σ[i]?=some (some v)∧RW F β w v
def EnvOk.mono{F F':Hp}{β il:h8}{σ:St}{sl:List (Option Wv)}(V:EnvOk F β σ sl)(g:Gr F F' β il):EnvOk F' il σ sl:=
 ⟨V.len,λi w e=>let ⟨v,h,r⟩:=V.get i w e;⟨v,h,r.mono g⟩⟩
def EnvOk.set{F:Hp}{β:h8}{σ:St}{sl:List (Option Wv)}{w:Wv}{v:V}(V:EnvOk F β σ sl)(i:Nat)(r:RW F β w v):EnvOk F β (σ.set i (some v)) (sl.set i (some w)):=by
 refine⟨by simp[V.len],λj u e=>?_⟩;by_cases hj:j=i
 ·subst hj
  by_cases hl:j<sl.length
  ·rw[bV hl]at e
   cases e;exact⟨v,by rw[bV (by rw[← V.len];exact hl)],r⟩
  ·rw[bR (by simp;omega)]at e;cases e
 ·rw[bN (cF hj)]at e ⊢
  exact V.get j u e
abbrev Sl:=List (Option Wv)
abbrev FE:=Sl->Mw Wv
abbrev FT:=Sl->Mw Bool
abbrev FA:=Sl->Mw (iI)
inductive Fl where
 |nx|bk|ct|rt (w:Wv)
abbrev FS:=Sl->Mw (Fl × Sl)
def tE(E:XK)(f:FE):TE:=λσ H Q=>∃F β om sl,MOk F H β om∧EnvOk F β σ sl∧Res E (f sl om) F H β λw F' H' il=>∀v,RW F' il w v->Q v H'
def tT(E:XK)(f:FT):TT:=λσ H Q=>∃F β om sl,MOk F H β om∧EnvOk F β σ sl∧Res E (f sl om) F H β λb F' H' il=>Q b H'
def tA(E:XK)(f:FA):TA:=λσ H Q=>∃F β om sl,MOk F H β om∧EnvOk F β σ sl∧Res E (f sl om) F H β λws F' H' il=>∀vs,RWs F' il ws vs->Q vs H'
def FlP(D:Ends)(x:Fl × Sl)(F' H':Hp)(il:h8):Prop:=match x.1 with
 |.nx=>∀ir,EnvOk F' il ir x.2->D.nx ir H'
 |.bk=>∀ir,EnvOk F' il ir x.2->D.bk ir H'
 |.ct=>∀ir,EnvOk F' il ir x.2->D.ct ir H'
 |.rt w=>∀v,RW F' il w v->D.rt v H'
def tS(E:XK)(f:FS):TS:=λD σ H=>∃F β om sl,MOk F H β om∧EnvOk F β σ sl∧Res E (f sl om) F H β (FlP D)
def PV(Q:VK):Wv->Hp->Hp->List Addr->Prop:=λw F' H' il=>∀v,RW F' il w v->Q v H'
def Res.now{E:XK}{α:Type}{x:α}{F H:Hp}{β:h8}{om:iM}{P:α->Hp->Hp->List Addr->Prop}(R:Res E (ret x om) F H β P)(M:MOk F H β om):P x F H β:=R F H β (Gx.refl _ _ _) M
def PE.weak{X:Cx}{e:Expr}{t t':TE}(h:PE X e t)(w:∀σ H Q,t' σ H Q->t σ H Q):PE X e t':=λgV s σ H Q I q=>h gV s σ H Q I (w σ H Q q)
def PT.weak{X:Cx}{e:Expr}{t t':TT}(h:PT X e t)(w:∀σ H Q,t' σ H Q->t σ H Q):PT X e t':=λgV s σ H Q I q=>h gV s σ H Q I (w σ H Q q)
def PW.weak{X:Cx}{e:Expr}{t t':TT}(h:PW X e t)(w:∀σ H Q,t' σ H Q->t σ H Q):PW X e t':=λwh gV s σ H Q I q=>h wh gV s σ H Q I (w σ H Q q)
def PA.weak{X:Cx}{es:iE}{t t':TA}(h:PA X es t)(w:∀σ H Q,t' σ H Q->t σ H Q):PA X es t':=λpos gV s σ H Q I q=>h pos gV s σ H Q I (w σ H Q q)
def PS.weak{X:Cx}{e:Stmt}{t t':TS}(h:PS X e t)(w:∀D σ H,t' D σ H->t D σ H):PS X e t':=λgV s σ H Q I q=>h gV s σ H Q I (w Q σ H q)
def PSs.weak{X:Cx}{e:List Stmt}{t t':TS}(h:PSs X e t)(w:∀D σ H,t' D σ H->t D σ H):PSs X e t':=λgV s σ H Q I q=>h gV s σ H Q I (w Q σ H q)
def Za(i:Nat):FE:=λsl=>match sl[i]? with
 |some (some w)=>ret w
 |_=>WM
def fC(w:Wv):FE:=λ_=>ret w
section
variable{X:Cx}{E:XK}{e a b:Expr}{es:iE}{fa fb:FE}{pos:Pos}
def H9{i:Nat}(h:PE X e (tVar i)):PE X e (tE E (Za i)):=h.weak λσ H Q ⟨F,β,om,sl,M,V,R⟩=>by
 unfold Za at R
 match hw:sl[i]?,R with
 |some (some w),R=>
  obtain⟨v,e1,r⟩:=V.get i w hw;exact⟨v,e1,R.now M v r⟩
 |some none,R=>exact R.elim
 |none,R=>exact R.elim
def Gn{v:V}{w:Wv}(h:PE X e (tC v))(r:∀F β,RW F β w v):PE X e (tE E (fC w)):=h.weak λσ H Q ⟨F,β,om,sl,M,V,R⟩=>R.now M v (r F β)
def Zl{i j pos}:PE X (.Constant (.int i) j pos) (tE E (fC (.int i))):=Gn pe_int λ_ _=>.int i
def VN{i j pos}:PE X (.Constant (.bool i) j pos) (tE E (fC (.bl i))):=Gn pe_bl λ_ _=>.bl i
def Lm{j pos}:PE X (.Constant .none j pos) (tE E (fC .non)):=Gn pe_non λ_ _=>.non
def Xs{i j pos}:PE X (.Constant (.str i) j pos) (tE E (fC (.str i))):=Gn DX λ_ _=>.str i
def Zf(i:Nat){x:Str}{pos:Pos}(hN:X.N[i]?=some x:=by rfl)(hv:Vis X.env.scope x:=by first|exact Or.inl rfl|exact Or.inr (Or.inl rfl)|exact Or.inr (Or.inr rfl))(hd:(x == ("__debug__":Str))=false:=by decide)(jL:(x == ("__classdict__":Str))=false:=by decide):PE X (.Name x pos) (tE E (Za i)):=H9 (pe_var hN hv hd jL)
def f1(k:Wv->Mw Wv)(fa:FE):FE:=λsl=>bnd (fa sl) k
def f2(k:Wv->Wv->Mw Wv)(fa fb:FE):FE:=λsl=>bnd (fa sl) λx=>bnd (fb sl) λy=>k x y
def Op2(E:XK)(r:R2)(k:Wv->Wv->Mw Wv):Prop:=∀{F H:Hp} {β:h8} {om:iM} {x y:Wv} {v u:V} {Q:VK},MOk F H β om->RW F β x v->RW F β y u->Res E (k x y om) F H β (PV Q)->r v u H Q
def Op1(E:XK)(r:V->Hp->VK->Prop)(k:Wv->Mw Wv):Prop:=∀{F H:Hp} {β:h8} {om:iM} {x:Wv} {v:V} {Q:VK},MOk F H β om->RW F β x v->Res E (k x om) F H β (PV Q)->r v H Q
def MZ{r:R2}{k:Wv->Wv->Mw Wv}(hk:Op2 E r k){σ:St}{H:Hp}{Q:VK}(h:tE E (f2 k fa fb) σ H Q):tOp r (tE E fa) (tE E fb) σ H Q:=by
 obtain⟨F,β,om,sl,M,V,R⟩:=h;refine⟨F,β,om,sl,M,V,R.bind λx om1 F1 H1 ij g1 M1 R1 v rv=>?_⟩;refine⟨F1,ij,om1,sl,M1,V.mono g1.toGr,R1.bind λy om2 F2 H2 i8 g2 M2 R2 u ru=>?_⟩;exact hk M2 (rv.mono g2.toGr) ru R2
def CQ{r:V->Hp->VK->Prop}{k:Wv->Mw Wv}(hk:Op1 E r k){σ:St}{H:Hp}{Q:VK}(h:tE E (f1 k fa) σ H Q):tE E fa σ H λx H1=>r x H1 Q:=by
 obtain⟨F,β,om,sl,M,V,R⟩:=h;exact⟨F,β,om,sl,M,V,R.bind λx om1 F1 H1 ij g1 M1 R1 v rv=>hk M1 rv R1⟩
def K9{op:Operator}{r:R2}{k:Wv->Wv->Mw Wv}(ho:OpR X (binaryOp op) r)(hk:Op2 E r k)(ha:PE X a (tE E fa))(hb:PE X b (tE E fb)):PE X (.BinOp a op b pos) (tE E (f2 k fa fb)):=(FU ho ha hb).weak λ_ _ _ h=>MZ hk h
def MR{op:CmpOp}{r:R2}{k:Wv->Wv->Mw Wv}(ho:OpR X (compareOp op) r)(hk:Op2 E r k)(ha:PE X a (tE E fa))(hb:PE X b (tE E fb))(hm:behindInMarks op b=false):PE X (.Compare a [op] [b] pos) (tE E (f2 k fa fb)):=(BM ho ha hb hm).weak λ_ _ _ h=>MZ hk h
def kI(g:Int->Int->Wv):Wv->Wv->Mw Wv
 |.int i,.int j=>ret (g i j)
 |_,_=>WM
def kIc(c:Int->Int->Bool)(g:Int->Int->Wv):Wv->Wv->Mw Wv
 |.int i,.int j=>if c i j=true then ret (g i j) else WM
 |_,_=>WM
def Sr{g:Int->Int->V}{g':Int->Int->Wv}(hg:∀F β i j,RW F β (g' i j) (g i j)):Op2 E (rI0 g) (kI g'):=by
 intro F H β om x y v u Q M rx ry R;cases rx <;> first|exact R.elim|skip
 cases ry <;> first|exact R.elim|skip
 exact⟨_,_,rfl,rfl,R.now M _ (hg ..)⟩
def Dc{C:Int->Int->Prop}{c:Int->Int->Bool}{g:Int->Int->V}{g':Int->Int->Wv}(hc:∀i j,c i j=true->C i j)(hg:∀F β i j,RW F β (g' i j) (g i j)):Op2 E (rI C g) (kIc c g'):=by
 intro F H β om x y v u Q M rx ry R;cases rx <;> first|exact R.elim|skip
 cases ry <;> first|exact R.elim|skip
 rename_i i j
 have R:Res E ((if c i j=true then ret (g' i j) else WM) om) F H β (PV Q):=R;by_cases h:c i j=true
 ·rw[aC h]at R
  exact⟨_,_,rfl,rfl,hc _ _ h,R.now M _ (hg ..)⟩
 ·rw[aE h]at R
  exact R.elim
abbrev WJ:=kI λi j=>.int (i+j)
abbrev kSub:=kI λi j=>.int (i-j)
abbrev TL:=kIc (λ_ j=>decide (0<j∧j<1073741824)) λi j=>.int (i / j)
abbrev YY:=kIc (λ_ j=>decide (0<j)) λi j=>.int (i % j)
abbrev kLt:=kI λi j=>.bl (decide (i<j))
abbrev kGt:=kI λi j=>.bl (decide (j<i))
abbrev kGe:=kI λi j=>.bl (decide (j<=i))
def XA(ha:PE X a (tE E fa))(hb:PE X b (tE E fb)):PE X (.BinOp a .Add b pos) (tE E (f2 WJ fa fb)):=K9 op_add (Sr λ_ _ _ _=>.int _) ha hb
def qe_sub(ha:PE X a (tE E fa))(hb:PE X b (tE E fb)):PE X (.BinOp a .Sub b pos) (tE E (f2 kSub fa fb)):=K9 op_sub (Sr λ_ _ _ _=>.int _) ha hb
def UC(ha:PE X a (tE E fa))(hb:PE X b (tE E fb)):PE X (.BinOp a .FloorDiv b pos) (tE E (f2 TL fa fb)):=K9 Cz (Dc (λi j h=>bD h) λ_ _ _ _=>.int _) ha hb
def Y2(ha:PE X a (tE E fa))(hb:PE X b (tE E fb)):PE X (.BinOp a .Mod b pos) (tE E (f2 YY fa fb)):=K9 op_mod (Dc (λi j h=>bD h) λ_ _ _ _=>.int _) ha hb
def Ab(ha:PE X a (tE E fa))(hb:PE X b (tE E fb)):PE X (.Compare a [.Gt] [b] pos) (tE E (f2 kGt fa fb)):=MR AR (Sr λ_ _ _ _=>.bl _) ha hb (Uz _)
def qe_ge(ha:PE X a (tE E fa))(hb:PE X b (tE E fb)):PE X (.Compare a [.GtE] [b] pos) (tE E (f2 kGe fa fb)):=MR BZ (Sr λ_ _ _ _=>.bl _) ha hb (Uz _)
end
mutual
def VG(om:iM):Wv->Option PyData
 |.non=>some .none
 |.bl b=>some (.bool b)
 |.int i=>some (.int i)
 |.str x=>some (.str x)
 |.lst ws=>(pysOf om ws).map .list
 |.tup ws=>(pysOf om ws).map .tuple
 |.o _=>none
 |.g _=>none
def pysOf(om:iM):iI->Option (List PyData)
 |[]=>some []
 |w::r=>match VG om w,pysOf om r with
  |some d,some ds=>some (d::ds)
  |_,_=>none
end
def Xd(om:iM):Wv->Option PyData
 |.o h=>match om[h]? with
  |some (.lst ws)=>(pysOf om ws).map .list
  |_=>none
 |w=>VG om w
section
variable{X:Cx}{gV:g9}{σ:St}{F H:Hp}{s:Shared}{β:h8}{om:iM}
mutual
def RW.reads(I:Inv X gV σ H s)(sub:Same F H):∀{w:Wv} {v:V} {d:PyData} {u:Value},RW F β w v->VG om w=some d->RelV v u->∃as,Reads s.heap u d as
 |_,_,_,_,.non,e,r=>by unfold VG at e;cases e;cases r;exact⟨_,.none⟩
 |_,_,_,_,.bl b,e,r=>by unfold VG at e;cases e;cases r;exact⟨_,.bool b⟩
 |_,_,_,_,.int i,e,r=>by unfold VG at e;cases e;obtain⟨t,rfl⟩:=r;exact⟨_,.int i t⟩
 |_,_,_,_,.str x,e,r=>by unfold VG at e;cases e;obtain⟨t,rfl⟩:=r;exact⟨_,.str x t⟩
 |_,_,_,_,.lst (a:=a) (ws:=ws) q rs,e,r=>by
  unfold VG at e;cases r
  match hp:pysOf om ws,e with
  |some ds,e=>
   cases e;obtain⟨_,ik,n,rv,eo⟩:=(Rd.same sub q).ok I.hok;obtain⟨as,ra⟩:=RWs.reads I sub rs hp rv;exact⟨_,.list eo rfl rfl (by simpa using ra)⟩
 |_,_,_,_,.tup (a:=a) (ws:=ws) q rs,e,r=>by
  unfold VG at e;cases r
  match hp:pysOf om ws,e with
  |some ds,e=>
   cases e;obtain⟨_,ik,rv,o,eo,ec,n,ed⟩:=I.hok a _ (sub _ _ q);obtain⟨as,ra⟩:=RWs.reads I sub rs hp rv;exact⟨_,.tuple eo ec ed (by simpa using ra)⟩
 |_,_,_,_,.o _,e,r=>by unfold VG at e;cases e
 |_,_,_,_,.g _,e,r=>by unfold VG at e;cases e
def RWs.reads(I:Inv X gV σ H s)(sub:Same F H):∀{ws:iI} {vs:iH} {ds:List PyData} {us:iA},RWs F β ws vs->pysOf om ws=some ds->Vals vs us->∃as,ReadsAll s.heap us ds as
 |_,_,_,_,.nil,e,r=>by unfold pysOf at e;cases e;cases r;exact⟨_,.nil⟩
 |_,_,_,_,.cons (w:=w) (ws:=ws) h q,e,r=>by
  unfold pysOf at e;cases r with
  |cons r1 r2=>
   match h1:VG om w,h2:pysOf om ws,e with
   |some d,some ds,e=>
    cases e;obtain⟨as,ra⟩:=RW.reads I sub h h1 r1;obtain⟨bs,rb⟩:=RWs.reads I sub q h2 r2;exact⟨_,.cons ra rb⟩
end
def RW.readsTop(I:Inv X gV σ H s)(M:MOk F H β om){w:Wv}{v:V}{d:PyData}{u:Value}(jg:RW F β w v)(e:Xd om w=some d)(r:RelV v u):∃as,Reads s.heap u d as:=by
 match w,e with
 |.non,e=>exact jg.reads (om:=om) I M.sub e r
 |.bl _,e=>exact jg.reads (om:=om) I M.sub e r
 |.int _,e=>exact jg.reads (om:=om) I M.sub e r
 |.str _,e=>exact jg.reads (om:=om) I M.sub e r
 |.lst _,e=>exact jg.reads (om:=om) I M.sub e r
 |.tup _,e=>exact jg.reads (om:=om) I M.sub e r
 |.g _,e=>exact jg.reads (om:=om) I M.sub e r
 |.o h,e=>
  unfold Xd at e;dsimp only at e;split at e
  ·rename_i ws hw
   cases jg with
   |o eb=>
    obtain⟨a,ea,_,xs,hx,rs⟩:=M.at hw;rw[eb]at ea;cases ea;cases r
    match hp:pysOf om ws,e with
    |some ds,e=>
     cases e;obtain⟨_,ik,n,rv,eo⟩:=I.hok _ _ hx;obtain⟨as,ra⟩:=RWs.reads I M.sub rs hp rv;exact⟨_,.list eo rfl rfl (by simpa using ra)⟩
  ·cases e
end
def Wp(d:PyData):Bool:=d.canLay0&&decide (d.depth<=60)
def Wn(neg:Bool)(x y:Wv):Mw Wv:=λom=>match Xd om x,Xd om y with
 |some d,some e=>if (Wp d&&Wp e)=true then some (.ok (.bl (if neg then !PyData.eqv d e else PyData.eqv d e)),om) else none
 |_,_=>none
abbrev kEq:=Wn false
abbrev kNe:=Wn true
def rEqS(E:XK)(neg:Bool):R2:=λv u H Q=>∃F β om x y,MOk F H β om∧RW F β x v∧RW F β y u∧Res E (Wn neg x y om) F H β (PV Q)
section
variable{X:Cx}{E:XK}{a b:Expr}{fa fb:FE}{pos:Pos}
def Eg(hu:X.A.units+64<cLine):OpR X (compareOp .Eq) (rEqS E false):=by
 intro gV s σ H v u v' u' Q I rv ru h;obtain⟨F,β,om,x,y,M,rx,ry,R⟩:=h;unfold Wn at R
 match h1:Xd om x,h2:Xd om y,R with
 |some d,some e,R=>
  dsimp only at R;by_cases hl:(Wp d&&Wp e)=true
  ·rw[aC hl]at R
   obtain⟨l1,l2⟩:=bH.mp hl;obtain⟨c1,d1⟩:=bH.mp l1;obtain⟨c2,d2⟩:=bH.mp l2;obtain⟨as,ra⟩:=rx.readsTop I M h1 rv;obtain⟨bs,rb⟩:=ry.readsTop I M h2 ru;have:=bD d1;have:=bD d2;exact SeqAt.rcAt_reads ra rb c1 c2 (by omega) _ _ _ _ ⟨.bl _,H,I,rfl,R F H β (Gx.refl _ _ _) M _ (.bl _)⟩
  ·rw[aE hl]at R;exact R.elim
def Dl(hu:X.A.units+64<cLine):OpR X (compareOp .NotEq) (rEqS E true):=by
 intro gV s σ H v u v' u' Q I rv ru h;obtain⟨F,β,om,x,y,M,rx,ry,R⟩:=h;unfold Wn at R
 match h1:Xd om x,h2:Xd om y,R with
 |some d,some e,R=>
  dsimp only at R;by_cases hl:(Wp d&&Wp e)=true
  ·rw[aC hl]at R
   obtain⟨l1,l2⟩:=bH.mp hl;obtain⟨c1,d1⟩:=bH.mp l1;obtain⟨c2,d2⟩:=bH.mp l2;obtain⟨as,ra⟩:=rx.readsTop I M h1 rv;obtain⟨bs,rb⟩:=ry.readsTop I M h2 ru;have:=bD d1;have:=bD d2;exact SeqAt.compareNe_reads ra rb c1 c2 (by omega) ⟨.bl _,H,I,rfl,R F H β (Gx.refl _ _ _) M _ (.bl _)⟩
  ·rw[aE hl]at R;exact R.elim
def SQ(hu:X.A.units+64<cLine)(ha:PE X a (tE E fa))(hb:PE X b (tE E fb)):PE X (.Compare a [.Eq] [b] pos) (tE E (f2 kEq fa fb)):=MR (Eg (E:=E) hu) (λM rx ry R=>⟨_,_,_,_,_,M,rx,ry,R⟩) ha hb (Uz _)
def DM(hu:X.A.units+64<cLine)(ha:PE X a (tE E fa))(hb:PE X b (tE E fb)):PE X (.Compare a [.NotEq] [b] pos) (tE E (f2 kNe fa fb)):=MR (Dl (E:=E) hu) (λM rx ry R=>⟨_,_,_,_,_,M,rx,ry,R⟩) ha hb (Uz _)
end
end L2
namespace L2
noncomputable section
open PySem PySem.Spec PyProof.Rows
def kB:Wv->Mw Bool
 |.bl b=>ret b
 |_=>WM
def fB(f:FE):FT:=λsl=>bnd (f sl) kB
def VW(f g:FT):FT:=λsl=>bnd (f sl) λb=>if b=true then g sl else ret false
def fOr(f g:FT):FT:=λsl=>bnd (f sl) λb=>if b=true then ret true else g sl
def SM(f:FT):FT:=λsl=>bnd (f sl) λb=>ret (!b)
def Uf(f g:FE):FE:=λsl=>bnd (f sl) λx=>bnd (kB x) λb=>if b=true then g sl else ret (.bl false)
def Dt(c:FT)(f g:FE):FE:=λsl=>bnd (c sl) λb=>if b=true then f sl else g sl
def isNon:Wv->Bool
 |.non=>true
 |_=>false
def VE(x:Wv):Mw Wv:=ret (.bl (isNon x))
def UZ(x:Wv):Mw Wv:=ret (.bl (!isNon x))
def B3(x:Wv):Mw Wv:=bnd (kB x) λb=>ret (.bl (!b))
def RW.isNon{F:Hp}{β:h8}{w:Wv}{v:V}(r:RW F β w v):decide (v=.non)=L2.isNon w:=by
 cases r <;> first|rfl|(refine aJ ?_;intro z;cases z)
section
variable{X:Cx}{E:XK}{e a b c:Expr}{rest:iE}{f fa fb fc:FE}{g ga gb:FT}{pos:Pos}
def Res.kB{P:Bool->Hp->Hp->List Addr->Prop}{x:Wv}{v:V}{F H:Hp}{β:h8}{om:iM}(rv:RW F β x v)(M:MOk F H β om)(R:Res E (L2.kB x om) F H β P):∃b,x=.bl b∧v=.bl b∧P b F H β:=by
 cases rv <;> first|exact R.elim|skip
 exact⟨_,rfl,rfl,R.now M⟩
def Eo{σ:St}{H:Hp}{Q:Bool->Hp->Prop}(h:tT E (fB f) σ H Q):tE E f σ H λx H'=>∃c,x=.bl c∧Q c H':=by
 obtain⟨F,β,om,sl,M,V,R⟩:=h;refine⟨F,β,om,sl,M,V,R.bind λx om1 F1 H1 ij g1 M1 R1 v rv=>?_⟩;obtain⟨b,rfl,rfl,q⟩:=R1.kB rv M1;exact⟨b,rfl,q⟩
def U4{op:CmpOp}{r:R2}{k:Wv->Wv->Mw Wv}(ho:OpR X (compareOp op) r)(hk:Op2 E r k)(ha:PE X a (tE E fa))(hb:PE X b (tE E fb))(hm:behindInMarks op b=false):PT X (.Compare a [op] [b] pos) (tT E (fB (f2 k fa fb))):=
 (BC ho ha hb hm).weak λ_ _ _ h=>MZ hk (Eo h)
def HA(ha:PE X a (tE E fa))(hb:PE X b (tE E fb)):PT X (.Compare a [.Lt] [b] pos) (tT E (fB (f2 kLt fa fb))):=U4 op_lt (Sr λ_ _ _ _=>.bl _) ha hb (Uz _)
def Ae(ha:PE X a (tE E fa))(hb:PE X b (tE E fb)):PT X (.Compare a [.Gt] [b] pos) (tT E (fB (f2 kGt fa fb))):=U4 AR (Sr λ_ _ _ _=>.bl _) ha hb (Uz _)
def qt_ge(ha:PE X a (tE E fa))(hb:PE X b (tE E fb)):PT X (.Compare a [.GtE] [b] pos) (tT E (fB (f2 kGe fa fb))):=U4 BZ (Sr λ_ _ _ _=>.bl _) ha hb (Uz _)
def XO(hu:X.A.units+64<cLine)(ha:PE X a (tE E fa))(hb:PE X b (tE E fb)):PT X (.Compare a [.Eq] [b] pos) (tT E (fB (f2 kEq fa fb))):=U4 (Eg (E:=E) hu) (λM rx ry R=>⟨_,_,_,_,_,M,rx,ry,R⟩) ha hb (Uz _)
def Uc(hu:X.A.units+64<cLine)(ha:PE X a (tE E fa))(hb:PE X b (tE E fb)):PT X (.Compare a [.NotEq] [b] pos) (tT E (fB (f2 kNe fa fb))):=U4 (Dl (E:=E) hu) (λM rx ry R=>⟨_,_,_,_,_,M,rx,ry,R⟩) ha hb (Uz _)
def Hh:Op1 E (λx H1 Q=>Q (.bl (decide (x=.non))) H1) VE:=λM rx R=>by show(_:VK) (.bl (decide _)) _;rw[rx.isNon];exact R.now M _ (.bl _)
def Fv:Op1 E (λx H1 Q=>Q (.bl (!decide (x=.non))) H1) UZ:=λM rx R=>by show(_:VK) (.bl (!decide _)) _;rw[rx.isNon];exact R.now M _ (.bl _)
def qe_isN{j iQ}(ha:PE X a (tE E fa)):PE X (.Compare a [.Is] [.Constant .none j iQ] pos) (tE E (f1 VE fa)):=(Do (Ex ha)).weak λ_ _ _ h=>CQ Hh h
def U0{j iQ}(ha:PE X a (tE E fa)):PT X (.Compare a [.Is] [.Constant .none j iQ] pos) (tT E (fB (f1 VE fa))):=(Lu (Ex ha)).weak λ_ _ _ h=>CQ Hh (Eo h)
def QR{j iQ}(ha:PE X a (tE E fa)):PT X (.Compare a [.IsNot] [.Constant .none j iQ] pos) (tT E (fB (f1 UZ fa))):=(Lu (Cs ha)).weak λ_ _ _ h=>CQ Fv (Eo h)
def tT_and{σ:St}{H:Hp}{Q:Bool->Hp->Prop}(h:tT E (VW ga gb) σ H Q):tAnd (tT E ga) (tT E gb) σ H Q:=by
 obtain⟨F,β,om,sl,M,V,R⟩:=h;refine⟨F,β,om,sl,M,V,R.bind λx om1 F1 H1 ij g1 M1 R1=>?_⟩;cases x with
 |true=>rw[aC rfl]at R1 ⊢;exact⟨F1,ij,om1,sl,M1,V.mono g1.toGr,R1⟩
 |false=>rw[aE aH]at R1 ⊢;exact R1.now M1
def tT_or{σ:St}{H:Hp}{Q:Bool->Hp->Prop}(h:tT E (fOr ga gb) σ H Q):tOr (tT E ga) (tT E gb) σ H Q:=by
 obtain⟨F,β,om,sl,M,V,R⟩:=h;refine⟨F,β,om,sl,M,V,R.bind λx om1 F1 H1 ij g1 M1 R1=>?_⟩;cases x with
 |true=>rw[aC rfl]at R1 ⊢;exact R1.now M1
 |false=>rw[aE aH]at R1 ⊢;exact⟨F1,ij,om1,sl,M1,V.mono g1.toGr,R1⟩
def WZ(ha:PT X a (tT E ga)):PW X (.BoolOp .And [a] pos) (tT E ga):=C3 ha
def Su(ha:PT X a (tT E ga)):PW X (.BoolOp .Or [a] pos) (tT E ga):=pw_or1 ha
def Vq(ha:PT X a (tT E ga))(hb:PW X (.BoolOp .And (b::rest) pos) (tT E gb)):PW X (.BoolOp .And (a::b::rest) pos) (tT E (VW ga gb)):=(pw_and ha hb).weak λ_ _ _ h=>tT_and h
def On(ha:PT X a (tT E ga))(hb:PW X (.BoolOp .Or (b::rest) pos) (tT E gb)):PW X (.BoolOp .Or (a::b::rest) pos) (tT E (fOr ga gb)):=(pw_or ha hb).weak λ_ _ _ h=>tT_or h
def Oa(ha:PT X a (tT E ga)):PT X (.UnaryOp .Not a pos) (tT E (SM ga)):=(pt_not ha).weak λσ H Q ⟨F,β,om,sl,M,V,R⟩=>⟨F,β,om,sl,M,V,R.bind λx om1 F1 H1 ij g1 M1 R1=>R1.now M1⟩
def NW{op}(h:PE X a (tE E f)):PE X (.BoolOp op [a] pos) (tE E f):=pe_one h
def RQ(ha:PE X a (tE E fa))(hb:PE X (.BoolOp .And (b::rest) pos) (tE E fb)):PE X (.BoolOp .And (a::b::rest) pos) (tE E (Uf fa fb)):=(pe_and ha hb).weak λσ H Q ⟨F,β,om,sl,M,V,R⟩=>by
 refine⟨F,β,om,sl,M,V,R.bind λx om1 F1 H1 ij g1 M1 R1 v rv=>?_⟩
 have R2:Res E (L2.kB x om1) F1 H1 ij λy F' H' il=>(if y=true then tE E fb σ H' Q else Q (.bl false) H'):=R1.bind λy om2 F2 H2 i8 g2 M2 R2=>by
  cases y with
  |true=>rw[aC rfl]at R2 ⊢;exact⟨F2,i8,om2,sl,M2,V.mono (g1.trans g2).toGr,R2⟩
  |false=>rw[aE aH]at R2 ⊢;exact R2.now M2 _ (.bl _)
 obtain⟨c,rfl,rfl,q⟩:=R2.kB rv M1;exact⟨c,rfl,q⟩
def qe_not(ha:PE X a (tE E fa)):PE X (.UnaryOp .Not a pos) (tE E (f1 B3 fa)):=(pe_not ha).weak λσ H Q ⟨F,β,om,sl,M,V,R⟩=>by
 refine⟨F,β,om,sl,M,V,R.bind λx om1 F1 H1 ij g1 M1 R1 v rv=>?_⟩;have R2:Res E (L2.kB x om1) F1 H1 ij λy F' H' il=>Q (.bl (!y)) H':=R1.bind λy om2 F2 H2 i8 g2 M2 R2=>R2.now M2 _ (.bl _)
 obtain⟨c,rfl,rfl,q⟩:=R2.kB rv M1;exact⟨c,rfl,q⟩
def Dy(hc:PT X c (tT E ga))(ha:PE X a (tE E fa))(hb:PE X b (tE E fb)):PE X (.IfExp c a b pos) (tE E (Dt ga fa fb)):=(FN hc ha hb).weak λσ H Q ⟨F,β,om,sl,M,V,R⟩=>by
 refine⟨F,β,om,sl,M,V,R.bind λy om2 F2 H2 i8 g2 M2 R2=>?_⟩;cases y with
 |false=>rw[aE aH]at R2 ⊢;exact⟨F2,i8,om2,sl,M2,V.mono g2.toGr,R2⟩
 |true=>rw[aC rfl]at R2 ⊢;exact⟨F2,i8,om2,sl,M2,V.mono g2.toGr,R2⟩
end
def Xe(om:iM):Wv->Option (iI)
 |.lst ws=>some ws
 |.tup ws=>some ws
 |.o h=>match om[h]? with
  |some (.lst ws)=>some ws
  |_=>none
 |_=>none
noncomputable def limS:{n:Nat // n=100000}:=Classical.choice ⟨⟨100000,rfl⟩⟩
noncomputable def lim:Nat:=limS.1
def ZS:lim=100000:=limS.2
def UJ:lim<sizeLine:=by rw[ZS];decide
def Rw{X:Cx}{F H:Hp}{β:h8}{om:iM}{w:Wv}{v:V}{ws:iI}(M:MOk F H β om)(r:RW F β w v)(e:Xe om w=some ws):∃a xs,v=.ref a∧(SqL X.K H a xs∨SqT X.K H a xs)∧RWs F β ws xs:=by
 cases r with
 |lst q rs=>unfold Xe at e;cases e;exact⟨_,_,rfl,.inl (.inl (Rd.same M.sub q)),rs⟩
 |tup q rs=>unfold Xe at e;cases e;exact⟨_,_,rfl,.inr (SqT.of (M.sub _ _ q)),rs⟩
 |o eb=>
  rename_i h a
  have e:(match om[h]? with|some (.lst ws)=>some ws|_=>none)=some ws:=e
  match hx:om[h]?,e with
  |none,e=>exact nomatch e
  |some (.ins _ _),e=>exact nomatch e
  |some (.exc _),e=>exact nomatch e
  |some (.dz _),e=>exact nomatch e
  |some (.dk _),e=>exact nomatch e
  |some (.dt _),e=>exact nomatch e
  |some (.lst us),e=>
   have e:some us=some ws:=e;cases e;obtain⟨a',ea,_,xs,kd,rs⟩:=M.at hx;rw[eb]at ea;cases ea;exact⟨_,_,rfl,.inl (SqL.of kd),rs⟩
 |_=>unfold Xe at e;cases e
def RWs.atI{F:Hp}{β:h8}{ws:iI}{vs:iH}{i:Int}{w:Wv}(r:RWs F β ws vs)(e:L2.atI ws i=some w):∃v,L2.atI vs i=some v∧RW F β w v:=by
 unfold L2.atI at e ⊢;rw[← r.length]
 match hx:ixN ws.length i,e with
 |some j,e=>exact r.get e
def kIx(x i:Wv):Mw Wv:=λom=>match Xe om x,i with
 |some ws,.int k=>match atI ws k with
  |some w=>some (.ok w,om)
  |none=>none
 |_,_=>none
section
variable{X:Cx}{E:XK}{e a b c:Expr}{es:iE}{f fa fb fc:FE}{fs:FA}{pos:Pos}
def E3:Op2 E (rIx X.K) kIx:=by
 intro F H β om x y v u Q M rx ry R;unfold kIx at R
 match hx:Xe om x,y,ry,R with
 |none,_,_,R=>exact R.elim
 |some ws,.int i,.int _,R=>
  have R:Res E (match L2.atI ws i with|some w=>some (Except.ok w,om)|none=>none) F H β (PV Q):=R
  match ha:L2.atI ws i,R with
  |none,R=>exact R.elim
  |some w,R=>
   have R:Res E (ret w om) F H β (PV Q):=R;obtain⟨p,xs,rfl,hs,rs⟩:=Rw (X:=X) M rx hx;obtain⟨z,ez,rz⟩:=rs.atI ha;have q:=R.now M z rz;rcases hs with hs|hs
   ·exact .inl ⟨p,xs,i,z,rfl,rfl,hs,ez,q⟩
   ·exact .inr (.inl ⟨p,xs,i,z,rfl,rfl,hs,ez,q⟩)
def ZR(ha:PE X a (tE E fa))(hb:PE X b (tE E fb))(hs:Ml b:=by intro _ _;rfl):PE X (.Subscript a b pos) (tE E (f2 kIx fa fb)):=(Ai EE ha hb hs).weak λ_ _ _ h=>MZ E3 h
def Zi:FA:=λ_=>ret []
def Zc(f:FE)(r:FA):FA:=λsl=>bnd (f sl) λx=>bnd (r sl) λxs=>ret (x::xs)
def Zj:PA X [] (tA E Zi):=V8.weak λσ H Q ⟨F,β,om,sl,M,V,R⟩=>R.now M _ .nil
def Zd(ha:PE X e (tE E f))(hr:PA X es (tA E fs))(hs:starEach (e::es) X.env=(false,eval e X.env)::starEach es X.env:=by rfl):PA X (e::es) (tA E (Zc f fs)):=(Wz ha hr hs).weak λσ H Q ⟨F,β,om,sl,M,V,R⟩=>by
 refine⟨F,β,om,sl,M,V,R.bind λx om1 F1 H1 ij g1 M1 R1 v rv=>?_⟩;exact⟨F1,ij,om1,sl,M1,V.mono g1.toGr,R1.bind λxs om2 F2 H2 i8 g2 M2 R2 vs nG=>R2.now M2 _ (.cons (rv.mono g2.toGr) nG)⟩
def YW(ws:iI):Mw Wv:=if ws.length<=lim then ret (.tup ws) else WM
def ZQ(ws:iI):Mw Wv:=if ws.length<=lim then ret (.lst ws) else WM
def newO(x:Ob):Mw Wv:=λom=>some (.ok (.o om.length),om++[x])
def Xm(ws:iI):Mw Wv:=if ws.length<=lim then newO (.lst ws) else WM
def fA(k:iI->Mw Wv)(fs:FA):FE:=λsl=>bnd (fs sl) k
def Res.lay{c:Prop}[Decidable c]{m:Mw Wv}{om:iM}{F:Hp}{β:h8}{P:Wv->Hp->Hp->List Addr->Prop}(R:Res E ((if c then m else WM) om) F H β P):c∧Res E (m om) F H β P:=by
 by_cases h:c
 ·rw[aC h]at R;exact⟨h,R⟩
 ·rw[aE h]at R;exact R.elim
def Res.newO{x:Ob}{om:iM}{F H:Hp}{β:h8}{Q:VK}{p:Addr}{o:HO}(R:Res E (L2.newO x om) F H β (PV Q))(M:MOk F H β om)(hp:H p=none)(hx:∀il,Gr F F β il->ObR F (upd H p o) il p x):Q (.ref p) (upd H p o):=by
 obtain⟨g,M',e⟩:=M.newOx hp hx;exact R _ _ _ g M' _ (.o e)
def Yz{x1}(h:PA X es (tA E fs)):PE X (.Tuple es x1 pos) (tE E (fA YW fs)):=(pe_tup h).weak λσ H Q ⟨F,β,om,sl,M,V,R⟩=>by
 refine⟨F,β,om,sl,M,V,R.bind λws om1 F1 H1 ij g1 M1 R1 vs rs=>?_⟩;obtain⟨hl,R2⟩:=Res.lay R1;have hl2:=UJ;refine⟨by rw[← rs.length];omega,λp hp=>?_⟩;obtain⟨g,M'⟩:=M1.newFx (o:=.tup vs) hp;exact R2 _ _ _ g M' _ (.tup ZG (rs.mono g.toGr))
def RV(h:PA X es (tA E fs)):PE X (.List es pos) (tE E (fA ZQ fs)):=(Il h).weak λσ H Q ⟨F,β,om,sl,M,V,R⟩=>by
 refine⟨F,β,om,sl,M,V,R.bind λws om1 F1 H1 ij g1 M1 R1 vs rs=>?_⟩;obtain⟨hl,R2⟩:=Res.lay R1;have hl2:=UJ;refine⟨by rw[← rs.length];omega,λp hp=>?_⟩;obtain⟨g,M'⟩:=M1.newFx (o:=.lst vs) hp;exact R2 _ _ _ g M' _ (.lst (.inl ZG) (rs.mono g.toGr))
def N4(h:PA X es (tA E fs)):PE X (.List es pos) (tE E (fA Xm fs)):=(Il h).weak λσ H Q ⟨F,β,om,sl,M,V,R⟩=>by
 refine⟨F,β,om,sl,M,V,R.bind λws om1 F1 H1 ij g1 M1 R1 vs rs=>?_⟩;obtain⟨hl,R2⟩:=Res.lay R1;have hl2:=UJ;exact⟨by rw[← rs.length];omega,λp hp=>R2.newO M1 hp λil g=>⟨vs,ZG,rs.mono g⟩⟩
def chk(c:Bool):Mw Unit:=if c=true then ret () else WM
def Res.chk{γ:Type}{c:Bool}{k:Unit->Mw γ}{om:iM}{F:Hp}{β:h8}{P:γ->Hp->Hp->List Addr->Prop}(R:Res E (bnd (L2.chk c) k om) F H β P):c=true∧Res E (k () om) F H β P:=by
 cases c with
 |true=>exact⟨rfl,R⟩
 |false=>exact R.elim
def Res.chk2{γ α:Type}{c:Bool}{z:α}{k:α->Mw γ}{om:iM}{F:Hp}{β:h8}{P:γ->Hp->Hp->List Addr->Prop}(R:Res E (bnd (bnd (L2.chk c) λ_=>ret z) k om) F H β P):c=true∧Res E (k z om) F H β P:=by
 cases c with
 |true=>exact⟨rfl,R⟩
 |false=>exact R.elim
def DR(ws:iI)(y:Wv):Mw (iI):=match y with
 |.int k=>bnd (chk (decide (-(2 ^ 63)<=k∧k<2 ^ 63∧ws.length * k.toNat<=lim))) λ_=>ret (List.replicate k.toNat ws).flatten
 |_=>WM
def Bt(k:iI->Mw Wv)(fs:FA)(fb:FE):FE:=λsl=>bnd (fs sl) λws=>bnd (chk (decide (ws.length<=lim))) λ_=>bnd (fb sl) λy=>bnd (DR ws y) k
def Ur(E:XK)(k:iI->Mw Wv):Prop:=∀{ws:iI} {vs:iH} {om:iM} {F H:Hp} {β:h8} {Q:VK} {p:Addr},MOk F H β om->RWs F β ws vs->Res E (k ws om) F H β (PV Q)->vs.length<=lim∧(H p=none->Q (.ref p) (upd H p (.lst vs)))
def YE:Ur E ZQ:=λM rs R=>by
 obtain⟨hl,R2⟩:=Res.lay R;refine⟨by rw[← rs.length];exact hl,λhp=>?_⟩;obtain⟨g,M'⟩:=M.newFx (o:=.lst _) hp;exact R2 _ _ _ g M' _ (.lst (.inl ZG) (rs.mono g.toGr))
def RI:Ur E Xm:=λM rs R=>by
 obtain⟨hl,R2⟩:=Res.lay R;exact⟨by rw[← rs.length];exact hl,λhp=>R2.newO M hp λil g=>⟨_,ZG,rs.mono g⟩⟩
def qe_rep{k:iI->Mw Wv}(hk:Ur E k)(h:PA X es (tA E fs))(hb:PE X b (tE E fb)){p2:Pos}:PE X (.BinOp (.List es p2) .Mult b pos) (tE E (Bt k fs fb)):=(FU op_rep (Il h) hb).weak λσ H Q ⟨F,β,om,sl,M,V,R⟩=>by
 refine⟨F,β,om,sl,M,V,R.bind λws om1 F1 H1 ij g1 M1 R1 vs rs=>?_⟩;obtain⟨hl,R1⟩:=R1.chk;have hl:=bD hl;have iw:=UJ;have im:=rs.length;refine⟨by omega,λl hl=>?_⟩;obtain⟨g2,M2⟩:=M1.newFx (o:=.lst vs) hl;refine⟨_,ij,om1,sl,M2,V.mono (g1.trans g2).toGr,(Res.mono g2 R1).bind λy jd F3 H3 jq g3 M3 R3 u ru=>?_⟩;have hH3:H3 l=some (.lst vs):=M3.sub _ _ (g3.same _ _ ZG);cases ru with
 |int i=>
  obtain⟨hc,R4⟩:=Res.chk2 R3;obtain⟨h1,h2,h3⟩:=bD hc;refine⟨l,i,vs,rfl,rfl,hH3,h1,h2,by rw[← im];omega,λp hp=>?_⟩;exact(hk M3 ((rs.mono (g2.trans g3).toGr).rep i.toNat) R4).2 hp
 |_=>exact R3.elim
end
def Hn(om:iM):Wv->Option Bool
 |.non=>some false
 |.bl b=>some b
 |.int i=>some (i != 0)
 |.lst ws=>some (!ws.isEmpty)
 |.tup ws=>some (!ws.isEmpty)
 |.o h=>match om[h]? with
  |some (.lst ws)=>some (!ws.isEmpty)
  |some (.dk kvs)=>some (!kvs.isEmpty)
  |_=>none
 |_=>none
def kTru(x:Wv):Mw Bool:=λom=>match Hn om x with
 |some b=>some (.ok b,om)
 |none=>none
def Xb(f:FE):FT:=λsl=>bnd (f sl) kTru
def RWs.isEmpty{F:Hp}{β:h8}{ws:iI}{vs:iH}(r:RWs F β ws vs):(!ws.isEmpty)=!vs.isEmpty:=by cases r <;> rfl
def RK.isEmpty{F:Hp}{β:h8}{κ:Type}{ws:List (κ × Wv)}{vs:List (κ × V)}(r:RK F β ws vs):(!ws.isEmpty)=!vs.isEmpty:=by cases r <;> rfl
def Fg{K:g8}{F H:Hp}{β:h8}{om:iM}{w:Wv}{v:V}{b:Bool}(M:MOk F H β om)(r:RW F β w v)(e:Hn om w=some b):TruV K v H b:=by
 cases r with
 |non=>cases e;rfl
 |bl c=>cases e;rfl
 |int i=>cases e;rfl
 |str x=>cases e
 |g _=>cases e
 |lst q rs=>cases e;exact .inl ⟨_,.inl (Rd.same M.sub q),rs.isEmpty⟩
 |tup q rs=>cases e;exact .inr (.inl ⟨_,SqT.of (M.sub _ _ q),rs.isEmpty⟩)
 |o eb=>
  rename_i h a
  have e:(match om[h]? with|some (.lst ws)=>some (!ws.isEmpty)|some (.dk kvs)=>some (!kvs.isEmpty)|_=>none)=some b:=e
  match hx:om[h]?,e with
  |none,e=>exact nomatch e
  |some (.ins _ _),e=>exact nomatch e
  |some (.exc _),e=>exact nomatch e
  |some (.dz _),e=>exact nomatch e
  |some (.dt _),e=>exact nomatch e
  |some (.dk kvs),e=>
   have e:some (!kvs.isEmpty)=some b:=e;obtain⟨a',ea,_,ks,hk,rs⟩:=M.at hx;rw[eb]at ea;cases ea;cases e;exact .inr (.inr ⟨ks,hk,rs.isEmpty⟩)
  |some (.lst ws),e=>
   have e:some (!ws.isEmpty)=some b:=e;obtain⟨a',ea,_,xs,kd,rs⟩:=M.at hx;rw[eb]at ea;cases ea;cases e;exact .inl ⟨xs,SqL.of kd,rs.isEmpty⟩
section
variable{X:Cx}{E:XK}{e a b c o:Expr}{es:iE}{f fa fb fc:FE}{fs:FA}{pos p2:Pos}
def Xz(ha:PE X a (tE E fa))(he:∀whole,isTrue a X.env whole=(do let v ← whole;standAt a.pos;holding [v] (truthy v)):=by intro _;rfl):PT X a (tT E (Xb fa)):=(Eu ha he).weak λσ H Q ⟨F,β,om,sl,M,V,R⟩=>by
 refine⟨F,β,om,sl,M,V,R.bind λx om1 F1 H1 ij g1 M1 R1 v rv=>?_⟩;unfold kTru at R1
 match hx:Hn om1 x,R1 with
 |none,R1=>exact R1.elim
 |some b,R1=>exact⟨b,Fg M1 rv hx,(show Res E (ret b om1) F1 H1 ij _ from R1).now M1⟩
def UW:Wv->Bool
 |.non|.bl _|.int _|.str _=>true
 |_=>false
def toV:Wv->V
 |.non=>.non
 |.bl b=>.bl b
 |.int i=>.int i
 |.str x=>.str x
 |_=>.non
def RW.flat{F:Hp}{β:h8}{w:Wv}{v:V}(r:RW F β w v)(h:UW w=true):v=toV w∧TN v=true:=by
 cases r <;> first|exact⟨rfl,rfl⟩|cases h
def RWs.flat{F:Hp}{β:h8}:∀{ws:iI} {vs:iH},RWs F β ws vs->ws.all UW=true->vs=ws.map toV∧vs.all TN=true
 |_,_,.nil,_=>⟨rfl,rfl⟩
 |_,_,.cons h r,e=>by
  rw[gv,cf]at e;obtain⟨h1,h2⟩:=h.flat e.1;obtain⟨h3,h4⟩:=RWs.flat r e.2;exact⟨by rw[aU,← h1,← h3],by rw[gv,h2,h4];rfl⟩
def Tj(neg:Bool)(x y:Wv):Mw Wv:=λom=>match Xe om y with
 |some ws=>if (UW x&&ws.all UW)=true then some (.ok (.bl (if neg then !inV (toV x) (ws.map toV) else inV (toV x) (ws.map toV))),om) else none
 |none=>none
def Dk{neg:Bool}:Op2 E (rIn X.K neg) (Tj neg):=by
 intro F H β om x y v u Q M rx ry R;unfold Tj at R
 match hy:Xe om y,R with
 |none,R=>exact R.elim
 |some ws,R=>
  dsimp only at R;by_cases hc:(UW x&&ws.all UW)=true
  ·rw[aC hc]at R
   obtain⟨h1,h2⟩:=bH.mp hc;obtain⟨p,xs,rfl,hs,rs⟩:=Rw (X:=X) M ry hy;obtain⟨e1,e2⟩:=rx.flat h1;obtain⟨e3,e4⟩:=rs.flat h2;refine⟨p,xs,rfl,hs,e2,e4,?_⟩;rw[e1,e3];exact(show Res E (ret (Wv.bl _) om) F H β (PV Q) from R).now M _ (.bl _)
  ·rw[aE hc]at R;exact R.elim
def D0(ha:PE X a (tE E fa))(hb:PE X b (tE E fb))(hm:behindInMarks .In b=false:=by with_unfolding_all rfl):PT X (.Compare a [.In] [b] pos) (tT E (fB (f2 (Tj false) fa fb))):=U4 GA (Dk (X:=X)) ha hb hm
def Lf(ha:PE X a (tE E fa))(hb:PE X b (tE E fb))(hm:behindInMarks .NotIn b=false:=by with_unfolding_all rfl):PT X (.Compare a [.NotIn] [b] pos) (tT E (fB (f2 (Tj true) fa fb))):=U4 Mb (Dk (X:=X)) ha hb hm
def RK.lookup{F:Hp}{β:h8}{k:Str}:∀{ps:iJ} {qs:List (Str × V)},RK F β ps qs->match ps.lookup k with|some w=>∃v,qs.lookup k=some v∧RW F β w v|none=>qs.lookup k=none
 |_,_,.nil=>rfl
 |_,_,.cons (k:=k') h r=>by
  rw[aK,aK];cases (k == k') with
  |true=>exact⟨_,rfl,h⟩
  |false=>exact RK.lookup r
def RK.length{F:Hp}{β:h8}{κ:Type}:∀{ps:List (κ × Wv)} {qs:List (κ × V)},RK F β ps qs->ps.length=qs.length
 |_,_,.nil=>rfl
 |_,_,.cons _ r=>by rw[bG,bG,RK.length r]
def TX(om:iM):Wv->Option (Addr × iJ)
 |.o h=>match om[h]? with
  |some (.ins C fs)=>some (C,fs)
  |_=>none
 |_=>none
def Np{F H:Hp}{β:h8}{om:iM}{w:Wv}{v:V}{C:Addr}{fs:iJ}(M:MOk F H β om)(r:RW F β w v)(e:TX om w=some (C,fs)):∃h a dx jf,w=.o h∧om[h]?=some (.ins C fs)∧β[h]?=some a∧v=.ref a∧H a=some (.ins C dx jf)∧RK F β fs jf:=by
 cases r with
 |o eb=>
  rename_i h a
  have e:(match om[h]? with|some (.ins C fs)=>some (C,fs)|_=>none)=some (C,fs):=e
  match hx:om[h]?,e with
  |none,e=>exact nomatch e
  |some (.lst _),e=>exact nomatch e
  |some (.exc _),e=>exact nomatch e
  |some (.dz _),e=>exact nomatch e
  |some (.dt _),e=>exact nomatch e
  |some (.dk kvs),e=>exact nomatch e
  |some (.ins C' jf),e=>
   have e:some (C',jf)=some (C,fs):=e;cases e;obtain⟨a',ea,_,dx,nH,kd,rs⟩:=M.at hx;have ea2:=ea;rw[eb]at ea;cases ea;exact⟨h,_,dx,nH,rfl,hx,ea2,rfl,kd,rs⟩
 |_=>exact nomatch e
def ZI(C:Addr)(n:Str)(x:Wv):Mw Wv:=λom=>match TX om x with
 |some (C',fs)=>if C'=C then (match fs.lookup n with|some w=>some (.ok w,om)|none=>none) else none
 |none=>none
def qe_fld{C:Addr}{n:Str}(cl:Cls X.K C)(na:NoAttr X.K C n)(he:PE X e (tE E f))(hb:attributeBase e n X.env (eval e X.env)=eval e X.env:=by rfl):PE X (.Attribute e n pos) (tE E (f1 (ZI C n) f)):=(pe_fld he hb).weak λσ H Q h=>by
 refine CQ (r:=λx H1 Q=>∃a C dx fs v,x=.ref a∧H1 a=some (.ins C dx fs)∧Cls X.K C∧NoAttr X.K C n∧fs.lookup n=some v∧Q v H1) ?_ h;intro F H β om x v Q M rx R;unfold ZI at R
 match hx:TX om x,R with
 |none,R=>exact R.elim
 |some (C',fs),R=>
  dsimp only at R;by_cases hc:C'=C
  ·have R1:Res E (match fs.lookup n with|some w=>some (Except.ok w,om)|none=>none) F H β (PV Q):=by
    have:=R;rw[aC hc]at this;exact this
   clear R;subst hc;obtain⟨h,a,dx,jf,_,_,_,rfl,ha,rs⟩:=Np M rx hx;have lk:=rs.lookup (k:=n)
   match hl:fs.lookup n,R1,lk with
   |none,R,_=>exact R.elim
   |some w,R,⟨v,ev,rv⟩=>exact⟨a,C',dx,jf,v,rfl,ha,cl,na,ev,(show Res E (ret w om) F H β (PV Q) from R).now M v rv⟩
  ·rw[aE hc]at R;exact R.elim
def Qo(E:XK)(r:iH->Hp->VK->Prop)(k:iI->Mw Wv):Prop:=∀{F H:Hp} {β:h8} {om:iM} {ws:iI} {vs:iH} {Q:VK},MOk F H β om->RWs F β ws vs->Res E (k ws om) F H β (PV Q)->r vs H Q
def tA_K{r:iH->Hp->VK->Prop}{k:iI->Mw Wv}(hk:Qo E r k){σ:St}{H:Hp}{Q:VK}(h:tE E (fA k fs) σ H Q):tCB r (tA E fs) σ H Q:=by
 obtain⟨F,β,om,sl,M,V,R⟩:=h;exact⟨F,β,om,sl,M,V,R.bind λws om1 F1 H1 ij g1 M1 R1 vs rs=>hk M1 rs R1⟩
def Up{id:String}{x:Str}{p:Pos}{r:iH->Hp->VK->Prop}{k:iI->Mw Wv}(hc:CallR X (.builtin id) r)(hk:Qo E r k)(hg:Gl X x)(hm:X.mg x=none)(hv:bootBuiltins x=some (.builtin id))(ha:PA X (e::es) (tA E fs))(hn:x≠"__name__":=by decide)(jn:(x == ("__debug__":Str))=false:=by decide)(he:starEach (e::es) X.env=(false,eval e X.env)::starEach es X.env:=by rfl) (iO:(backTo pos (starEach es X.env)).any (·.1)=false:=by rfl):PE X (.Call (.Name x p) (e::es) [] pos) (tE E (fA k fs)):=(OB hc hg hm hv ha hn jn he iO).weak λ_ _ _ h=>tA_K hk h
def XW(ws:iI):Mw Wv:=λom=>match ws with
 |[x]=>match Xe om x with
  |some us=>some (.ok (.int us.length),om)
  |none=>match x with
   |.o h=>match om[h]? with
    |some (.dk kvs)=>some (.ok (.int kvs.length),om)
    |_=>none
   |_=>none
 |_=>none
def G5:Qo E (λxs H Q=>(∃p ys,xs=[.ref p]∧(SqL X.K H p ys∨SqT X.K H p ys)∧Q (.int ys.length) H)∨∃a kvs,xs=[V.ref a]∧H a=some (.dK kvs)∧Q (.int kvs.length) H) XW:=by
 intro F H β om ws vs Q M rs R
 match ws,rs,R with
 |[],_,R=>exact R.elim
 |_::_::_,_,R=>exact R.elim
 |[x],.cons rx .nil,R=>
  unfold XW at R;dsimp only at R
  match hx:Xe om x,R with
  |some us,R=>
   obtain⟨p,xs,rfl,hs,r2⟩:=Rw (X:=X) M rx hx;refine .inl ⟨p,xs,rfl,hs,?_⟩;rw[← r2.length];exact(show Res E (ret (Wv.int _) om) F H β (PV Q) from R).now M _ (.int _)
  |none,R=>
   cases rx with
   |@o h a eb=>
    have R:Res E (match om[h]? with|some (.dk kvs)=>some (Except.ok (Wv.int kvs.length),om)|_=>none) F H β (PV Q):=R
    match hy:om[h]?,R with
    |none,R=>exact R.elim
    |some (.ins _ _),R=>exact R.elim
    |some (.exc _),R=>exact R.elim
    |some (.dz _),R=>exact R.elim
    |some (.dt _),R=>exact R.elim
    |some (.lst _),R=>exact R.elim
    |some (.dk kvs),R=>
     obtain⟨a',ea,_,ks,hk,r2⟩:=M.at hy;rw[eb]at ea;cases ea;refine .inr ⟨_,ks,rfl,hk,?_⟩;rw[← r2.length];exact(show Res E (ret (Wv.int _) om) F H β (PV Q) from R).now M _ (.int _)
   |_=>exact R.elim
def WU{p:Pos}(hg:Gl X "len")(hm:X.mg "len"=none)(ha:PA X [e] (tA E fs))(he:starEach [e] X.env=(false,eval e X.env)::starEach [] X.env:=by rfl)(iO:(backTo pos (starEach [] X.env)).any (·.1)=false:=by rfl):PE X (.Call (.Name "len" p) [e] [] pos) (tE E (fA XW fs)):=Up (Mp.or HE) (G5 (X:=X)) hg hm PySem.boot_len ha (by decide) (by decide) he iO
end
section
variable{X:Cx}{E:XK}{e a b c o:Expr}{es:iE}{f fa fb fc fo:FE}{fs:FA}{pos p2 p p':Pos}
def spM(n:Nat)(g:iI->Mw Wv):Sp:=λvs H Q E=>∃F β om ws,MOk F H β om∧RWs F β ws vs∧ws.length=n∧Res E (g ws om) F H β (PV Q)
def kN(n:Nat)(g:iI->Mw Wv)(ws:iI):Mw Wv:=bnd (chk (decide (ws.length=n))) λ_=>g ws
def Mi{n:Nat}{g:iI->Mw Wv}{F H:Hp}{β:h8}{om:iM}{ws:iI}{vs:iH}{Q:VK}(M:MOk F H β om)(rs:RWs F β ws vs)(R:Res E (kN n g ws om) F H β (PV Q)):spM n g vs H Q E:=by
 obtain⟨hc,R⟩:=Res.chk R;exact⟨F,β,om,ws,M,rs,bD hc,R⟩
variable{CX:CXT}{k n:Nat}{fn C:Addr}{fd:FuncData}{ps:iD}{g:iI->Mw Wv}{x m:Str}
def CD(G:FnOk X.prog X.w X.K X.mg X.base CX k fn fd ps (spM n g))(hr:Room k X.A)(hg:Gl X x)(hm:X.mg x=some (.ref fn))(hk:PySem.W.keepIn X.K (.ref fn)=true)(hb:Binds X.K fd ps [])(hx:XR CX X E)(ha:PA X (e::es) (tA E fs)) (jn:(x == ("__debug__":Str))=false:=by decide) (he:starEach (e::es) X.env=(false,eval e X.env)::starEach es X.env:=by rfl) (iO:(backTo pos (starEach es X.env)).any (·.1)=false:=by rfl):PE X (.Call (.Name x p) (e::es) [] pos) (tE E (fA (kN n g) fs)):=(CT G hr hg hm hk hb .nil hx ha jn he iO).weak λσ H Q ⟨F,β,om,sl,M,V,R⟩=>by
 refine⟨F,β,om,sl,M,V,R.bind λws om1 F1 H1 ij g1 M1 R1 vs rs=>?_⟩;show spM n g (vs++[]) H1 Q E;rw[ce];exact Mi M1 rs R1
def Cd(C:Addr)(m:Str)(x:Wv):Mw Unit:=λom=>match TX om x with
 |some (C',fs)=>if C'=C∧fs.lookup m=none then some (.ok (),om) else none
 |none=>none
def KZ{γ:Type}{k:Unit->Mw γ}{F H:Hp}{β:h8}{om:iM}{w:Wv}{v:V}{P:γ->Hp->Hp->List Addr->Prop}(M:MOk F H β om)(r:RW F β w v)(R:Res E (bnd (Cd C m w) k om) F H β P):∃a dx jf,v=.ref a∧H a=some (.ins C dx jf)∧jf.lookup m=none∧Res E (k () om) F H β P:=by
 unfold bnd Cd at R
 match hx:TX om w,R with
 |none,R=>exact R.elim
 |some (C',fs),R=>
  dsimp only at R;by_cases hc:C'=C∧fs.lookup m=none
  ·have R1:Res E (k () om) F H β P:=by
    have:=R;rw[aC hc]at this;exact this
   clear R;obtain⟨h,a,dx,jf,_,_,_,rfl,ha,rs⟩:=Np M r hx;obtain⟨rfl,hl⟩:=hc;have lk:=rs.lookup (k:=m);rw[hl]at lk;exact⟨a,dx,jf,rfl,ha,lk,R1⟩
  ·rw[aE hc]at R;exact R.elim
def Zn(C:Addr)(m:Str)(n:Nat)(g:iI->Mw Wv)(fo:FE)(fs:FA):FE:=λsl=>bnd (fo sl) λx=>bnd (Cd C m x) λ_=>bnd (fs sl) λws=>kN n g (x::ws)
def Cf{dvs:iH}{σ:St}{H:Hp}{Q:VK}(h:tE E (Zn C m n g fo fs) σ H Q):EN C m (spM n g) [] E (tE E fo) (tA E fs) σ H Q:=by
 obtain⟨F,β,om,sl,M,V,R⟩:=h;refine⟨F,β,om,sl,M,V,R.bind λx om1 F1 H1 ij g1 M1 R1 v rv=>?_⟩;obtain⟨a,dx,jf,rfl,ha,hl,R2⟩:=KZ M1 rv R1;refine⟨a,dx,jf,rfl,ha,hl,F1,ij,om1,sl,M1,V.mono g1.toGr,R2.bind λws jd F3 H3 jq g3 M3 R3 vs rs=>?_⟩;show spM n g (L2.V.ref a::(vs++[])) H3 Q E;rw[ce];exact Mi M3 (.cons (rv.mono g3.toGr) rs) R3
def Ck{pl:Sem Bool}{ip:Pos}(ho:PE X o (tE E fo))(c:Cls X.K C)(hm:Meth X.K C m fn)(G:FnOk X.prog X.w X.K X.mg X.base CX k fn fd ps (spM n g))(hr:Room k X.A)(hb:Binds X.K fd ps [])(hx:XR CX X E)(ha:PA X (e::es) (tA E fs))(jD:starEach (e::es) X.env=(false,eval e X.env)::starEach es X.env:=by rfl) (iO:(backTo pos (starEach es X.env)).any (·.1)=false:=by rfl)(ht:eval (.Call (.Attribute o m ip) (e::es) [] pos) X.env=(do
     let ov ← eval o X.env
     standAt ip.atName
     let (f,first) ← holding [ov] (getMethod ov m pl)
     callWith pos f first (backTo pos (starEach (e::es) X.env)) (backToKw pos (keywordEach [] X.env))):=by rfl):
    PE X (.Call (.Attribute o m ip) (e::es) [] pos) (tE E (Zn C m n g fo fs)):=(Cl ho c hm G hr hb .nil hx ha jD iO ht).weak λσ H Q h=>Cf (dvs:=[]) h
def Fr{pl:Sem Bool}{ip:Pos}(ho:PE X o (tE E fo))(c:Cls X.K C)(hm:Meth X.K C m fn)(G:FnOk X.prog X.w X.K X.mg X.base CX k fn fd ps (spM n g))(hr:Room k X.A)(hb:Binds X.K fd ps [])(hx:XR CX X E)(ht:eval (.Call (.Attribute o m ip) [] [] pos) X.env=(do
     let ov ← eval o X.env
     standAt ip.atName
     let (f,first) ← holding [ov] (getMethod ov m pl)
     callWith pos f first (backTo pos (starEach [] X.env)) (backToKw pos (keywordEach [] X.env))):=by rfl):
    PE X (.Call (.Attribute o m ip) [] [] pos) (tE E (Zn C m n g fo Zi)):=(D1 ho c hm G hr hb .nil hx (ht:=ht)).weak λσ H Q ⟨F,β,om,sl,M,V,R⟩=>by
 refine⟨F,β,om,sl,M,V,R.bind λx om1 F1 H1 ij g1 M1 R1 v rv=>?_⟩;obtain⟨a,dx,jf,rfl,ha,hl,R2⟩:=KZ M1 rv R1;exact⟨a,dx,jf,rfl,ha,hl,Mi M1 (.cons rv .nil) R2⟩
def XN(C:Addr)(n:Nat)(g:iI->Mw Wv)(ws:iI):Mw Wv:=λom=>bnd (kN n g (.o om.length::ws)) (λr=>match r with|.non=>ret (.o om.length)|_=>WM) (om++[.ins C []])
def MOk.newU{F H:Hp}{β:h8}{om:iM}{p:Addr}{o:HO}(M:MOk F H β om)(hp:H p=none):MOk F (upd H p o) β om:=by
 have ne:∀(h:Nat) (a:Addr),β[h]?=some a->a≠p:=λh a e z=>by
  obtain⟨y,hy⟩:=M.there e;rw[z,hp]at hy;cases hy
 exact⟨λb u e=>by rw[ZA (Z5 (M.sub _ _ e) hp)];exact M.sub b u e,M.nd,M.len,M.free,λh a x e1 e2=>(M.ob h a x e1 e2).mono (Gr.refl _ _) (ZA (ne h a e1))⟩
def make_K{F H:Hp}{β:h8}{om:iM}{ws:iI}{vs:iH}{Q:VK}{y dx:Addr}(M:MOk F H β om)(rs:RWs F β ws vs)(R:Res E (XN C n g ws om) F H β (PV Q))(hx:H y=none)(mT:H dx=none)(jb:dx≠y):spM n g (.ref y::(vs++[])) (upd (upd H dx (.own y)) y (.ins C dx [])) (λv H2=>v=.non∧Q (.ref y) H2) E:=by
 have M1:=M.newU (o:=.own y) mT;have g0:=M.gxU (o:=.own y) mT;obtain⟨g2,M2,e2⟩:=M1.newOx (p:=y) (o:=.ins C dx []) (x:=.ins C []) (by rw[ZA jb.symm];exact hx) λil _=>⟨dx,[],ZG,.nil⟩
 rw[ce];refine Mi M2 (.cons (.o e2) (rs.mono g2.toGr)) ((Res.mono (g0.trans g2) R).bind λr jd F3 H3 jq g3 M3 R3 v rv=>?_);cases rv with
 |non=>exact⟨rfl,(show Res E (ret (Wv.o om.length) jd) F3 H3 jq (PV Q) from R3).now M3 _ (.o (g3.pre _ _ e2))⟩
 |_=>exact R3.elim
def CC(nI:Mk X.K C fn)(G:FnOk X.prog X.w X.K X.mg X.base CX k fn fd ps (spM n g))(hr:Room (k+1) X.A)(hg:Gl X x)(hm:X.mg x=some (.ref C))(hb:Binds X.K fd ps [])(hx:XR CX X E)(ha:PA X (e::es) (tA E fs)) (jn:(x == ("__debug__":Str))=false:=by decide) (he:starEach (e::es) X.env=(false,eval e X.env)::starEach es X.env:=by rfl) (iO:(backTo pos (starEach es X.env)).any (·.1)=false:=by rfl):PE X (.Call (.Name x p) (e::es) [] pos) (tE E (fA (XN C n g) fs)):=(C0 nI G hr hg hm hb .nil hx ha jn he iO).weak λσ H Q ⟨F,β,om,sl,M,V,R⟩=>
 ⟨F,β,om,sl,M,V,R.bind λws om1 F1 H1 ij g1 M1 R1 vs rs y dx h1 h2 h3=>make_K M1 rs R1 h1 h2 h3⟩
def VB(om:iM):Wv->Option (Nat × iI)
 |.o h=>match om[h]? with
  |some (.lst ws)=>some (h,ws)
  |_=>none
 |_=>none
def TJ{F H:Hp}{β:h8}{om:iM}{w:Wv}{v:V}{h:Nat}{ws:iI}(M:MOk F H β om)(r:RW F β w v)(e:VB om w=some (h,ws)):∃a xs,w=.o h∧om[h]?=some (.lst ws)∧β[h]?=some a∧v=.ref a∧H a=some (.lst xs)∧RWs F β ws xs:=by
 cases r with
 |@o h' a eb=>
  have e:(match om[h']? with|some (.lst ws)=>some (h',ws)|_=>none)=some (h,ws):=e
  match hx:om[h']?,e with
  |none,e=>exact nomatch e
  |some (.ins _ _),e=>exact nomatch e
  |some (.exc _),e=>exact nomatch e
  |some (.dz _),e=>exact nomatch e
  |some (.dt _),e=>exact nomatch e
  |some (.dk kvs),e=>exact nomatch e
  |some (.lst us),e=>
   have e:some (h',us)=some (h,ws):=e;cases e;obtain⟨a',ea,_,xs,kd,rs⟩:=M.at hx;have ea2:=ea;rw[eb]at ea;cases ea;exact⟨_,xs,rfl,hx,ea2,rfl,kd,rs⟩
 |_=>exact nomatch e
def HF(x:Wv):Mw Unit:=λom=>match VB om x with
 |some _=>some (.ok (),om)
 |none=>none
def KR{γ:Type}{k:Unit->Mw γ}{F H:Hp}{β:h8}{om:iM}{w:Wv}{v:V}{P:γ->Hp->Hp->List Addr->Prop}(M:MOk F H β om)(r:RW F β w v)(R:Res E (bnd (HF w) k om) F H β P):tyV X.K "list" v H∧Res E (k () om) F H β P:=by
 unfold bnd HF at R
 match hx:VB om w,R with
 |none,R=>exact R.elim
 |some (h,ws),R=>
  obtain⟨a,xs,_,_,_,rfl,ha,_⟩:=TJ M r hx;exact⟨.inl ⟨rfl,xs,SqL.of ha⟩,R⟩
def kApp(x y:Wv):Mw Wv:=λom=>match VB om x with
 |some (h,ws)=>if ws.length<lim then some (.ok .non,om.set h (.lst (ws++[y]))) else none
 |none=>none
def MB(fo f:FE):FE:=λsl=>bnd (fo sl) λx=>bnd (HF x) λ_=>bnd (f sl) λy=>kApp x y
def Uq{ip io:Pos}(ho:PE X o (tE E fo))(he:PE X e (tE E f))(iZ:attributeBase o "append" X.env (eval o X.env)=eval o X.env:=by rfl)(je:((backTo io (starEach [e] X.env)).all (λx=>!x.1)&&(backToKw io (keywordEach [] X.env)).all (λx=>x.1.isSome)
     && decide (([e]:iE).length+([]:List Keyword).length+(if ([]:List Keyword).isEmpty then 0 else 1)<30))=true:=by rfl)
    (i4:(ip.endLine == io.line)=true:=by rfl) (hs:starEach [e] X.env=(false,eval e X.env)::starEach [] X.env:=by rfl) (ja:(backTo io (starEach [] X.env)).any (·.1)=false:=by rfl):
    PE X (.Call (.Attribute o "append" ip) [e] [] io) (tE E (MB fo f)):=(Di fI PySem.F.slot_list_append PySem.F.type_list_append HM ho (Wz he V8 hs) iZ je i4 hs ja).weak λσ H Q ⟨F,β,om,sl,M,V,R⟩=>by
 refine⟨F,β,om,sl,M,V,R.bind λx om1 F1 H1 ij g1 M1 R1 v rv=>?_⟩;obtain⟨ty,R2⟩:=KR (X:=X) M1 rv R1;refine⟨ty,F1,ij,om1,sl,M1,V.mono g1.toGr,R2.bind λy jd F3 H3 jq g3 M3 R3 u ru=>?_⟩;show Hw v [u] H3 Q;unfold kApp at R3
 match hx:VB jd x,R3 with
 |none,R3=>exact R3.elim
 |some (h,ws),R3=>
  dsimp only at R3;obtain⟨a,xs,_,_,eb,rfl,ha,rs⟩:=TJ M3 (rv.mono g3.toGr) hx;by_cases hc:ws.length<lim
  ·rw[aC hc]at R3
   have:=UJ;have:=rs.length;refine⟨a,xs,u,rfl,rfl,ha,by omega,?_⟩;exact R3 F3 _ jq (M3.gxP eb (nz ha)) (M3.put eb ⟨xs++[u],ZG,rs.append (.cons ru .nil)⟩) _ .non
  ·rw[aE hc]at R3;exact R3.elim
end
def Xa:Wv->Option Key
 |.int i=>some (.inl i)
 |.str x=>some (.inr x)
 |_=>none
def Vp:iI->Option (List Key)
 |[]=>some []
 |w::r=>match Xa w,Vp r with
  |some k,some ks=>some (k::ks)
  |_,_=>none
def Tx{F:Hp}{β:h8}{w:Wv}{v:V}{k:Key}(r:RW F β w v)(e:Xa w=some k):v=kV k:=by
 cases r <;> first|(cases e;rfl)|exact nomatch e
def So{F:Hp}{β:h8}:∀{ws:iI} {vs:iH} {ks:List Key},RWs F β ws vs->Vp ws=some ks->vs=ks.map kV
 |_,_,_,.nil,e=>by unfold Vp at e;cases e;rfl
 |_,_,_,.cons (w:=w) (ws:=ws) h r,e=>by
  unfold Vp at e
  match h1:Xa w,h2:Vp ws,e with
  |some k,some ks,e=>
   have e:some (k::ks)=some _:=e;cases e;rw[aU,← Tx h h1,← So r h2]
  |some k,none,e=>exact nomatch e
  |none,_,e=>exact nomatch e
section
variable{κ:Type}[DecidableEq κ]
def Ut(kvs:List (κ × Wv))(k:κ):Option Wv:=(kvs.find? λkv=>decide (kv.1=k)).map (·.2)
def WW(kvs:List (κ × Wv))(k:κ)(v:Wv):List (κ × Wv):=
 if (kvs.any λkv=>decide (kv.1=k))=true then kvs.map (λkv=>if kv.1=k then (kv.1,v) else kv) else kvs++[(k,v)]
variable{F:Hp}{β:h8}
def ROp(F:Hp)(β:h8)(o:Option Wv)(u:Option V):Prop:=match o with
 |some w=>∃v,u=some v∧RW F β w v
 |none=>u=none
def RK.val:∀{ps:List (κ × Wv)} {qs:List (κ × V)},RK F β ps qs->∀k,ROp F β (Ut ps k) (SW qs k)
 |_,_,.nil,_=>rfl
 |_,_,.cons (k:=k') h r,k=>by
  unfold Ut SW;rw[cB,cB];by_cases hk:k'=k
  ·simp only[hk,decide_true];exact⟨_,rfl,h⟩
  ·simp only[hk,decide_false];exact RK.val r k
def RK.any:∀{ps:List (κ × Wv)} {qs:List (κ × V)},RK F β ps qs->∀k,(ps.any λkv=>decide (kv.1=k))=(qs.any λkv=>decide (kv.1=k))
 |_,_,.nil,_=>rfl
 |_,_,.cons (k:=k') h r,k=>by rw[dc,dc,RK.any r k]
def RK.repl{k:κ}{w:Wv}{v:V}(h:RW F β w v):∀{ps:List (κ × Wv)} {qs:List (κ × V)},RK F β ps qs->RK F β (ps.map λkv=>if kv.1=k then (kv.1,w) else kv) (qs.map λkv=>if kv.1=k then (kv.1,v) else kv)
 |_,_,.nil=>.nil
 |_,_,.cons (k:=k') h' r=>by
  rw[aU,aU];by_cases hk:k'=k
  ·simp only[hk,if_true];exact .cons h (RK.repl h r)
  ·simp only[hk,if_false];exact .cons h' (RK.repl h r)
def RK.append:∀{ps:List (κ × Wv)} {qs:List (κ × V)} {mU:List (κ × Wv)} {j6:List (κ × V)},RK F β ps qs->RK F β mU j6->RK F β (ps++mU) (qs++j6)
 |_,_,_,_,.nil,s=>s
 |_,_,_,_,.cons h r,s=>.cons h (RK.append r s)
def RK.put{ps:List (κ × Wv)}{qs:List (κ × V)}{k:κ}{w:Wv}{v:V}(r:RK F β ps qs)(h:RW F β w v):RK F β (WW ps k w) (SS qs k v):=by
 unfold WW SS;rw[r.any k];by_cases hc:(qs.any λkv=>decide (kv.1=k))=true
 ·rw[aC hc,aC hc];exact r.repl h
 ·rw[aE hc,aE hc];exact r.append (.cons h .nil)
end
def Wr(om:iM)(d key:Wv):Option (Option Wv):=match d with
 |.o h=>match om[h]? with
  |some (.dk kvs)=>match Xa key with
   |some k=>some (Ut kvs k)
   |none=>none
  |some (.dz kvs)=>match Xa key with
   |some k=>some (Ut kvs k)
   |none=>none
  |some (.dt kvs)=>match key with
   |.tup ws=>match Vp ws with
    |some ks=>some (Ut kvs ks)
    |none=>none
   |_=>none
  |_=>none
 |_=>none
def Uh{F H:Hp}{β:h8}{om:iM}{d key:Wv}{vd vk:V}{r:Option Wv}(M:MOk F H β om)(rd:RW F β d vd)(rk:RW F β key vk)(e:Wr om d key=some r):∃a o,vd=.ref a∧DGet H a vk o∧ROp F β r o:=by
 cases rd with
 |@o h a eb=>
  unfold Wr at e;dsimp only at e
  match hx:om[h]?,e with
  |none,e=>exact nomatch e
  |some (.ins _ _),e=>exact nomatch e
  |some (.exc _),e=>exact nomatch e
  |some (.lst _),e=>exact nomatch e
  |some (.dk kvs),e=>
   obtain⟨a',ea,_,ks,hk,rs⟩:=M.at hx;rw[eb]at ea;cases ea;dsimp only at e
   match h1:Xa key,e with
   |none,e=>exact nomatch e
   |some k,e=>
    have e:some (Ut kvs k)=some r:=e;cases e;rw[Tx rk h1];exact⟨_,_,rfl,DGet.k hk,rs.val k⟩
  |some (.dz kvs),e=>
   obtain⟨a',ea,_,ob,ks,hk,rs⟩:=M.at hx;rw[eb]at ea;cases ea;dsimp only at e
   match h1:Xa key,e with
   |none,e=>exact nomatch e
   |some k,e=>
    have e:some (Ut kvs k)=some r:=e;cases e;rw[Tx rk h1];exact⟨_,_,rfl,.inl ⟨ks,k,.inr ⟨ob,hk⟩,rfl,rfl⟩,rs.val k⟩
  |some (.dt kvs),e=>
   obtain⟨a',ea,_,ks,hk,rs⟩:=M.at hx;rw[eb]at ea;cases ea;dsimp only at e;cases rk with
   |@tup b xs ws q jg=>
    dsimp only at e
    match h1:Vp ws,e with
    |none,e=>exact nomatch e
    |some k,e=>
     have e:some (Ut kvs k)=some r:=e;cases e;have hb:=M.sub _ _ q;rw[So jg h1]at hb;exact⟨_,_,rfl,DGet.t hk hb,rs.val k⟩
   |_=>exact nomatch e
 |_=>unfold Wr at e;cases e
def OP(om:iM)(d key w:Wv):Option (iM):=match d with
 |.o h=>match om[h]? with
  |some (.dk kvs)=>match Xa key with
   |some k=>if kvs.length<lim then some (om.set h (.dk (WW kvs k w))) else none
   |none=>none
  |some (.dt kvs)=>match key with
   |.tup ws=>match Vp ws with
    |some ks=>if kvs.length<lim then some (om.set h (.dt (WW kvs ks w))) else none
    |none=>none
   |_=>none
  |_=>none
 |_=>none
def Ec{F H:Hp}{β:h8}{om ig:iM}{d key w:Wv}{vd vk v:V}(M:MOk F H β om)(rd:RW F β d vd)(rk:RW F β key vk)(jg:RW F β w v)(e:OP om d key w=some ig):∃a H',vd=.ref a∧DPut H a vk v H'∧Gx F F H H' β β∧MOk F H' β ig:=by
 have iw:=UJ;cases rd with
 |@o h a eb=>
  unfold OP at e;dsimp only at e
  match hx:om[h]?,e with
  |none,e=>exact nomatch e
  |some (.ins _ _),e=>exact nomatch e
  |some (.exc _),e=>exact nomatch e
  |some (.dz _),e=>exact nomatch e
  |some (.lst _),e=>exact nomatch e
  |some (.dk kvs),e=>
   obtain⟨a',ea,_,ks,hk,rs⟩:=M.at hx;have eb2:=ea;rw[eb]at ea;cases ea;dsimp only at e
   match h1:Xa key,e with
   |none,e=>exact nomatch e
   |some k,e=>
    have e:(if kvs.length<lim then some (om.set h (.dk (WW kvs k w))) else none)=some ig:=e;by_cases hc:kvs.length<lim
    ·rw[aC hc]at e
     cases e;rw[Tx rk h1];have:=rs.length;exact⟨_,_,rfl,DPut.k hk (by omega),M.gxP eb2 (nz hk),M.put eb2 ⟨_,ZG,rs.put jg⟩⟩
    ·rw[aE hc]at e;exact nomatch e
  |some (.dt kvs),e=>
   obtain⟨a',ea,_,ks,hk,rs⟩:=M.at hx;have eb2:=ea;rw[eb]at ea;cases ea;dsimp only at e;cases rk with
   |@tup b xs ws q me=>
    dsimp only at e
    match h1:Vp ws,e with
    |none,e=>exact nomatch e
    |some k,e=>
     have e:(if kvs.length<lim then some (om.set h (.dt (WW kvs k w))) else none)=some ig:=e;by_cases hc:kvs.length<lim
     ·rw[aC hc]at e
      cases e;have hb:=M.sub _ _ q;rw[So me h1]at hb;have:=rs.length;exact⟨_,_,rfl,DPut.t hk hb (by omega),M.gxP eb2 (nz hk),M.put eb2 ⟨_,ZG,rs.put jg⟩⟩
     ·rw[aE hc]at e;exact nomatch e
   |_=>exact nomatch e
 |_=>unfold OP at e;cases e
def Wb(d key:Wv):Mw Wv:=λom=>match Wr om d key with
 |some (some w)=>some (.ok w,om)
 |_=>none
def Ws(neg:Bool)(key d:Wv):Mw Wv:=λom=>match Wr om d key with
 |some r=>some (.ok (.bl (if neg then !r.isSome else r.isSome)),om)
 |none=>none
def isD(om:iM):Wv->Bool
 |.o h=>match om[h]? with
  |some (.dk _)=>true
  |some (.dz _)=>true
  |some (.dt _)=>true
  |_=>false
 |_=>false
def OL(x:Wv):Mw Unit:=λom=>if isD om x=true then some (.ok (),om) else none
def IV(d key:Wv):Mw Wv:=λom=>match Wr om d key with
 |some r=>some (.ok (r.getD .non),om)
 |none=>none
def Qf(d key z:Wv):Mw Wv:=λom=>match Wr om d key with
 |some r=>some (.ok (r.getD z),om)
 |none=>none
def Ly(fd fk:FE):FE:=λsl=>bnd (fd sl) λd=>bnd (OL d) λ_=>bnd (fk sl) λk=>IV d k
def Ot(fd fk fz:FE):FE:=λsl=>bnd (fd sl) λd=>bnd (OL d) λ_=>bnd (fk sl) λk=>bnd (fz sl) λz=>Qf d k z
section
variable{X:Cx}{E:XK}{e a b c o i:Expr}{fd fk fz:FE}{pos p2 p ip io:Pos}
def ROp.isSome{F:Hp}{β:h8}{r:Option Wv}{o:Option V}(h:ROp F β r o):r.isSome=o.isSome:=by
 match r,h with
 |some w,⟨v,e,_⟩=>rw[e];rfl
 |none,h=>rw[show o=none from h];rfl
def ROp.getD{F:Hp}{β:h8}{r:Option Wv}{o:Option V}{w:Wv}{v:V}(h:ROp F β r o)(q:RW F β w v):RW F β (r.getD w) (o.getD v):=by
 match r,h with
 |some w,⟨v,e,h⟩=>rw[e];exact h
 |none,h=>rw[show o=none from h];exact q
def WD(hu:X.A.units+64<cLine)(ho:PE X o (tE E fd))(hi:PE X i (tE E fk))(hs:NoSl i:=by intro _ _;rfl):PE X (.Subscript o i pos) (tE E (f2 Wb fd fk)):=(Bh (by omega) ho hi hs).weak λσ H Q h=>by
 refine MZ (r:=λx y H2 Q=>∃a v,x=.ref a∧DGet H2 a y (some v)∧Q v H2) ?_ h;intro F H β om x y v u Q M rx ry R;unfold Wb at R
 match hx:Wr om x y,R with
 |none,R=>exact R.elim
 |some none,R=>exact R.elim
 |some (some w),R=>
  obtain⟨a,o',rfl,hg,z,rfl,rz⟩:=Uh M rx ry hx;exact⟨a,z,rfl,hg,(show Res E (ret w om) F H β (PV Q) from R).now M _ rz⟩
def qe_din(hu:X.A.units+64<cLine)(hi:PE X i (tE E fk))(ho:PE X o (tE E fd))(h1:behindInMarks .In o=false:=by with_unfolding_all rfl):PE X (.Compare i [.In] [o] pos) (tE E (f2 (Ws false) fk fd)):=(Do (E8 (by omega) hi ho) h1).weak λσ H Q h=>by
 refine MZ (r:=λy x H2 Q=>∃a o,x=.ref a∧DGet H2 a y o∧Q (.bl o.isSome) H2) ?_ h;intro F H β om y x u v Q M ry rx R;unfold Ws at R
 match hx:Wr om x y,R with
 |none,R=>exact R.elim
 |some r,R=>
  obtain⟨a,o',rfl,hg,ro⟩:=Uh M rx ry hx;refine⟨a,o',rfl,hg,?_⟩;rw[← ro.isSome];exact(show Res E (ret (Wv.bl r.isSome) om) F H β (PV Q) from R).now M _ (.bl _)
def P3(hu:X.A.units+64<cLine)(hi:PE X i (tE E fk))(ho:PE X o (tE E fd))(h1:behindInMarks .In o=false:=by with_unfolding_all rfl):PT X (.Compare i [.In] [o] pos) (tT E (fB (f2 (Ws false) fk fd))):=(Lu (E8 (by omega) hi ho) h1).weak λσ H Q h=>by
 refine MZ (r:=λy x H2 Q=>∃a o,x=.ref a∧DGet H2 a y o∧Q (.bl o.isSome) H2) ?_ (Eo h);intro F H β om y x u v Q M ry rx R;unfold Ws at R
 match hx:Wr om x y,R with
 |none,R=>exact R.elim
 |some r,R=>
  obtain⟨a,o',rfl,hg,ro⟩:=Uh M rx ry hx;refine⟨a,o',rfl,hg,?_⟩;rw[← ro.isSome];exact(show Res E (ret (Wv.bl r.isSome) om) F H β (PV Q) from R).now M _ (.bl _)
def Rj(hu:X.A.units+64<cLine)(hi:PE X i (tE E fk))(ho:PE X o (tE E fd))(h1:behindInMarks .NotIn o=false:=by with_unfolding_all rfl):PT X (.Compare i [.NotIn] [o] pos) (tT E (fB (f2 (Ws true) fk fd))):=(Lu (GQ (by omega) hi ho) h1).weak λσ H Q h=>by
 refine MZ (r:=λy x H2 Q=>∃a o,x=.ref a∧DGet H2 a y o∧Q (.bl (!o.isSome)) H2) ?_ (Eo h);intro F H β om y x u v Q M ry rx R;unfold Ws at R
 match hx:Wr om x y,R with
 |none,R=>exact R.elim
 |some r,R=>
  obtain⟨a,o',rfl,hg,ro⟩:=Uh M rx ry hx;refine⟨a,o',rfl,hg,?_⟩;rw[← ro.isSome];exact(show Res E (ret (Wv.bl (!r.isSome)) om) F H β (PV Q) from R).now M _ (.bl _)
def Kv{γ:Type}{k:Unit->Mw γ}{F H:Hp}{β:h8}{om:iM}{w:Wv}{v:V}{P:γ->Hp->Hp->List Addr->Prop}(M:MOk F H β om)(r:RW F β w v)(R:Res E (bnd (OL w) k om) F H β P):∃a,v=.ref a∧IsD H a∧Res E (k () om) F H β P:=by
 by_cases hc:isD om w=true
 ·have e1:OL w om=some (.ok (),om):=aC hc
  unfold bnd at R;rw[e1]at R;have R1:Res E (k () om) F H β P:=R;clear R;cases r with
  |@o h a eb=>
   refine⟨a,rfl,?_,R1⟩;have hc:(match om[h]? with|some (.dk _)=>true|some (.dz _)=>true|some (.dt _)=>true|_=>false)=true:=hc
   match hx:om[h]?,hc with
   |none,e=>exact nomatch e
   |some (.ins _ _),e=>exact nomatch e
   |some (.exc _),e=>exact nomatch e
   |some (.lst _),e=>exact nomatch e
   |some (.dk kvs),e=>
    obtain⟨a',ea,_,ks,hk,rs⟩:=M.at hx;rw[eb]at ea;cases ea;exact .inl ⟨ks,.inl hk⟩
   |some (.dz kvs),e=>
    obtain⟨a',ea,_,ob,ks,hk,rs⟩:=M.at hx;rw[eb]at ea;cases ea;exact .inl ⟨ks,.inr ⟨ob,hk⟩⟩
   |some (.dt kvs),e=>
    obtain⟨a',ea,_,ks,hk,rs⟩:=M.at hx;rw[eb]at ea;cases ea;exact .inr ⟨ks,.inl hk⟩
  |_=>exact nomatch hc
 ·have e1:OL w om=none:=aE hc
  unfold bnd at R;rw[e1]at R;exact R.elim
def BD(hu:X.A.units+64<cLine)(ho:PE X o (tE E fd))(he:PE X e (tE E fk))(m:M1 X o "get" ip e io:=by exact⟨rfl,rfl,rfl,rfl⟩):PE X (.Call (.Attribute o "get" ip) [e] [] io) (tE E (Ly fd fk)):=(D2 (by omega) ho he m).weak λσ H Q ⟨F,β,om,sl,M,V,R⟩=>by
 refine⟨F,β,om,sl,M,V,R.bind λx om1 F1 H1 ij g1 M1 R1 v rv=>?_⟩;obtain⟨a,rfl,hd,R2⟩:=Kv M1 rv R1;refine⟨a,rfl,hd,F1,ij,om1,sl,M1,V.mono g1.toGr,R2.bind λy jd F3 H3 jq g3 M3 R3 u ru=>?_⟩;unfold IV at R3
 match hx:Wr jd x y,R3 with
 |none,R=>exact R.elim
 |some r,R=>
  obtain⟨a',o',e,hg,ro⟩:=Uh M3 (rv.mono g3.toGr) ru hx;cases e;exact⟨o',hg,(show Res E (ret (r.getD Wv.non) jd) F3 H3 jq _ from R).now M3 _ (ro.getD .non)⟩
def II{f':Expr}(hu:X.A.units+64<cLine)(ho:PE X o (tE E fd))(he:PE X e (tE E fk))(hf:PE X f' (tE E fz))(m:M2 X o "get" ip e f' io:=by exact⟨rfl,rfl,rfl,rfl⟩):PE X (.Call (.Attribute o "get" ip) [e,f'] [] io) (tE E (Ot fd fk fz)):=(Dv (by omega) ho he hf m).weak λσ H Q ⟨F,β,om,sl,M,V,R⟩=>by
 refine⟨F,β,om,sl,M,V,R.bind λx om1 F1 H1 ij g1 M1 R1 v rv=>?_⟩;obtain⟨a,rfl,hd,R2⟩:=Kv M1 rv R1;refine⟨a,rfl,hd,F1,ij,om1,sl,M1,V.mono g1.toGr,R2.bind λy jd F3 H3 jq g3 M3 R3 u ru=>?_⟩;refine⟨F3,jq,jd,sl,M3,V.mono (g1.trans g3).toGr,R3.bind λz mV F4 H4 nJ g4 M4 R4 zv rz=>?_⟩;unfold Qf at R4
 match hx:Wr mV x y,R4 with
 |none,R=>exact R.elim
 |some r,R=>
  obtain⟨a',o',e,hg,ro⟩:=Uh M4 (rv.mono (g3.trans g4).toGr) (ru.mono g4.toGr) hx;cases e;exact⟨o',hg,(show Res E (ret (r.getD z) mV) F4 H4 nJ _ from R).now M4 _ (ro.getD rz)⟩
def WH:PE X (.Dict [] [] pos) (tE E λ_=>newO (.dk [])):=EI.weak λσ H Q ⟨F,β,om,sl,M,V,R⟩ p hp=>Res.newO R M hp λil _=>⟨[],ZG,.nil⟩
def Fx:PE X (.Dict [] [] pos) (tE E λ_=>newO (.dt [])):=EG.weak λσ H Q ⟨F,β,om,sl,M,V,R⟩ p hp=>Res.newO R M hp λil _=>⟨[],ZG,.nil⟩
end
def Yy:FS:=λsl=>ret (.nx,sl)
def La(S:FS):Fl × Sl->Mw (Fl × Sl)
 |(.nx,sl)=>S sl
 |x=>ret x
def Zr(S1 S2:FS):FS:=λsl=>bnd (S1 sl) (La S2)
def ZC(i:Nat)(f:FE):FS:=λsl=>bnd (f sl) λw=>ret (.nx,sl.set i (some w))
def Z4(f:FE):FS:=λsl=>bnd (f sl) λ_=>ret (.nx,sl)
def Yc(f:FE):FS:=λsl=>bnd (f sl) λw=>ret (.rt w,sl)
def Al:FS:=λsl=>ret (.rt .non,sl)
def sIf(c:FT)(S1 S2:FS):FS:=λsl=>bnd (c sl) λb=>if b=true then S1 sl else S2 sl
section
variable{X:Cx}{E:XK}{st:Stmt}{rest:List Stmt}{e:Expr}{f fo fi fv:FE}{S S1 S2:FS}{c:FT}{pos:Pos}
def BN:PSs X [] (tS E Yy):=CS.weak λD σ H ⟨F,β,om,sl,M,V,R⟩=>(show Res E (ret (Fl.nx,sl) om) F H β (FlP D) from R).now M σ V
def Zg(h1:PS X st (tS E S1))(h2:PSs X rest (tS E S2)):PSs X (st::rest) (tS E (Zr S1 S2)):=(Pc h1 h2).weak λD σ H ⟨F,β,om,sl,M,V,R⟩=>by
 refine⟨F,β,om,sl,M,V,R.bind λx om1 F1 H1 ij g1 M1 R1=>?_⟩;obtain⟨fl,sl1⟩:=x;cases fl with
 |nx=>exact λir V'=>⟨F1,ij,om1,sl1,M1,V',R1⟩
 |bk=>exact(show Res E (ret (Fl.bk,sl1) om1) F1 H1 ij (FlP D) from R1).now M1
 |ct=>exact(show Res E (ret (Fl.ct,sl1) om1) F1 H1 ij (FlP D) from R1).now M1
 |rt w=>exact(show Res E (ret (Fl.rt w,sl1) om1) F1 H1 ij (FlP D) from R1).now M1
def Zq(h1:PS X st (tS E S1)):PSs X [st] (tS E S1):=BA h1
def qs_set{i:Nat}{x:Str}{iQ:Pos}(hN:X.N.Nodup)(hi:X.N[i]?=some x)(hx:Loc X.env.scope x)(he:PE X e (tE E f))(hs:swapsWith e (some (.Name x iQ)) pos.line X.env=pure false:=by rfl)(hf:X.fn x=true∨X.env.scope.names.lookup x=some .local:=by first|exact .inl rfl|exact .inr rfl|assumption):PS X (.Assign [.Name x iQ] e pos) (tS E (ZC i f)):=(ps_set hN hi hx he hs hf).weak λD σ H ⟨F,β,om,sl,M,V,R⟩=>
 ⟨F,β,om,sl,M,V,R.bind λx om1 F1 H1 ij g1 M1 R1 v rv=>(show Res E (ret (Fl.nx,sl.set i (some x)) om1) F1 H1 ij (FlP D) from R1).now M1 _ ((V.mono g1.toGr).set i rv)⟩
def Z0(he:PE X e (tE E f))(hs:swapsWith e none pos.line X.env=pure false:=by rfl):PS X (.Expr e pos) (tS E (Z4 f)):=(BL he hs).weak λD σ H ⟨F,β,om,sl,M,V,R⟩=>
 ⟨F,β,om,sl,M,V,R.bind λx om1 F1 H1 ij g1 M1 R1 v rv=>(show Res E (ret (Fl.nx,sl) om1) F1 H1 ij (FlP D) from R1).now M1 _ (V.mono g1.toGr)⟩
def qs_ret(he:PE X e (tE E f)):PS X (.Return (some e) pos) (tS E (Yc f)):=(ps_ret he).weak λD σ H ⟨F,β,om,sl,M,V,R⟩=>
 ⟨F,β,om,sl,M,V,R.bind λx om1 F1 H1 ij g1 M1 R1 v rv=>(show Res E (ret (Fl.rt x,sl) om1) F1 H1 ij (FlP D) from R1).now M1 _ rv⟩
def BP:PS X (.Return none pos) (tS E Al):=BR.weak λD σ H ⟨F,β,om,sl,M,V,R⟩=>(show Res E (ret (Fl.rt .non,sl) om) F H β (FlP D) from R).now M _ .non
def tS_if{D:Ends}{σ:St}{H:Hp}(h:tS E (sIf c S1 S2) D σ H):tIfS (tT E c) (tS E S1) (tS E S2) D σ H:=by
 obtain⟨F,β,om,sl,M,V,R⟩:=h;refine⟨F,β,om,sl,M,V,R.bind λb om1 F1 H1 ij g1 M1 R1=>?_⟩;cases b with
 |true=>rw[aC rfl]at R1 ⊢;exact⟨F1,ij,om1,sl,M1,V.mono g1.toGr,R1⟩
 |false=>rw[aE aH]at R1 ⊢;exact⟨F1,ij,om1,sl,M1,V.mono g1.toGr,R1⟩
def NA{t:Expr}{a b:List Stmt}(hc:PT X t (tT E c))(ha:PSs X a (tS E S1))(hb:PSs X b (tS E S2)):PS X (.If t a b pos) (tS E (sIf c S1 S2)):=(ps_if hc ha hb).weak λD σ H h=>tS_if h
def Ha(o i v:Wv):Mw Unit:=λom=>match VB om o,i with
 |some (h,ws),.int k=>match ixN ws.length k with
  |some j=>some (.ok (),om.set h (.lst (ws.set j v)))
  |none=>none
 |_,_=>none
def Xl(fv fo fi:FE):FS:=λsl=>bnd (fv sl) λv=>bnd (fo sl) λo=>bnd (fi sl) λi=>bnd (Ha o i v) λ_=>ret (.nx,sl)
def Bf{o i v:Expr}{p1:Pos}(hv:PE X v (tE E fv))(ho:PE X o (tE E fo))(hi:PE X i (tE E fi)){w}(hg:PG X (.Subscript o i p1) (gSub (tE E fo) (tE E fi) A7):=by exact ER ‹_› ‹_› set_list)(hs:swapsWithSole [.Subscript o i p1] v pos.line X.env=pure false:=by rfl) (hw:swappedStores [.Subscript o i p1] v X.env=pure w:=by rfl)(h1:(assignEach [.Subscript o i p1] X.env).map (·.2)=[assign (.Subscript o i p1) X.env]:=by rfl) (mf:w=none:=by rfl):PS X (.Assign [.Subscript o i p1] v pos) (tS E (Xl fv fo fi)):=by
 subst mf;refine(ps_asg hv hg hs hw h1).weak λD σ H ⟨F,β,om,sl,M,V,R⟩=>?_
 refine⟨F,β,om,sl,M,V,R.bind λx om1 F1 H1 ij g1 M1 R1 xv rx=>?_⟩;refine⟨F1,ij,om1,sl,M1,V.mono g1.toGr,R1.bind λy om2 F2 H2 i8 g2 M2 R2 yv ry=>?_⟩;refine⟨F2,i8,om2,sl,M2,V.mono (g1.trans g2).toGr,R2.bind λz jd F3 H3 jq g3 M3 R3 zv rz=>?_⟩;unfold bnd Ha at R3
 match hx:VB jd y,z,rz,R3 with
 |none,_,_,R3=>exact R3.elim
 |some (h,ws),.int k,.int _,R3=>
  dsimp only at R3;obtain⟨a,xs,_,_,eb,rfl,ha,rs⟩:=TJ M3 (ry.mono g3.toGr) hx
  match hj:ixN ws.length k,R3 with
  |none,R3=>exact R3.elim
  |some j,R3=>
   refine⟨a,xs,k,j,rfl,rfl,ha,by rw[← rs.length];exact hj,?_⟩;exact(show Res E (some (Except.ok (Fl.nx,sl),jd.set h (.lst (ws.set j x)))) F3 H3 jq (FlP D) from R3) F3 _ jq (M3.gxP eb (nz ha)) (M3.put eb ⟨_,ZG,RWs.set (rx.mono (g2.trans g3).toGr) j rs⟩) σ (V.mono (g1.trans (g2.trans g3)).toGr)
def PO(v d k:Wv):Mw Unit:=λom=>match OP om d k v with
 |some ig=>some (.ok (),ig)
 |none=>none
def YU(fv fd fk:FE):FS:=λsl=>bnd (fv sl) λv=>bnd (fd sl) λd=>bnd (fk sl) λk=>bnd (PO v d k) λ_=>ret (.nx,sl)
def X0{o i v:Expr}{p1:Pos}(hu:X.A.units+64<cLine)(hv:PE X v (tE E fv))(ho:PE X o (tE E fo))(hi:PE X i (tE E fi))(hs:swapsWith v (some (.Subscript o i p1)) pos.line X.env=pure false:=by rfl):PS X (.Assign [.Subscript o i p1] v pos) (tS E (YU fv fo fi)):=by
 refine(D9 (by omega) ho hi hv hs).weak λD σ H ⟨F,β,om,sl,M,V,R⟩=>?_
 refine⟨F,β,om,sl,M,V,R.bind λx om1 F1 H1 ij g1 M1 R1 xv rx=>?_⟩;refine⟨F1,ij,om1,sl,M1,V.mono g1.toGr,R1.bind λy om2 F2 H2 i8 g2 M2 R2 yv ry=>?_⟩;refine⟨F2,i8,om2,sl,M2,V.mono (g1.trans g2).toGr,R2.bind λz jd F3 H3 jq g3 M3 R3 zv rz=>?_⟩;unfold bnd PO at R3
 match hx:OP jd y z x,R3 with
 |none,R3=>exact R3.elim
 |some ig,R3=>
  obtain⟨a,H',rfl,hp,gg,MM⟩:=Ec M3 (ry.mono g3.toGr) rz (rx.mono (g2.trans g3).toGr) hx;exact⟨a,H',rfl,hp,(show Res E (some (Except.ok (Fl.nx,sl),ig)) F3 H3 jq (FlP D) from R3) F3 H' jq gg MM σ (V.mono (g1.trans (g2.trans g3)).toGr)⟩
def Wk(f:Str)(v:Wv):iJ->List (Str × Wv)
 |[]=>[(f,v)]
 |(g,u)::r=>if g=f then (g,v)::r else (g,u)::Wk f v r
def RK.putF{F:Hp}{β:h8}{n:Str}{w:Wv}{v:V}(h:RW F β w v):∀{ps:iJ} {qs:List (Str × V)},RK F β ps qs->RK F β (Wk n w ps) (L2.putF n v qs)
 |_,_,.nil=>.cons h .nil
 |_,_,.cons (k:=k') h' r=>by
  unfold Wk L2.putF;by_cases hk:k'=n
  ·rw[aC hk,aC hk];exact .cons h r
  ·rw[aE hk,aE hk];exact .cons h' (RK.putF h r)
def NT(C:Addr)(n:Str)(v x:Wv):Mw Unit:=λom=>match x with
 |.o h=>match om[h]? with
  |some (.ins C' fs)=>if C'=C∧fs.length<900 then some (.ok (),om.set h (.ins C' (Wk n v fs))) else none
  |_=>none
 |_=>none
def Xu(C:Addr)(n:Str)(fv fo:FE):FS:=λsl=>bnd (fv sl) λv=>bnd (fo sl) λx=>bnd (NT C n v x) λ_=>ret (.nx,sl)
def qs_fld{o v:Expr}{n:Str}{C:Addr}{p1:Pos}(cl:Cls X.K C)(na:NoAttr X.K C n)(hv:PE X v (tE E fv))(ho:PE X o (tE E fo))(hs:swapsWith v (some (.Attribute o n p1)) pos.line X.env=pure false:=by rfl):PS X (.Assign [.Attribute o n p1] v pos) (tS E (Xu C n fv fo)):=by
 refine(ps_fld ho hv hs).weak λD σ H ⟨F,β,om,sl,M,V,R⟩=>?_
 refine⟨F,β,om,sl,M,V,R.bind λx om1 F1 H1 ij g1 M1 R1 xv rx=>?_⟩;refine⟨F1,ij,om1,sl,M1,V.mono g1.toGr,R1.bind λy om2 F2 H2 i8 g2 M2 R2 yv ry=>?_⟩;unfold bnd NT at R2;cases ry with
 |@o h a eb=>
  dsimp only at R2
  match hx:om2[h]?,R2 with
  |none,R=>exact R.elim
  |some (.exc _),R=>exact R.elim
  |some (.dz _),R=>exact R.elim
  |some (.lst _),R=>exact R.elim
  |some (.dt _),R=>exact R.elim
  |some (.dk _),R=>exact R.elim
  |some (.ins C' fs),R=>
   obtain⟨a',ea,_,dx,jf,hf,rs⟩:=M2.at hx;have eb2:=ea;rw[eb]at ea;cases ea;dsimp only at R;by_cases hc:C'=C∧fs.length<900
   ·have R5:Res E (some (Except.ok (Fl.nx,sl),om2.set h (.ins C' (Wk n x fs)))) F2 H2 i8 (FlP D):=by
     have:=R;rw[aC hc]at this;exact this
    obtain⟨rfl,hl⟩:=hc;have:=rs.length;refine⟨a,C',dx,jf,rfl,hf,cl,na,by omega,?_⟩;exact R5 F2 _ i8 (M2.gxP eb2 (nz hf)) (M2.put eb2 ⟨dx,_,ZG,rs.putF (rx.mono g2.toGr)⟩) σ (V.mono (g1.trans g2).toGr)
   ·rw[aE hc]at R;exact R.elim
 |_=>exact R2.elim
end
def ItC(C:Hp->Prop)(J:It)(ws:iI)(F:Hp)(β:h8):Prop:=∀F' il H,Gr F F' β il->Same F' H->C H->(∀(i:Nat) w,ws[i]?=some w->J.go i H∧∀x H',J.yld i H x H'->H'=H∧RW F' il w x)∧∀i,ws.length<=i->J.stop i H
abbrev Ib:=ItC λ_=>True
def ItC.mono{C:Hp->Prop}{J:It}{ws:iI}{F F':Hp}{β il:h8}(h:ItC C J ws F β)(g:Gr F F' β il):ItC C J ws F' il:=λF2 i8 H g2 s=>h F2 i8 H (g.trans g2) s
abbrev FI:=Sl->Mw (iI)
def tI(E:XK)(f:FI):TI:=λσ H R=>∃F β om sl,MOk F H β om∧EnvOk F β σ sl∧Res E (f sl om) F H β λws F' H' il=>∀J,Ib J ws F' il->R J H'
def PI.weak{X:Cx}{tg e:Expr}{t t':TI}(h:PI X tg e t)(w:∀σ H Q,t' σ H Q->t σ H Q):PI X tg e t':=λgV s σ H Q I q=>h gV s σ H Q I (w σ H Q q)
def ZE:Wv->Mw (iI)
 |.lst ws=>ret ws
 |_=>WM
def W0(n:Nat):iI:=(List.range n).map λ(i:Nat)=>.int i
def CJ(lo:Int)(n:Nat):iI:=(List.range n).map λ(i:Nat)=>.int (lo+i)
def YL:Wv->Mw (iI)
 |.int j=>bnd (chk (decide (-(2 ^ 62)<=j∧j<2 ^ 62))) λ_=>ret (W0 j.toNat)
 |_=>WM
section
variable{X:Cx}{E:XK}{e a b tg:Expr}{es:iE}{f:FE}{fs:FA}{p pos:Pos}
def itl_ok{K:g8}{F:Hp}{β:h8}{a:Addr}{xs:iH}{ws:iI}(q:Rd F a (.lst xs))(rs:RWs F β ws xs):Ib (Itl K a) ws F β:=λF' il H g s _=>by
 have hS:SqL K H a xs:=.inl (Rd.same s (Rd.same g.same q));refine⟨λi w e=>?_,λi hi=>⟨xs,hS,by rw[← rs.length];exact hi⟩⟩;obtain⟨v,ev,rv⟩:=rs.get e;refine⟨⟨xs,v,hS,ev⟩,λx H' ⟨e1,e2⟩=>⟨e1,?_⟩⟩;have:=e2 xs hS;rw[ev]at this;cases this;exact rv.mono g
def itr_ok{F:Hp}{β:h8}(lo:Int)(n:Nat):Ib (Itr lo n) (CJ lo n) F β:=λF' il H g s _=>by
 unfold CJ;refine⟨λi w e=>?_,λi hi=>(show n<=i by simpa using hi)⟩;have hi:i<n:=by have:=(aG.mp e).1;simpa using this
 rw[bC,db hi]at e;cases e;exact⟨hi,λx H' ⟨e1,e2⟩=>⟨e1,by rw[e2];exact .int _⟩⟩
def Bc(n:Nat):W0 n=CJ 0 n:=by
 unfold W0 CJ;exact cC λi _=>by rw[Int.zero_add]
def ZY(hl:PE X e (tE E f)):PI X tg e (tI E λsl=>bnd (f sl) ZE):=(Bi hl).weak λσ H Q ⟨F,β,om,sl,M,V,R⟩=>by
 refine⟨F,β,om,sl,M,V,R.bind λx om1 F1 H1 ij g1 M1 R1 v rv=>?_⟩;cases rv with
 |@lst a xs ws q rs=>exact⟨a,rfl,⟨xs,.inl (Rd.same M1.sub q)⟩,(show Res E (ret ws om1) F1 H1 ij _ from R1).now M1 _ (itl_ok q rs)⟩
 |_=>exact R1.elim
def YB(hg:Gl X "range")(hm:X.mg "range"=none)(ha:PE X a (tE E f))(h0:starEach [a] X.env=(false,eval a X.env)::starEach [] X.env:=by rfl)(hs:starEach [a] X.env=[(false,eval a X.env)]:=by rfl):PI X tg (.Call (.Name "range" p) [a] [] pos) (tI E λsl=>bnd (f sl) YL):=(GR hg hm (Wz ha V8 h0) hs).weak λσ H Q ⟨F,β,om,sl,M,V,R⟩=>by
 refine⟨F,β,om,sl,M,V,R.bind λw om1 F1 H1 ij g1 M1 R1 v rv=>?_⟩;cases rv with
 |int j=>
  obtain⟨hc,R2⟩:=Res.chk R1;obtain⟨h1,h2⟩:=bD hc;refine⟨j,rfl,h1,h2,?_⟩;have R3:Res E (ret (W0 j.toNat) om1) F1 H1 ij λws F' H' il=>∀J,Ib J ws F' il->Q J H':=R2
  exact R3.now M1 _ (by rw[Bc];exact itr_ok 0 _)
 |_=>exact R1.elim
end
abbrev TgW:=Wv->Sl->Option Sl
def Jr(g:TG)(T:TgW):Prop:=∀{F H:Hp} {β:h8} {om:iM} {σ:St} {sl iz:Sl} {w:Wv} {v:V} {Q:St->Hp->Prop},MOk F H β om->EnvOk F β σ sl->RW F β w v->T w sl=some iz->(∀ir,EnvOk F β ir iz->Q ir H)->g v σ H Q
def tgN(i:Nat):TgW:=λw sl=>some (sl.set i (some w))
def Nt(i:Nat):Jr (Q4 i) (tgN i):=λM V r e q=>by
 cases e;exact q _ (V.set i r)
def QA(again:Sl->Mw (Fl × Sl)):Fl × Sl->Mw (Fl × Sl)
 |(.nx,sl)=>again sl
 |(.ct,sl)=>again sl
 |(.bk,sl)=>ret (.nx,sl)
 |(.rt w,sl)=>ret (.rt w,sl)
def VF(T:TgW)(S:FS):iI->FS
 |[],sl=>ret (.nx,sl)
 |w::r,sl=>match T w sl with
  |none=>WM
  |some sl1=>bnd (S sl1) (QA λiy=>VF T S r iy)
def XH(fi:FI)(T:TgW)(S:FS):FS:=λsl=>bnd (fi sl) λws=>VF T S ws sl
section
variable{X:Cx}{E:XK}{tg ii:Expr}{body:List Stmt}{fi:FI}{T:TgW}{g:TG}{S:FS}{pos:Pos}
def for_go{D:Ends}{J:It}{ws:iI}{σ:St}{H F:Hp}{β:h8}{om:iM}{sl:Sl}(ht:Jr g T)(hJ:Ib J ws F β)(M:MOk F H β om)(V:EnvOk F β σ sl)(R:Res E (VF T S ws sl om) F H β (FlP D)):∃W:Nat->Nat->St->Hp->Prop,(∃m,W 0 m σ H)∧∀i m σ H,W i m σ H -> (J.stop i H∧D.nx σ H)∨(J.go i H∧∃N:St->Hp->Prop,(∀ir H',N ir H'->∃m',m'<m∧W (i+1) m' ir H')∧∀x H',J.yld i H x H'->g x σ H' λjh H2=>tS E S {D with nx:=N,ct:=N,bk:=D.nx} jh H2):=by
 refine⟨λi m σ H=>m=ws.length-i∧i<=ws.length∧∃F β om sl,Ib J ws F β∧MOk F H β om∧EnvOk F β σ sl∧Res E (VF T S (ws.drop i) sl om) F H β (FlP D),⟨ws.length,by simp,cz _,F,β,om,sl,hJ,M,V,R⟩,?_⟩;rintro i m σ H ⟨rfl,hi,F,β,om,sl,hJ,M,V,R⟩;obtain⟨j1,j2⟩:=hJ F β H (Gr.refl _ _) M.sub True.intro;by_cases iR:i<ws.length
 ·obtain⟨go,yl⟩:=j1 i ws[i] (aN iR)
  refine .inr ⟨go,λir H'=>i+1<=ws.length∧∃F β om sl,Ib J ws F β∧MOk F H' β om∧EnvOk F β ir sl∧Res E (VF T S (ws.drop (i+1)) sl om) F H' β (FlP D),λir H' ⟨h1,h2⟩=>⟨ws.length-(i+1),by omega,rfl,h1,h2⟩,λx H' hy=>?_⟩;obtain⟨rfl,rx⟩:=yl x H' hy;rw[eX iR]at R;have R:Res E ((match T ws[i] sl with|none=>WM|some sl1=>bnd (S sl1) (QA λiy=>VF T S (ws.drop (i+1)) iy)) om) F H' β (FlP D):=R
  match hT:T ws[i] sl,R with
  |none,R=>exact R.elim
  |some sl1,R=>
   refine ht M V rx hT λjh V2=>?_
   refine⟨F,β,om,sl1,M,V2,Res.bind R λy om1 F1 H1 ij g1 M1 R1=>?_⟩;obtain⟨fl,iy⟩:=y;cases fl with
   |nx=>exact λir V'=>⟨iR,F1,ij,om1,iy,hJ.mono g1.toGr,M1,V',R1⟩
   |ct=>exact λir V'=>⟨iR,F1,ij,om1,iy,hJ.mono g1.toGr,M1,V',R1⟩
   |bk=>exact(show Res E (ret (Fl.nx,iy) om1) F1 H1 ij (FlP D) from R1).now M1
   |rt w=>exact(show Res E (ret (Fl.rt w,iy) om1) F1 H1 ij (FlP D) from R1).now M1
 ·have e:i=ws.length:=by omega
  subst e;rw[gI]at R;exact .inl ⟨j2 _ (aM _),(show Res E (ret (Fl.nx,sl) om) F H β (FlP D) from R).now M σ V⟩
def EB(hp:PassesOwn (model X.prog X.w) X.A X.env X.xe)(hc:X.calm=true)(hi:PI X tg ii (tI E fi))(hg:PG X tg g)(ht:Jr g T)(hb:PSs X body (tS E S))(hs:∀x,foldedSetIterable ii X.env x=pure x:=by intro _;rfl):PS X (.For tg ii body [] pos) (tS E (XH fi T S)):=(El hp hc hi hg hb hs).weak λD σ H ⟨F,β,om,sl,M,V,R⟩=>by
 refine⟨F,β,om,sl,M,V,R.bind λws om1 F1 H1 ij g1 M1 R1 J hJ=>?_⟩;exact for_go ht hJ M1 (V.mono g1.toGr) R1
end
def Xq(js:iC)(w:Wv)(sl:Sl):Sl:=some w::js.map λj=>(sl[j]?).join
def EnvOk.comp{F:Hp}{β:h8}{σ:St}{sl:Sl}{w:Wv}{v:V}(V:EnvOk F β σ sl)(js:iC)(r:RW F β w v):EnvOk F β (Sg js (some v) σ) (Xq js w sl):=by
 refine⟨by simp[Xq,Sg],λi u e=>?_⟩;cases i with
 |zero=>
  have e:some (some w)=some (some u):=e;cases e;exact⟨v,rfl,r⟩
 |succ k=>
  have e:(js.map λj=>(sl[j]?).join)[k]?=some (some u):=e;rw[bC]at e
  match hj:js[k]?,e with
  |none,e=>exact nomatch e
  |some j,e=>
   have e:some (sl[j]?).join=some (some u):=e
   have e2:sl[j]?=some (some u):=by
    cases q:sl[j]? with
    |none=>rw[q]at e;cases e
    |some o=>
     rw[q]at e;have e:some o=some (some u):=e;cases e;rfl
   obtain⟨v',h1,h2⟩:=V.get j u e2;refine⟨v',?_,h2⟩;show(js.map λj=>(σ[j]?).join)[k]?=some (some v');rw[bC,hj,eL,h1];rfl
def Ms(again:Mw (iI))(f:Mw Wv)(b:Bool):Mw (iI):=if b=true then bnd (Yn f) λx=>bnd again λxs=>ret (x::xs) else again
def Xo(c:FT)(f:FE)(mk:Wv->Sl):iI->Mw (iI)
 |[]=>ret []
 |w::r=>bnd (Yn (c (mk w))) (Ms (Xo c f mk r) (f (mk w)))
def Z8(k:iI->Mw Wv)(js:iC)(fi:FI)(c:FT)(f:FE):FE:=λsl=>bnd (fi sl) λws=>bnd (chk (decide (ws.length<=lim))) λ_=>bnd (Xo c f (λw=>Xq js w sl) ws) k
def Xg:FT:=λ_=>ret true
def Y6{X:Cx}{E:XK}:Th X [] (tT E Xg):=λgV s σ H Q I ⟨F,β,om,sl,M,V,R⟩=>EL gV s σ H Q I ((show Res E (ret true om) F H β _ from R).now M)
def YG{X:Cx}{E:XK}{e:Expr}{c:FT}(h:PT X e (tT E c)):Th X [e] (tT E c):=Dm h
def TF{α γ δ:Type}(m:Mw α)(k:α->Mw γ)(l:γ->Mw δ):bnd (bnd m k) l=bnd m λx=>bnd (k x) l:=by
 funext om;unfold bnd
 match m om with
 |none=>rfl
 |some (.ok a,ig)=>rfl
 |some (.error c,ig)=>rfl
def wo(H:Hp)(D:Addr):Hp:=λb=>if b=D then none else H b
def MC{H:Hp}{D:Addr}{o:HO}(e:H D=some o):upd (wo H D) D o=H:=by
 funext b;unfold upd wo;by_cases h:b=D
 ·rw[aC h,h,e]
 ·rw[aE h,aE h]
def Kk{H:Hp}{D b:Addr}(h:b≠D):wo H D b=H b:=aE h
def MW{H:Hp}{D:Addr}:wo H D D=none:=aC rfl
section
variable{X:Cx}{E:XK}{js:iC}{c:FT}{f:FE}{k:iI->Mw Wv}
def beside{F F' Hm H':Hp}{β il:h8}{om ig:iM}{D:Addr}{ys:iH}(hD:Hm D=none)(M:MOk F Hm β om)(g:Gx F F' (upd Hm D (.lst ys)) H' β il)(M':MOk F' H' il ig):H' D=some (.lst ys)∧Gx F F' Hm (wo H' D) β il∧MOk F' (wo H' D) il ig:=by
 have nD:D ∉ β:=λhm=>by
  obtain⟨i,hi⟩:=dA hm;obtain⟨x,hx⟩:=M.there hi;rw[hD]at hx;cases hx
 have fD:F D=none:=M.sub.free hD;have e1:H' D=some (.lst ys):=g.keep D _ ZG nD;have nD':D ∉ il:=λhm=>(g.new D hm).elim nD λz=>by rw[ZG]at z;cases z
 have fD':F' D=none:=by
  cases q:F' D with
  |none=>rfl
  |some o=>
   rcases g.fnew D o q with z|z
   ·rw[fD]at z;cases z
   ·rw[ZG]at z;cases z
 refine⟨e1,⟨g.toGr,λb o e hb=>?_,λb e=>?_,λb hb=>?_,λb o e=>?_,λb o u e=>?_⟩,⟨λb o e=>?_,M'.nd,M'.len,M'.free,λh a x h1 h2=>(M'.ob h a x h1 h2).mono (Gr.refl _ _) ?_⟩⟩
 ·have hbD:b≠D:=Z5 e hD
  rw[Kk hbD];exact g.keep b o (by rw[ZA hbD];exact e) hb
 ·by_cases hbD:b=D
  ·rw[hbD];exact hD
  ·rw[Kk hbD]at e
   have:=g.there b e;rw[ZA hbD]at this;exact this
 ·rcases g.new b hb with h|h
  ·exact .inl h
  ·have hbD:b≠D:=λz=>nD' (z ▸ hb)
   rw[ZA hbD]at h;exact .inr h
 ·rcases g.fnew b o e with h|h
  ·exact .inl h
  ·have hbD:b≠D:=λz=>by rw[z,fD']at e;cases e
   rw[ZA hbD]at h;exact .inr h
 ·have hbD:b≠D:=Z5 e hD
  rw[Kk hbD];exact g.frz b o u (by rw[ZA hbD];exact e)
 ·have hbD:b≠D:=λz=>by rw[z,fD']at e;cases e
  rw[Kk hbD];exact M'.sub b o e
 ·exact Kk λz=>nD' (z ▸ bM h1)
def Ty{C:Hp->Prop}{J:It}{ws:iI}{σ:St}{sl:Sl}{F1 H1 F0 H0:Hp}{ij ju:h8}{om1:iM}{P:Wv->Hp->Hp->List Addr->Prop}{Q:VK}{D:Addr}{mk:Wv->Sl}{K:V->Hp->(St->Hp->Prop)->Prop}(mW:Wv->Prop)(GG:Hp->Hp->List Addr->Prop)(hK:∀{F H:Hp} {β:h8} {om:iM} {w:Wv} {x:V} {P:St->Hp->Prop},MOk F H β om->EnvOk F β σ sl->RW F β w x->mW w->(∀jh,EnvOk F β jh (mk w)->P jh H)->K x H P) (mh:∀w∈ws,mW w)(hG:∀{F F' H H':Hp} {β il:h8} {om:iM},MOk F H β om->GG F H β->Gx F F' H H' β il->GG F' H' il) (hC:∀{F H:Hp} {β:h8},GG F H β->C H) (hJ:ItC C J ws F1 ij)(hk:∀{us:iI} {vs:iH} {om:iM} {F H:Hp} {β:h8},MOk F H β om->GG F H β->RWs F β us vs->Res E (k us om) F0 H0 ju P->H D=none->Q (.ref D) (upd H D (.lst vs)))(M1:MOk F1 H1 ij om1) (V0:EnvOk F1 ij σ sl) (G1:GG F1 H1 ij) (hD:H1 D=none) (jU:ws.length<=lim) (R1:Res E (bnd (Xo c f mk ws) k om1) F0 H0 ju P):∃W:Nat->Nat->List V->Hp->Prop,(∃m,W 0 m [] (upd H1 D (.lst [])))∧∀i m ys H2,W i m ys H2->H2 D=some (.lst ys) ∧ ((J.stop i H2∧Q (.ref D) H2)∨(J.go i H2∧∀x H',J.yld i H2 x H'->K x H' λjh H6=>tT E0 c jh H6 λb H3=>if b=true then tE E0 f jh H3 λv H4=>H4 D=some (.lst ys)∧ys.length<sizeLine∧∃m',m'<m∧W (i+1) m' (ys++[v]) (upd H4 D (.lst (ys++[v])))
      else ∃m',m'<m∧W (i+1) m' ys H3)):=by
 have iw:=UJ
 refine⟨λi m ys H2=>m=ws.length-i∧i<=ws.length∧ys.length<=i∧∃F β om Hm iu,H2=upd Hm D (.lst ys)∧Hm D=none∧ItC C J ws F β∧GG F Hm β∧MOk F Hm β om∧EnvOk F β σ sl∧RWs F β iu ys∧Res E (bnd (Xo c f mk (ws.drop i)) (λxs=>k (iu++xs)) om) F0 H0 ju P,
  ⟨ws.length,by simp,cz _,cz _,F1,ij,om1,H1,[],rfl,hD,hJ,G1,M1,V0,.nil,R1⟩,?_⟩
 rintro i m ys H2 ⟨rfl,hi,hys,F,β,om,Hm,iu,rfl,hDm,hJ,G,M,V,ra,R⟩;refine⟨ZG,?_⟩;have MU:MOk F (upd Hm D (.lst ys)) β om:=M.newU hDm;obtain⟨j1,j2⟩:=hJ F β _ (Gr.refl _ _) MU.sub (hC (hG M G (M.gxU (o:=.lst ys) hDm)));by_cases iR:i<ws.length
 ·obtain⟨go,yl⟩:=j1 i ws[i] (aN iR)
  refine .inr ⟨go,λx H' hy=>?_⟩;obtain⟨rfl,rx⟩:=yl x H' hy;rw[eX iR]at R;have R:Res E (bnd (bnd (Yn (c (mk ws[i]))) (Ms (Xo c f mk (ws.drop (i+1))) (f (mk ws[i])))) (λxs=>k (iu++xs)) om) F0 H0 ju P:=R;rw[TF]at R;refine hK MU V rx (mh _ (dR iR)) λjh V2=>?_
  refine⟨F,β,om,_,MU,V2,?_⟩;have R':=R;unfold bnd Yn at R'
  match hm:c (mk ws[i]) om,R' with
  |none,R'=>exact R'.elim
  |some (.error _,_),R'=>exact R'.elim
  |some (.ok b,om1),R'=>
   clear R;intro F1 H1 ij g1 M1;obtain⟨e1,nK,mi⟩:=beside hDm M g1 M1;have R1:Res E (bnd (Ms (Xo c f mk (ws.drop (i+1))) (f (mk ws[i])) b) (λxs=>k (iu++xs)) om1) F0 H0 ju P:=R';have G1:=hG M G nK;cases b with
   |false=>
    rw[aE aH];refine⟨ws.length-(i+1),by omega,rfl,iR,by omega,F1,ij,om1,wo H1 D,iu,(MC e1).symm,MW,hJ.mono g1.toGr,G1,mi,V.mono g1.toGr,ra.mono g1.toGr,R1⟩
   |true=>
    rw[aC rfl];have R2:Res E (bnd (bnd (Yn (f (mk ws[i]))) λx=>bnd (Xo c f mk (ws.drop (i+1))) λxs=>ret (x::xs)) (λxs=>k (iu++xs)) om1) F0 H0 ju P:=R1;rw[TF]at R2;refine⟨F1,ij,om1,_,M1,V2.mono g1.toGr,?_⟩;unfold bnd Yn at R2
    match jH:f (mk ws[i]) om1,R2 with
    |none,R2=>exact R2.elim
    |some (.error _,_),R2=>exact R2.elim
    |some (.ok y,om2),R2=>
     intro F2 H2 i8 g2 M2 v rv;obtain⟨e2,nM,nN⟩:=beside (Hm:=wo H1 D) (ys:=ys) MW mi (by rw[MC e1];exact g2) M2;have R3:Res E (bnd (bnd (Xo c f mk (ws.drop (i+1))) λxs=>ret (y::xs)) (λxs=>k (iu++xs)) om2) F0 H0 ju P:=R2;rw[TF]at R3
     have R3:Res E (bnd (Xo c f mk (ws.drop (i+1))) (λxs=>k ((iu++[y])++xs)) om2) F0 H0 ju P:=by
      have e:(λxs=>k ((iu++[y])++xs))=λxs=>k (iu++y::xs):=by funext xs;rw[bP];rfl
      rw[e];exact R3
     have ra2:RWs F2 i8 (iu++[y]) (ys++[v]):=(ra.mono (g1.trans g2).toGr).append (.cons rv .nil);refine⟨e2,by omega,ws.length-(i+1),by omega,rfl,iR,by rw[aS,fZ];omega,F2,i8,om2,wo H2 D,iu++[y],?_,MW,hJ.mono (g1.trans g2).toGr,hG mi G1 nM,nN,V.mono (g1.trans g2).toGr,ra2,R3⟩;rw[← MC e2,IL,MC e2]
 ·have e:i=ws.length:=by omega
  subst e;rw[gI]at R;have R:Res E (k (iu++[]) om) F0 H0 ju P:=R;rw[ce]at R;exact .inl ⟨j2 _ (aM _),hk M G ra R hDm⟩
def Iv{fi:FI}(hk:Ur E k){σ:St}{H:Hp}{Q:VK}(h:tE E (Z8 k js fi c f) σ H Q):Kc (tI E fi) js (λ_ _ _ _=>tT E0 c) (λ_ _ _ _=>tE E0 f) σ H Q:=by
 obtain⟨F,β,om,sl,M,V,R⟩:=h;refine⟨F,β,om,sl,M,V,R.bind λws om1 F1 H1 ij g1 M1 R1 J hJ D hD _ _ _ _=>?_⟩;obtain⟨jU,R1⟩:=Res.chk R1;exact Ty (C:=λ_=>True) (mk:=λw=>Xq js w sl) (K:=λx H' P=>P (Sg js (some x) σ) H') (λ_=>True) (λF H β=>Gx F1 F H1 H ij β) (λ_ V r _ h=>h _ (V.comp js r)) (λ_ _=>True.intro) (λ_ a b=>a.trans b) (λ_=>True.intro) hJ (λM' G' rs R' ke=>(hk M' rs (Res.mono G' R')).2 ke) M1 (V.mono g1.toGr) (Gx.refl _ _ _) hD (bD jU) R1
def parts:Wv->List Wv
 |.tup ws=>ws
 |_=>[]
def Go(n:Nat):Wv->Bool
 |.tup ws=>decide (ws.length=n)
 |_=>false
def VM(js:iC)(w:Wv)(sl:Sl):Sl:=(parts w).map some++js.map λj=>(sl[j]?).join
def XE(k:iI->Mw Wv)(n:Nat)(js:iC)(fi:FI)(c:FT)(f:FE):FE:=λsl=>bnd (fi sl) λws=>bnd (chk (decide (ws.length<=lim)&&ws.all (Go n))) λ_=>bnd (Xo c f (λw=>VM js w sl) ws) k
abbrev gNs:iC->TGs
 |[]=>gNil
 |i::is=>Aa (Q4 i) (gNs is)
def Nc{H:Hp}{Q:St->Hp->Prop}:∀(k s:Nat) (pre kQ cap:St) (vs:iH),pre.length=s->kQ.length=k->vs.length=k->Q (pre++vs.map some++cap) H->gNs (List.range' s k) vs (pre++kQ++cap) H Q
 |0,s,pre,[],cap,[],_,_,_,q=>⟨rfl,q⟩
 |k+1,s,pre,a::kQ,cap,v::vs,hp,h0,hv,q=>by
  refine⟨v,vs,rfl,?_⟩
  have e:(pre++a::kQ++cap).set s (some v)=(pre++[some v])++kQ++cap:=by
   rw[bP,cp _ _ (by omega),show s-pre.length=0 by omega];simp
  show gNs (List.range' (s+1) k) vs ((pre++a::kQ++cap).set s (some v)) H Q;rw[e];refine Nc k (s+1) _ kQ cap vs (by simp[hp]) (by simpa using h0) (by simpa using hv) ?_;have e2:pre++[some v]++vs.map some++cap=pre++(v::vs).map some++cap:=by simp
  rw[e2];exact q
 |0,_,_,_::_,_,_,_,h0,_,_=>by cases h0
 |0,_,_,[],_,_::_,_,_,hv,_=>by cases hv
 |k+1,_,_,[],_,_,_,h0,_,_=>by cases h0
 |k+1,_,_,_::_,_,[],_,_,hv,_=>by cases hv
def EnvOk.compT{F:Hp}{β:h8}{σ:St}{sl:Sl}{ws:iI}{vs:iH}(V:EnvOk F β σ sl)(js:iC)(r:RWs F β ws vs):EnvOk F β (vs.map some++Sn js σ) (ws.map some++js.map λj=>(sl[j]?).join):=by
 refine⟨by simp[Sn,r.length],λi u e=>?_⟩;by_cases hi:i<ws.length
 ·rw[bA (by simpa using hi),bC]at e
  match hw:ws[i]?,e with
  |none,e=>exact nomatch e
  |some w,e=>
   have e:some (some w)=some (some u):=e;cases e;obtain⟨v,ev,rv⟩:=r.get hw;refine⟨v,?_,rv⟩;rw[bA (by rw[aA,← r.length];exact hi),bC,ev];rfl
 ·have hl:=r.length
  rw[bL (by simpa using hi),aA,bC]at e
  match hj:js[i-ws.length]?,e with
  |none,e=>exact nomatch e
  |some j,e=>
   have e:some (sl[j]?).join=some (some u):=e
   have e2:sl[j]?=some (some u):=by
    cases q:sl[j]? with
    |none=>rw[q]at e;cases e
    |some o=>
     rw[q]at e;have e:some o=some (some u):=e;cases e;rfl
   obtain⟨v',h1,h2⟩:=V.get j u e2;refine⟨v',?_,h2⟩;rw[bL (by rw[aA];omega),aA,← hl];show(js.map λj=>(σ[j]?).join)[i-ws.length]?=some (some v');rw[bC,hj,eL,h1];rfl
def K4{Kf:g8}{fi:FI}{n:Nat}(hk:Ur E k){σ:St}{H:Hp}{Q:VK}(h:tE E (XE k n js fi c f) σ H Q):My (tI E fi) n (Ff Kf n (gNs (List.range' 0 n))) js (λ_ _ _ _=>tT E0 c) (λ_ _ _ _=>tE E0 f) σ H Q:=by
 obtain⟨F,β,om,sl,M,V,R⟩:=h;refine⟨F,β,om,sl,M,V,R.bind λws om1 F1 H1 ij g1 M1 R1 J hJ D hD _ _ _ _=>?_⟩;obtain⟨jU,R1⟩:=Res.chk R1;obtain⟨nO,nP⟩:=bH.mp jU;refine Ty (C:=λ_=>True) (mk:=λw=>VM js w sl) (K:=λx H' P=>∀vs:St,vs.length=n->Ff Kf n (gNs (List.range' 0 n)) x (vs++Sn js σ) H' λjh H6=>(∃kt:St,kt.length=n∧jh=kt++Sn js σ)∧P jh H6) (λw=>Go n w=true) (λF H β=>Gx F1 F H1 H ij β) ?_ (λw hw=>de.mp nP w hw) (λ_ a b=>a.trans b) (λ_=>True.intro) hJ (λM' G' rs R' ke=>(hk M' rs (Res.mono G' R')).2 ke) M1 (V.mono g1.toGr) (Gx.refl _ _ _) hD (bD nO) R1;intro F2 H2 i8 om2 w x P M2 V2 me hn hP vs mj;cases me with
 |@tup a xs us q rs=>
  have hn:us.length=n:=bD hn;have hl:=rs.length;refine⟨a,xs,rfl,SqT.of (M2.sub _ _ q),by omega,?_⟩;refine Nc n 0 [] vs (Sn js σ) xs rfl mj (by omega) ⟨⟨xs.map some,by rw[aA];omega,by simp⟩,hP _ ?_⟩;exact V2.compT js rs
 |_=>cases hn
def Sq:Key->Wv
 |.inl i=>.int i
 |.inr x=>.str x
def JV(d:Wv):Mw (Bool × Nat × iI):=λom=>match d with
 |.o h=>match om[h]? with
  |some (.dk kvs)=>if kvs.length<=lim then some (.ok (true,h,kvs.map λp=>Sq p.1),om.set h (.dz kvs)) else none
  |some (.dz kvs)=>if kvs.length<=lim then some (.ok (false,h,kvs.map λp=>Sq p.1),om) else none
  |_=>none
 |_=>none
def JU(b:Bool)(h:Nat):Mw Unit:=λom=>if b=true then (match om[h]? with
 |some (.dz kvs)=>some (.ok (),om.set h (.dk kvs))
 |_=>none) else some (.ok (),om)
def Vo(k:iI->Mw Wv)(js:iC)(fd:FE)(c:FT)(f:FE):FE:=λsl=>bnd (fd sl) λd=>bnd (JV d) λp=>bnd (Xo c f (λw=>Xq js w sl) p.2.2) λxs=>bnd (JU p.1 p.2.1) λ_=>k xs
def Ls{F:Hp}{β:h8}{d:Addr}{ob:Obj}{kvs:iL}{ks:List (Key × V)}(rs:RK F β kvs ks):ItC (λH=>H d=some (.frz ob (.dK ks))) (Itd d ob ks) (kvs.map λp=>Sq p.1) F β:=λF' il H g s hc=>by
 have hl:=rs.length
 have key:∀{ps:iL} {qs:List (Key × V)},RK F β ps qs->∀(i:Nat) p,qs[i]?=some p->(ps.map λp=>Sq p.1)[i]?=some (Sq p.1):=by
  intro ps qs r
  induction r with
  |nil=>intro i p e;simp at e
  |cons h r ih=>
   intro i p e;cases i with
   |zero=>simp at e;subst e;rfl
   |succ i=>simpa using ih i p (by simpa using e)
 refine⟨λi w e=>?_,λi hi=>⟨hc,by rw[aA]at hi;omega⟩⟩;have hi:i<ks.length:=by have:=(aG.mp e).1;rw[aA]at this;omega
 refine⟨⟨hc,hi⟩,λx H' ⟨e1,p,e2,e3⟩=>⟨e1,?_⟩⟩;have:=key rs i p e2;rw[e]at this;cases this;subst e3;obtain⟨k',v⟩:=p;cases k' with
 |inl n=>exact .int n
 |inr y=>exact .str y
def Gx.unfrz{F F' H H':Hp}{β il:h8}{d:Addr}{u:HO}{ob:Obj}{om:iM}{h:Nat}(hb:β[h]?=some d)(M:MOk F H β om)(hz:H d=some (.frz ob u))(hu:∀o w,u≠.frz o w)(g:Gx F F' H H' β il):Gx F F' (upd H d u) (upd H' d u) β il:=by
 have nd:∀b,b ∉ β->b≠d:=λb n z=>n (z ▸ bM hb)
 refine⟨g.toGr,λb o e n=>?_,λb e=>?_,λb m=>?_,λb o e=>?_,λb o w e=>?_⟩
 ·rw[ZA (nd b n)]at e ⊢;exact g.keep b o e n
 ·by_cases z:b=d
  ·rw[z,ZG]at e;cases e
  ·rw[ZA z]at e ⊢;exact g.there b e
 ·by_cases z:b=d
  ·rw[z];exact .inl (bM hb)
  ·rw[ZA z];exact g.new b m
 ·by_cases z:b=d
  ·rcases g.fnew b o e with q|q
   ·exact .inl q
   ·rw[z,hz]at q;cases q
  ·rw[ZA z];exact g.fnew b o e
 ·by_cases z:b=d
  ·rw[z,ZG]at e;cases e;exact absurd rfl (hu o w)
  ·rw[ZA z]at e ⊢;exact g.frz b o w e
def Held(h:Nat)(d:Addr)(ob:Obj)(ks:List (Key × V))(F1 H1:Hp)(ij:h8):Hp->Hp->List Addr->Prop:=λF H β=>β[h]?=some d∧H d=some (.frz ob (.dK ks))∧Gx F1 F H1 (upd H d (.dK ks)) ij β
def Held.go{h:Nat}{d:Addr}{ob:Obj}{ks:List (Key × V)}{F1 H1 F F' H H':Hp}{ij β il:h8}{om:iM}(M:MOk F H β om)(G:Held h d ob ks F1 H1 ij F H β)(g:Gx F F' H H' β il):Held h d ob ks F1 H1 ij F' H' il:=
 ⟨g.pre h d G.1,g.frz d _ _ G.2.1,G.2.2.trans (g.unfrz G.1 M G.2.1 (λ_ _ z=>by cases z))⟩
def Held.start{h:Nat}{d:Addr}{ob:Obj}{ks:List (Key × V)}{F1 H1:Hp}{ij:h8}(eb:ij[h]?=some d)(jj:H1 d=some (.dK ks)):Held h d ob ks F1 H1 ij F1 (upd H1 d (.frz ob (.dK ks))) ij:=by
 have back:upd (upd H1 d (.frz ob (.dK ks))) d (.dK ks)=H1:=by
  rw[IL];funext b;by_cases z:b=d
  ·rw[z,ZG,jj]
  ·rw[ZA z]
 exact⟨eb,ZG,by rw[back];exact Gx.refl _ _ _⟩
def Held.thw{γ:Type}{k:Unit->Mw γ}{h:Nat}{d:Addr}{ob:Obj}{ks:List (Key × V)}{F1 H1 F H:Hp}{ij β:h8}{om:iM}{P:γ->Hp->Hp->List Addr->Prop}(M:MOk F H β om)(G:Held h d ob ks F1 H1 ij F H β)(R:Res E (bnd (JU true h) k om) F1 H1 ij P):∃kvs,MOk F (upd H d (.dK ks)) β (om.set h (.dk kvs))∧Res E (k () (om.set h (.dk kvs))) F1 H1 ij P:=by
 obtain⟨jt,kg,gg⟩:=G;unfold bnd JU at R;rw[aC rfl]at R
 match hy:om[h]?,R with
 |none,R=>exact R.elim
 |some (.ins _ _),R=>exact R.elim
 |some (.exc _),R=>exact R.elim
 |some (.lst _),R=>exact R.elim
 |some (.dt _),R=>exact R.elim
 |some (.dk _),R=>exact R.elim
 |some (.dz jm),R=>
  obtain⟨a',ea,_,nF,oU,lx,ky⟩:=M.at hy;rw[jt]at ea;cases ea;rw[kg]at lx;cases lx;exact⟨jm,M.put jt ⟨ks,ZG,ky⟩,R⟩
def Res.frz{γ:Type}{k:Bool × Nat × iI->Mw γ}{F H:Hp}{β:h8}{om:iM}{w:Wv}{v:V}{P:γ->Hp->Hp->List Addr->Prop}(M:MOk F H β om)(r:RW F β w v)(R:Res E (bnd (JV w) k om) F H β P):∃h d ks kvs,v=.ref d∧β[h]?=some d∧RK F β kvs ks∧kvs.length<=lim∧((H d=some (.dK ks)∧(∀ob,MOk F (upd H d (.frz ob (.dK ks))) β (om.set h (.dz kvs)))∧Res E (k (true,h,kvs.map λp=>Sq p.1) (om.set h (.dz kvs))) F H β P)∨∃ob,H d=some (.frz ob (.dK ks))∧Res E (k (false,h,kvs.map λp=>Sq p.1) om) F H β P):=by
 cases r with
 |@o h d eb=>
  unfold bnd JV at R;dsimp only at R
  match hx:om[h]?,R with
  |none,R=>exact R.elim
  |some (.ins _ _),R=>exact R.elim
  |some (.exc _),R=>exact R.elim
  |some (.lst _),R=>exact R.elim
  |some (.dt _),R=>exact R.elim
  |some (.dk kvs),R=>
   obtain⟨a',ea,hF,ks,jj,rs⟩:=M.at hx;have eb2:=ea;rw[eb]at ea;cases ea;dsimp only at R;by_cases im:kvs.length<=lim
   ·rw[aC im]at R
    exact⟨h,d,ks,kvs,rfl,eb2,rs,im,.inl ⟨jj,λob=>M.put eb2 ⟨ob,ks,ZG,rs⟩,R⟩⟩
   ·rw[aE im]at R;exact R.elim
  |some (.dz kvs),R=>
   obtain⟨a',ea,hF,ob,ks,jj,rs⟩:=M.at hx;have eb2:=ea;rw[eb]at ea;cases ea;dsimp only at R;by_cases im:kvs.length<=lim
   ·rw[aC im]at R
    exact⟨h,d,ks,kvs,rfl,eb2,rs,im,.inr ⟨ob,jj,R⟩⟩
   ·rw[aE im]at R;exact R.elim
 |_=>exact R.elim
def LZ{X:Cx}{fd:FE}(hk:Ur E k){σ:St}{H:Hp}{Q:VK}(h:tE E (Vo k js fd c f) σ H Q):Kc (AO X (tE E fd)) js (λ_ _ _ _=>tT E0 c) (λ_ _ _ _=>tE E0 f) σ H (λv=>Thawed X (Q v)):=by
 obtain⟨F,β,om,sl,M,V,R⟩:=h;refine⟨F,β,om,sl,M,V,R.bind λw om1 F1 H1 ij g1 M1 R1 v rv=>?_⟩;obtain⟨h,d,ks,kvs,rfl,eb,rs,im,R1⟩:=R1.frz M1 rv;rcases R1 with ⟨jj,Mz,R2⟩|⟨ob,jj,R2⟩
 ·refine⟨d,ks,rfl,.inl ⟨jj,λob nf D hD _ _ _ _=>?_⟩⟩
  refine Ty (C:=λH=>H d=some (.frz ob (.dK ks))) (Q:=λv=>Thawed X (Q v)) (mk:=λw=>Xq js w sl) (K:=λx H' P=>P (Sg js (some x) σ) H') (λ_=>True) (Held h d ob ks F1 H1 ij) (λ_ V r _ h=>h _ (V.comp js r)) (λ_ _=>True.intro)
   (λM' G' g'=>Held.go M' G' g') (λG'=>G'.2.1) (Ls rs) ?_ (Mz ob) (V.mono g1.toGr) (Held.start eb jj) hD (by rw[aA];exact im) R2
  intro us vs ig F' H' il M' G' ra R' ke;have kg:=G'.2.1;obtain⟨jm,Mt,R'⟩:=Held.thw M' G' R';have nDd:D≠d:=λz=>by rw[z,kg]at ke;cases ke
  have q:=(hk (p:=D) Mt ra (Res.mono G'.2.2 R')).2 (by rw[ZA nDd];exact ke);refine .inl ⟨d,ob,ks,nf,by rw[ZA (cF nDd)];exact kg,?_⟩
  have e:upd (upd H' D (.lst vs)) d (.dK ks)=upd (upd H' d (.dK ks)) D (.lst vs):=by
   funext b;by_cases z1:b=d
   ·rw[z1,ZG,ZA (cF nDd),ZG]
   ·by_cases z2:b=D
    ·rw[z2,ZA nDd,ZG,ZG]
    ·rw[ZA z1,ZA z2,ZA z2,ZA z1]
  show Q (.ref D) _;rw[e];exact q
 ·refine⟨d,ks,rfl,.inr ⟨ob,jj,λD hD _ _ _ _=>?_⟩⟩
  refine Ty (C:=λH=>H d=some (.frz ob (.dK ks))) (Q:=λv=>Thawed X (Q v)) (mk:=λw=>Xq js w sl) (K:=λx H' P=>P (Sg js (some x) σ) H') (λ_=>True) (λF H β=>Gx F1 F H1 H ij β) (λ_ V r _ h=>h _ (V.comp js r)) (λ_ _=>True.intro)
   (λ_ a b=>a.trans b) (λG'=>G'.frz d _ _ jj) (Ls rs) ?_ M1 (V.mono g1.toGr) (Gx.refl _ _ _) hD (by rw[aA];exact im) R2
  intro us vs ig F' H' il M' G' ra R' ke;have R':Res E (k us ig) F1 H1 ij (PV Q):=R';exact .inr ((hk (p:=D) M' ra (Res.mono G' R')).2 ke)
section
variable{scope:Scope}{cl:hV}{x:Str}{cn:iD}{iV ii:Expr}{iU:iE}{px pos:Pos}{fi:FI}
def CP(hk:Ur E k)(O:CompOk X oc scope cl x cn js)(hc:X.calm=true)(hi:PI X (.Name x px) ii (tI E fi))(ht:∀C ib ie fp,Th (XB X oc scope cl x cn C ib ie fp) iU (tT E0 c))(he:∀C ib ie fp,PE (XB X oc scope cl x cn C ib ie fp) iV (tE E0 f))(hs:∀v,foldedSetIterable ii X.env v=pure v:=by intro _;rfl):PE X (.ListComp iV [⟨.Name x px,ii,iU,0⟩] scope pos) (tE E (Z8 k js fi c f)):=(Hi O hc hi ht he hs).weak λσ H Q h=>Iv hk h
def Ek{xs:iD}{tg:Expr}(hk:Ur E k)(O:CompOkT X oc scope cl xs cn js)(hc:X.calm=true)(hg:∀C ib ie fp,PG (Yw X oc scope cl xs cn C ib ie fp) tg (Ff X.K xs.length (gNs (List.range' 0 xs.length))))(hi:PI X tg ii (tI E fi))(ht:∀C ib ie fp,Th (Yw X oc scope cl xs cn C ib ie fp) iU (tT E0 c))(he:∀C ib ie fp,PE (Yw X oc scope cl xs cn C ib ie fp) iV (tE E0 f))(hs:∀v,foldedSetIterable ii X.env v=pure v:=by intro _;rfl):PE X (.ListComp iV [⟨tg,ii,iU,0⟩] scope pos) (tE E (XE k xs.length js fi c f)):=(KL O hc hg hi ht he hs).weak λσ H Q h=>K4 hk h
def WQ{xs:iD}{tg:Expr}{j:Nat}{y:Str}{py i7:Pos}(hk:Ur E k)(O:CompOkT X oc scope cl xs cn js)(hc:X.calm=true)(hg:∀C ib ie fp,PG (Yw X oc scope cl xs cn C ib ie fp) tg (Ff X.K xs.length (gNs (List.range' 0 xs.length))))(hi:PI X tg ii (tI E fi))(ht:∀C ib ie fp,Th (Yw X oc scope cl xs cn C ib ie fp) iU (tT E0 c))(he:∀C ib ie fp,PE (Yw X oc scope cl xs cn C ib ie fp) iV (tE E0 f))(hN:X.N.Nodup) (hj:X.N[j]?=some y) (hy:Loc X.env.scope y) (jS:swapsWith (.ListComp iV [⟨tg,ii,iU,0⟩] scope pos) (some (.Name y py)) i7.line X.env=pure true)(hs:∀v,foldedSetIterable ii X.env v=pure v:=by intro _;rfl) (hf:X.fn y=true∨X.env.scope.names.lookup y=some .local:=by first|exact .inl rfl|exact .inr rfl):PS X (.Assign [.Name y py] (.ListComp iV [⟨tg,ii,iU,0⟩] scope pos) i7) (tS E (ZC j (XE k xs.length js fi c f))):=(R7 O hc hg hi ht he hN hj hy jS hs hf).weak λD σ H ⟨F,β,om,sl,M,V,R⟩=>by
 refine K4 hk ⟨F,β,om,sl,M,V,R.bind λw om1 F1 H1 ij g1 M1 R1 v rv=>?_⟩;exact(show Res E (ret (Fl.nx,sl.set j (some w)) om1) F1 H1 ij (FlP D) from R1).now M1 _ ((V.mono g1.toGr).set j rv)
def Fq{fd:FE}(hk:Ur E k)(O:CompOk X oc scope cl x cn js)(hc:X.calm=true)(hd:PE X ii (tE E fd))(ht:∀C ib ie fp,Th (XB X oc scope cl x cn C ib ie fp) iU (tT E0 c))(he:∀C ib ie fp,PE (XB X oc scope cl x cn C ib ie fp) iV (tE E0 f))(hs:∀v,foldedSetIterable ii X.env v=pure v:=by intro _;rfl):PE X (.ListComp iV [⟨.Name x px,ii,iU,0⟩] scope pos) (tE E (Vo k js fd c f)):=(C4 (Hi O hc (MN hd) ht he hs)).weak λσ H Q h=>LZ hk h
def JZ{j:Nat}{y:Str}{py i7:Pos}(hk:Ur E k)(O:CompOk X oc scope cl x cn js)(hc:X.calm=true)(hi:PI X (.Name x px) ii (tI E fi))(ht:∀C ib ie fp,Th (XB X oc scope cl x cn C ib ie fp) iU (tT E0 c))(he:∀C ib ie fp,PE (XB X oc scope cl x cn C ib ie fp) iV (tE E0 f))(hN:X.N.Nodup) (hj:X.N[j]?=some y) (hy:Loc X.env.scope y) (jS:swapsWith (.ListComp iV [⟨.Name x px,ii,iU,0⟩] scope pos) (some (.Name y py)) i7.line X.env=pure true)(hs:∀v,foldedSetIterable ii X.env v=pure v:=by intro _;rfl) (hf:X.fn y=true∨X.env.scope.names.lookup y=some .local:=by first|exact .inl rfl|exact .inr rfl):PS X (.Assign [.Name y py] (.ListComp iV [⟨.Name x px,ii,iU,0⟩] scope pos) i7) (tS E (ZC j (Z8 k js fi c f))):=(OE O hc hi ht he hN hj hy jS hs hf).weak λD σ H ⟨F,β,om,sl,M,V,R⟩=>by
 refine Iv hk ⟨F,β,om,sl,M,V,R.bind λw om1 F1 H1 ij g1 M1 R1 v rv=>?_⟩;exact(show Res E (ret (Fl.nx,sl.set j (some w)) om1) F1 H1 ij (FlP D) from R1).now M1 _ ((V.mono g1.toGr).set j rv)
def Ke{j:Nat}{y:Str}{py i7:Pos}{fd:FE}(hk:Ur E k)(O:CompOk X oc scope cl x cn js)(hc:X.calm=true)(hd:PE X ii (tE E fd))(ht:∀C ib ie fp,Th (XB X oc scope cl x cn C ib ie fp) iU (tT E0 c))(he:∀C ib ie fp,PE (XB X oc scope cl x cn C ib ie fp) iV (tE E0 f))(hN:X.N.Nodup) (hj:X.N[j]?=some y) (hy:Loc X.env.scope y) (jS:swapsWith (.ListComp iV [⟨.Name x px,ii,iU,0⟩] scope pos) (some (.Name y py)) i7.line X.env=pure true)(hs:∀v,foldedSetIterable ii X.env v=pure v:=by intro _;rfl) (hf:X.fn y=true∨X.env.scope.names.lookup y=some .local:=by first|exact .inl rfl|exact .inr rfl):PS X (.Assign [.Name y py] (.ListComp iV [⟨.Name x px,ii,iU,0⟩] scope pos) i7) (tS E (ZC j (Vo k js fd c f))):=(Hy (OE O hc (MN hd) ht he hN hj hy jS hs hf)).weak λD σ H ⟨F,β,om,sl,M,V,R⟩=>by
 refine LZ (Q:=λv H1=>D.nx (σ.set j (some v)) H1) hk ⟨F,β,om,sl,M,V,R.bind λw om1 F1 H1 ij g1 M1 R1 v rv=>?_⟩;exact(show Res E (ret (Fl.nx,sl.set j (some w)) om1) F1 H1 ij (FlP D) from R1).now M1 _ ((V.mono g1.toGr).set j rv)
end
end
def Ih{α γ:Type}(m:Mw α)(k:α->Mw γ):Yn (bnd m k)=bnd (Yn m) λx=>Yn (k x):=by
 funext om
 match h:m om with
 |none=>simp[bnd,Yn,h]
 |some (.ok a,ig)=>simp[bnd,Yn,h]
 |some (.error c,ig)=>simp[bnd,Yn,h]
def Ix(fd:FE)(T:TgW)(S:FS):FS:=λsl=>bnd (fd sl) λd=>bnd (JV d) λp=>bnd (Yn (VF T S p.2.2 sl)) λr=>bnd (JU p.1 p.2.1) λ_=>ret r
section
variable{X:Cx}{E:XK}{tg ii:Expr}{body:List Stmt}{fd:FE}{T:TgW}{g:TG}{S:FS}{pos:Pos}
def LV{D:Ends}{C:Hp->Prop}{J:It}{ws:iI}{σ:St}{H F F0 H0:Hp}{β ju:h8}{om:iM}{sl:Sl}{P:Fl × Sl->Hp->Hp->List Addr->Prop}{kf:Fl × Sl->Mw (Fl × Sl)}(GG:Hp->Hp->List Addr->Prop)(hG:∀{F F' H H':Hp} {β il:h8} {om:iM},MOk F H β om->GG F H β->Gx F F' H H' β il->GG F' H' il) (hC:∀{F H:Hp} {β:h8},GG F H β->C H) (ht:Jr g T) (hJ:ItC C J ws F β)(hk:∀{y:Fl × Sl} {om:iM} {F H:Hp} {β:h8},MOk F H β om->GG F H β->Res E (kf y om) F0 H0 ju P->FlP D y F H β)(M:MOk F H β om) (V:EnvOk F β σ sl) (G:GG F H β) (R:Res E (bnd (Yn (VF T S ws sl)) kf om) F0 H0 ju P):∃W:Nat->Nat->St->Hp->Prop,(∃m,W 0 m σ H)∧∀i m σ H,W i m σ H -> (J.stop i H∧D.nx σ H)∨(J.go i H∧∃N:St->Hp->Prop,(∀ir H',N ir H'->∃m',m'<m∧W (i+1) m' ir H')∧∀x H',J.yld i H x H'->g x σ H' λjh H2=>tS E S {D with nx:=N,ct:=N,bk:=D.nx} jh H2):=by
 refine⟨λi m σ H=>m=ws.length-i∧i<=ws.length∧∃F β om sl,ItC C J ws F β∧GG F H β∧MOk F H β om∧EnvOk F β σ sl∧Res E (bnd (Yn (VF T S (ws.drop i) sl)) kf om) F0 H0 ju P,⟨ws.length,by simp,cz _,F,β,om,sl,hJ,G,M,V,R⟩,?_⟩;rintro i m σ H ⟨rfl,hi,F,β,om,sl,hJ,G,M,V,R⟩;obtain⟨j1,j2⟩:=hJ F β H (Gr.refl _ _) M.sub (hC G);by_cases iR:i<ws.length
 ·obtain⟨go,yl⟩:=j1 i ws[i] (aN iR)
  refine .inr ⟨go,λir H'=>i+1<=ws.length∧∃F β om sl,ItC C J ws F β∧GG F H' β∧MOk F H' β om∧EnvOk F β ir sl∧Res E (bnd (Yn (VF T S (ws.drop (i+1)) sl)) kf om) F0 H0 ju P,λir H' ⟨h1,h2⟩=>⟨ws.length-(i+1),by omega,rfl,h1,h2⟩,λx H' hy=>?_⟩;obtain⟨rfl,rx⟩:=yl x H' hy;rw[eX iR]at R;have R:Res E (bnd (Yn (match T ws[i] sl with|none=>WM|some sl1=>bnd (S sl1) (QA λiy=>VF T S (ws.drop (i+1)) iy))) kf om) F0 H0 ju P:=R
  match hT:T ws[i] sl,R with
  |none,R=>exact R.elim
  |some sl1,R=>
   refine ht M V rx hT λjh V2=>?_
   refine⟨F,β,om,sl1,M,V2,?_⟩;dsimp only at R;rw[Ih,TF]at R;have R':=R;unfold bnd Yn at R'
   match hm:S sl1 om,R' with
   |none,R'=>exact R'.elim
   |some (.error _,_),R'=>exact R'.elim
   |some (.ok y,om1),R'=>
    have R1:Res E (bnd (Yn (QA (λiy=>VF T S (ws.drop (i+1)) iy) y)) kf om1) F0 H0 ju P:=R';intro F1 H1 ij g1 M1;have G1:=hG M G g1;obtain⟨fl,iy⟩:=y;cases fl with
    |nx=>exact λir V'=>⟨iR,F1,ij,om1,iy,hJ.mono g1.toGr,G1,M1,V',R1⟩
    |ct=>exact λir V'=>⟨iR,F1,ij,om1,iy,hJ.mono g1.toGr,G1,M1,V',R1⟩
    |bk=>exact hk (y:=(.nx,iy)) M1 G1 R1
    |rt w=>exact hk (y:=(.rt w,iy)) M1 G1 R1
 ·have e:i=ws.length:=by omega
  subst e;rw[gI]at R;exact .inl ⟨j2 _ (aM _),hk (y:=(.nx,sl)) M G (show Res E (kf (.nx,sl) om) F0 H0 ju P from R) σ V⟩
def Bu(hp:PassesOwn (model X.prog X.w) X.A X.env X.xe)(hc:X.calm=true)(hi:PE X ii (tE E fd))(hg:PG X tg g)(ht:Jr g T)(hb:PSs X body (tS E S))(hs:∀x,foldedSetIterable ii X.env x=pure x:=by intro _;rfl):PS X (.For tg ii body [] pos) (tS E (Ix fd T S)):=(Hy (El hp hc (MN hi) hg hb hs)).weak λD σ H ⟨F,β,om,sl,M,V,R⟩=>by
 refine⟨F,β,om,sl,M,V,R.bind λw om1 F1 H1 ij g1 M1 R1 v rv=>?_⟩;obtain⟨h,d,ks,kvs,rfl,eb,rs,im,R1⟩:=R1.frz M1 rv;rcases R1 with ⟨jj,Mz,R2⟩|⟨ob,jj,R2⟩
 ·refine⟨d,ks,rfl,.inl ⟨jj,λob nf=>?_⟩⟩
  refine LV (D:=Iz X D) (C:=λH=>H d=some (.frz ob (.dK ks))) (Held h d ob ks F1 H1 ij) (λM' G' g'=>Held.go M' G' g') (λG'=>G'.2.1) ht (Ls rs) ?_ (Mz ob) (V.mono g1.toGr) (Held.start eb jj) R2;intro y ig F' H' il M' G' R';have kg:=G'.2.1;obtain⟨jm,Mt,R'⟩:=Held.thw M' G' R';have q:FlP D y F' (upd H' d (.dK ks)) il:=(show Res E (some (Except.ok y,ig.set h (.dk jm))) F1 H1 ij (FlP D) from R') F' _ il G'.2.2 Mt;obtain⟨fl,iy⟩:=y;cases fl with
  |nx=>exact λir V'=>.inl ⟨d,ob,ks,nf,kg,q ir V'⟩
  |bk=>exact λir V'=>.inl ⟨d,ob,ks,nf,kg,q ir V'⟩
  |ct=>exact λir V'=>.inl ⟨d,ob,ks,nf,kg,q ir V'⟩
  |rt w=>exact λv r=>.inl ⟨d,ob,ks,nf,kg,q v r⟩
 ·refine⟨d,ks,rfl,.inr ⟨ob,jj,?_⟩⟩
  refine LV (D:=Iz X D) (C:=λH=>H d=some (.frz ob (.dK ks))) (λF H β=>Gx F1 F H1 H ij β) (λ_ a b=>a.trans b) (λG'=>G'.frz d _ _ jj) ht (Ls rs) ?_ M1 (V.mono g1.toGr) (Gx.refl _ _ _) R2;intro y ig F' H' il M' G' R';have q:FlP D y F' H' il:=(show Res E (some (Except.ok y,ig)) F1 H1 ij (FlP D) from R') F' H' il G' M';obtain⟨fl,iy⟩:=y;cases fl with
  |nx=>exact λir V'=>.inr (q ir V')
  |bk=>exact λir V'=>.inr (q ir V')
  |ct=>exact λir V'=>.inr (q ir V')
  |rt w=>exact λv r=>.inr (q v r)
end
def kWh(again:Sl->Mw (Fl × Sl))(S:FS)(sl:Sl)(b:Bool):Mw (Fl × Sl):=if b=true then bnd (S sl) (QA again) else ret (.nx,sl)
def V6(c:FT)(S:FS):Nat->FS
 |0,_=>WM
 |n+1,sl=>bnd (c sl) (kWh (λiy=>V6 c S n iy) S sl)
section
variable{X:Cx}{E:XK}{t:Expr}{body:List Stmt}{c:FT}{S:FS}{pos:Pos}
def FY(n:Nat)(hp:PassesOwn (model X.prog X.w) X.A X.env X.xe)(hc:PT X t (tT E c))(hb:PSs X body (tS E S)):PS X (.While t body [] pos) (tS E (V6 c S n)):=(Dq hp hc hb).weak λD σ H ⟨F,β,om,sl,M,V,R⟩=>by
 refine⟨λm σ H=>∃F β om sl,MOk F H β om∧EnvOk F β σ sl∧Res E (V6 c S m sl om) F H β (FlP D),⟨n,F,β,om,sl,M,V,R⟩,?_⟩;rintro m σ H ⟨F,β,om,sl,M,V,R⟩;cases m with
 |zero=>exact R.elim
 |succ m=>
  refine⟨F,β,om,sl,M,V,Res.bind (m:=c sl) (k:=kWh (λiy=>V6 c S m iy) S sl) R λb om1 F1 H1 ij g1 M1 R1=>?_⟩;cases b with
  |false=>
   rw[aE aH];exact(show Res E (ret (Fl.nx,sl) om1) F1 H1 ij (FlP D) from R1).now M1 σ (V.mono g1.toGr)
  |true=>
   rw[aC rfl];refine⟨λir H'=>∃F β om sl,MOk F H' β om∧EnvOk F β ir sl∧Res E (V6 c S m sl om) F H' β (FlP D),λir H' h=>⟨m,dQ m,h⟩,?_⟩;refine⟨F1,ij,om1,sl,M1,V.mono g1.toGr,Res.bind (m:=S sl) (k:=QA λiy=>V6 c S m iy) R1 λy om2 F2 H2 i8 g2 M2 R2=>?_⟩;obtain⟨fl,iy⟩:=y;cases fl with
   |nx=>exact λir V'=>⟨F2,i8,om2,iy,M2,V',R2⟩
   |ct=>exact λir V'=>⟨F2,i8,om2,iy,M2,V',R2⟩
   |bk=>exact(show Res E (ret (Fl.nx,iy) om2) F2 H2 i8 (FlP D) from R2).now M2
   |rt w=>exact(show Res E (ret (Fl.rt w,iy) om2) F2 H2 i8 (FlP D) from R2).now M2
end
def tM(E:XK)(f:Sl->Mw Unit):TA:=λσ H Q=>∃F β om sl,MOk F H β om∧EnvOk F β σ sl∧Res E (f sl om) F H β λ_ F' H' il=>∀vs,Q vs H'
def kFmt:Wv->Mw Unit
 |.int i=>chk (decide (i.natAbs<1000000000000))
 |_=>WM
def N5:Sl->Mw Unit:=λ_=>ret ()
def OZ(f:FE)(r:Sl->Mw Unit):Sl->Mw Unit:=λsl=>bnd (f sl) λx=>bnd (kFmt x) λ_=>r sl
def V5(C:Addr)(m:Sl->Mw Unit):FS:=λsl=>bnd (m sl) λ_=>raise C
def Gq{i:Int}(h:i.natAbs<1000000000000):i.natAbs.log2<1920:=by
 by_cases h0:i.natAbs=0
 ·rw[h0];decide
 ·exact(Nat.log2_lt h0).mpr (bI (show i.natAbs<2 ^ 40 by omega) (Nat.pow_le_pow_right (by decide) (by decide)))
section
variable{X:Cx}{E:XK}{e:Expr}{es:iE}{f:FE}{m:Sl->Mw Unit}{pos:Pos}
def PJ.weak{n:Nat}{t t':TA}(h:PJ X n es t)(w:∀σ H Q,t' σ H Q->t σ H Q):PJ X n es t':=λgV s σ H iu Q I hl q=>h gV s σ H iu Q I hl (w σ H _ q)
def Tf:PJ X 2000 [] (tM E N5):=pj_nil.weak λσ H Q ⟨F,β,om,sl,M,V,R⟩=>(show Res E (ret () om) F H β _ from R).now M []
def Vc{x:Str}{j p}(hr:PJ X 2000 es (tM E m))(hx:x.length<=2000:=by decide)(hs:evalEach (.Constant (.str x) j p::es) X.env=eval (.Constant (.str x) j p) X.env::evalEach es X.env:=by rfl):PJ X 2000 (.Constant (.str x) j p::es) (tM E m):=(Hx DX hr hs).weak λσ H Q h=>⟨⟨x,rfl,hx⟩,h⟩
def UH{p:Pos}(he:PE X e (tE E f))(hr:PJ X 2000 es (tM E m))(hs:evalEach (.FormattedValue e (-1) none p::es) X.env=eval (.FormattedValue e (-1) none p) X.env::evalEach es X.env:=by rfl):PJ X 2000 (.FormattedValue e (-1) none p::es) (tM E (OZ f m)):=(Hx (pe_fmt he) hr hs).weak λσ H Q ⟨F,β,om,sl,M,V,R⟩=>by
 refine⟨F,β,om,sl,M,V,R.bind λw om1 F1 H1 ij g1 M1 R1 v rv=>?_⟩;cases rv with
 |int i=>
  obtain⟨hc,R2⟩:=Res.chk R1;have hl:=Gq (bD hc);exact⟨i,rfl,hl,⟨_,rfl,Gp hl (by decide)⟩,F1,ij,om1,sl,M1,V.mono g1.toGr,R2⟩
 |_=>exact R1.elim
def DL{x:Str}{C:Addr}{kq:iA}{B ji jy:String}{iS iT:Expr}{rest:iE}{np io p2:Pos}(FB:ExcBaseFacts B ji jy kq)(q:PySem.W.excIn X.K C kq ji=true)(hg:Gl X x)(hm:X.mg x=some (.ref C))(hc:X.calm=true)(hE:Lw X E)(h:PJ X 2000 (iS::iT::rest) (tM E m)) (hn:2000 * (iS::iT::rest).length<=16000000:=by decide)(hs:evalEach (iS::iT::rest) X.env=eval iS X.env::eval iT X.env::evalEach rest X.env:=by rfl)(he:starEach [.JoinedStr (iS::iT::rest) p2] X.env=(false,eval (.JoinedStr (iS::iT::rest) p2) X.env)::starEach [] X.env:=by rfl) (iO:(backTo io (starEach [] X.env)).any (·.1)=false:=by rfl) (jn:(x == ("__debug__":Str))=false:=by decide):PS X (.Raise (some (.Call (.Name x np) [.JoinedStr (iS::iT::rest) p2] [] io)) none pos) (tS E (V5 C m)):=(Et (E:=E) FB q hg hm hc hE (Wz (Be h hn hs) V8 he) he iO jn).weak λD σ H ⟨F,β,om,sl,M,V,R⟩=>by
 refine⟨F,β,om,sl,M,V,R.bind λw om1 F1 H1 ij g1 M1 R1 vs z=>⟨by show 1<=sizeLine;decide,?_⟩⟩;exact(show Res E (raise C om1) F1 H1 ij (FlP D) from R1) F1 H1 ij (Gx.refl _ _ _) M1
end
def Ie:Fl × Sl->Mw Wv
 |(.rt w,_)=>ret w
 |(.nx,_)=>ret .non
 |_=>WM
def Vl(n:Nat)(ws:iI):Sl:=ws.map some++List.replicate (n-ws.length) none
def Yj(n:Nat)(S:FS)(ws:iI):Mw Wv:=bnd (S (Vl n ws)) Ie
def EnvOk.start{F:Hp}{β:h8}{ws:iI}{vs:iH}(N:iD)(r:RWs F β ws vs):EnvOk F β (L2.start N vs) (Vl N.length ws):=by
 have hl:=r.length;refine⟨by simp[L2.start,Vl,hl],λi w e=>?_⟩;unfold Vl at e;unfold L2.start;by_cases hi:i<ws.length
 ·rw[bA (by simpa using hi),bC]at e
  match hw:ws[i]?,e with
  |none,e=>exact nomatch e
  |some u,e=>
   have e:some (some u)=some (some w):=e;cases e;obtain⟨v,ev,rv⟩:=r.get hw;refine⟨v,?_,rv⟩;rw[bA (by rw[aA];omega),bC,ev];rfl
 ·rw[bL (by simpa using hi)]at e
  have:=bM e;rw[List.mem_replicate]at this;exact nomatch this.2
section
variable{P:Program}{w:World}{K:g8}{mg:g7}{base:Heap}
def fn_ok{x qual:Str}{st:Stmt}{f:Addr}{fd:FuncData}{N ps:iD}{k:Nat}{S:FS}(F:Fun K x qual st f fd)(Sc:FnScope N ps (YF st))(h:∀(i9:Value) (A:Around) (outer:List Env) (s:Shared) (H:Hp) (E:XK),Room k (A.deeper (envOfC qual (YF st) s.heap.objs.size f i9))->PSs (OI (CXw P w) P w K mg base N qual (YF st) f i9 A outer s H E) (UD st) (tS E S)):FnOk P w K mg base (CXw P w) (k+1) f fd ps (spM ps.length (Yj N.length S)):=by
 refine F.okX Sc (λvs H Q E h=>?_) (λi9 A outer s H vs Q E hr ko=>⟨_,h i9 A outer s H E hr,?_⟩)
 ·obtain⟨F,β,om,ws,M,rs,hl,R⟩:=h
  rw[← rs.length,hl]
 ·obtain⟨F,β,om,ws,M,rs,hl,R⟩:=ko
  refine⟨F,β,om,_,M,EnvOk.start N rs,Res.bind (m:=S (Vl N.length ws)) (k:=Ie) R λy om1 F1 H1 ij g1 M1 R1=>?_⟩;obtain⟨fl,sl⟩:=y;cases fl with
  |nx=>exact λir V'=>(show Res E (ret Wv.non om1) F1 H1 ij (PV Q) from R1).now M1 _ .non
  |bk=>exact R1.elim
  |ct=>exact R1.elim
  |rt u=>exact(show Res E (ret u om1) F1 H1 ij (PV Q) from R1).now M1
end
end
open PySem PySem.W PyProof.Rows
structure Swo(lt:Nat->Nat->Bool):Prop where
 irr:∀a,lt a a=false
 tr:∀a b c,lt a b=true->lt b c=true->lt a c=true
 neg:∀a b c,lt a c=true->lt a b=true∨lt b c=true
def Hs{α:Type}(lt:Nat->Nat->Bool)(n:Nat)(Q:α->Prop):KasT α->Prop
 |.ret a=>Q a
 |.ask i j k=>i<n∧j<n∧Hs lt n Q (k (lt i j))
def Hs.bind{α γ:Type}{lt:Nat->Nat->Bool}{n:Nat}{Q:γ->Prop}{f:α->KasT γ}:∀{t:KasT α},Hs lt n (λa=>Hs lt n Q (f a)) t->Hs lt n Q (t.bind f)
 |.ret a,h=>h
 |.ask i j k,⟨h1,h2,h3⟩=>⟨h1,h2,Hs.bind h3⟩
def Hs.wp{α:Type}{lt:Nat->Nat->Bool}{n:Nat}{Q':α->Prop}{Q:α->Shared->Prop}{cmp:Nat->Nat->(Bool->Shared->Prop)->Shared->Prop}{s:Shared}(hc:∀i j C,i<n->j<n->C (lt i j) s->cmp i j C s)(hq:∀a,Q' a->Q a s):∀{t:KasT α},Hs lt n Q' t->t.kasWp cmp Q s
 |.ret a,h=>hq a h
 |.ask i j k,⟨h1,h2,h3⟩=>hc i j _ h1 h2 (Hs.wp hc hq h3)
def gN(p:Array Nat)(i:Nat):Nat:=p.getD i 0
def Kj{p q:Array Nat}{i j:Nat}(h:p[i]?=q[j]?):gN p i=gN q j:=by
 unfold gN;rw[bQ,bQ,h]
def Pk{p:Array Nat}{i j:Nat}(hj:j<=p.size)(k:Nat):gN (kas_rev p i j) k=if i<=k∧k<j then gN p (i+j-1-k) else gN p k:=by
 have e:=getElem?_mirror_all (xs:=p) (i:=i) hj k;unfold kas_rev;split at e <;> rename_i h
 ·rw[aC h];exact Kj e
 ·rw[aE h];exact Kj e
def DV{p:Array Nat}{k d:Nat}(hs:k<p.size)(hd:d<=k)(i:Nat):gN (bubble p k d) i=if i=k-d then gN p k else if k-d<i∧i<=k then gN p (i-1) else gN p i:=by
 have e:=getElem?_bubble hs d hd i;by_cases h1:i=k-d
 ·rw[aC h1]at e ⊢;exact Kj e
 ·rw[aE h1]at e ⊢
  by_cases h2:k-d<i∧i<=k
  ·rw[aC h2]at e ⊢;exact Kj e
  ·rw[aE h2]at e ⊢;exact Kj e
structure Pm(n:Nat)(p:Array Nat):Prop where
 size:p.size=n
 perm:p.toList.Perm (List.range n)
def Pm.lt{n:Nat}{p:Array Nat}(P:Pm n p)(hn:0<n)(i:Nat):gN p i<n:=by
 unfold gN;by_cases h:i<p.size
 ·rw[bQ,bZ h]
  have:p[i]∈p.toList:=by simp
  have:=P.perm.mem_iff.mp this;simpa using this
 ·rw[bQ,fR (by omega)]
  exact hn
def Pm.rev{n:Nat}{p:Array Nat}(P:Pm n p)(i j:Nat):Pm n (kas_rev p i j):=
 ⟨(mirror_size _ _ _ _).trans P.size,(gZ.mp (mirror_perm _ _ _ _)).trans P.perm⟩
def Pm.bub{n:Nat}{p:Array Nat}(P:Pm n p)(k d:Nat):Pm n (bubble p k d):=
 ⟨(bubble_size _ _ _).trans P.size,(gZ.mp (bubble_perm _ _ _)).trans P.perm⟩
section
variable{lt:Nat->Nat->Bool}(O:Swo lt){n:Nat}
def le'(lt:Nat->Nat->Bool)(a b:Nat):Prop:=lt b a=false
include O
theorem Ww{a b c:Nat}(h1:le' lt a b)(h2:le' lt b c):le' lt a c:=by
 unfold le' at *;cases h:lt c a with
 |false=>rfl
 | true => rcases O.neg c b a h with z | z
           ·rw[h2]at z;cases z
           ·rw[h1]at z;cases z
theorem Li{a b:Nat}(h:lt a b=true):le' lt a b:=by
 unfold le';cases z:lt b a with
 |false=>rfl
 |true=>have:=O.tr a b a h z;rw[O.irr]at this;cases this
theorem lt_le'{a b c:Nat}(h1:lt a b=true)(h2:le' lt b c):lt a c=true:=by
 rcases O.neg a c b h1 with z|z
 ·exact z
 ·rw[h2]at z;cases z
omit O in
def Srt(lt:Nat->Nat->Bool)(p:Array Nat)(m:Nat):Prop:=∀i j,i<=j->j<m->le' lt (gN p i) (gN p j)
omit O in
def Fal(lt:Nat->Nat->Bool)(p:Array Nat)(m:Nat):Prop:=∀i j,i<=j->j<m->le' lt (gN p j) (gN p i)
theorem Srt.more{p:Array Nat}{m:Nat}(h1:1<=m)(S:Srt lt p m)(h:le' lt (gN p (m-1)) (gN p m)):Srt lt p (m+1):=λi j jJ hj=>by
 by_cases ly:j<m
 ·exact S i j jJ ly
 ·have:j=m:=by omega
  subst this;by_cases hi:i=j
  ·subst hi;exact O.irr _
  ·exact Ww O (S i (j-1) (by omega) (by omega)) h
theorem Fal.more{p:Array Nat}{m:Nat}(h1:1<=m)(S:Fal lt p m)(h:le' lt (gN p m) (gN p (m-1))):Fal lt p (m+1):=λi j jJ hj=>by
 by_cases ly:j<m
 ·exact S i j jJ ly
 ·have:j=m:=by omega
  subst this;by_cases hi:i=j
  ·subst hi;exact O.irr _
  ·exact Ww O h (S i (j-1) (by omega) (by omega))
theorem JJ{p:Array Nat}(P:Pm n p)(hn:0<n){Q:Nat->Prop}:∀(f m:Nat),1<=m->Srt lt p m->(∀k,m<=k->k<=m+f->Srt lt p k->(k<m+f->lt (gN p k) (gN p (k-1))=true)->Q k)->Hs lt n Q (kas_asc p f m)
 |0,m,h1,S,q=>q m (aM _) (aM _) S λz=>absurd z (cP _)
 |f+1,m,h1,S,q=>by
  refine⟨P.lt hn m,P.lt hn (m-1),?_⟩;cases h:lt (p.getD m 0) (p.getD (m-1) 0) with
  |true=>dsimp only;rw[aC rfl];exact q m (aM _) (by omega) S λ_=>h
  |false=>
   dsimp only;rw[aE aH];exact JJ P hn f (m+1) (by omega) (S.more O h1 h) λk h2 h3 S' h4=>q k (by omega) (by omega) S' λz=>h4 (by omega)
omit O in
def Eq'(lt:Nat->Nat->Bool)(a b:Nat):Prop:=le' lt a b∧le' lt b a
omit O in
def Tl(lt:Nat->Nat->Bool)(p:Array Nat)(m c:Nat):Prop:=∀i,m-c<=i->i<m->Eq' lt (gN p i) (gN p (m-1))
theorem MA{p:Array Nat}{m c:Nat}(hm:m<=p.size)(hc:c<=m)(S:Fal lt p m)(T:Tl lt p m c):Fal lt (kas_rev p (m-c) m) m∧(∀i,i<m->Eq' lt (gN (kas_rev p (m-c) m) i) (gN p i)):=by
 have e:∀i,i<m->Eq' lt (gN (kas_rev p (m-c) m) i) (gN p i):=λi hi=>by
  rw[Pk hm];by_cases h:m-c<=i∧i<m
  ·rw[aC h]
   have t1:=T (m-c+m-1-i) (by omega) (by omega);have t2:=T i h.1 h.2;exact⟨Ww O t1.1 t2.2,Ww O t2.1 t1.2⟩
  ·rw[aE h];exact⟨O.irr _,O.irr _⟩
 exact⟨λi j jJ hj=>Ww O (e j hj).1 (Ww O (S i j jJ hj) (e i (by omega)).2),e⟩
theorem QS(hn:0<n){Q:Array Nat × Nat × Nat->Prop}:∀(f:Nat) (p:Array Nat) (m q:Nat),Pm n p->1<=m->q+1<=m->m+f<=n->Fal lt p m->Tl lt p m (q+1) -> (∀p' k q',Pm n p'->m<=k->k<=m+f->q'+1<=k->Fal lt p' k->Tl lt p' k (q'+1)->Q (p',k,q'))->Hs lt n Q (kas_desc f p m q)
 |0,p,m,q,P,h1,hq,hm,S,T,k=>k p m q P (aM _) (aM _) hq S T
 |f+1,p,m,q,P,h1,hq,hm,S,T,k=>by
  refine⟨P.lt hn m,P.lt hn (m-1),?_⟩;cases h:lt (p.getD m 0) (p.getD (m-1) 0) with
  |true=>
   dsimp only;rw[aC rfl];have hl:le' lt (gN p m) (gN p (m-1)):=Li O h;by_cases hq0:q > 0
   ·rw[aC hq0]
    obtain⟨S1,E1⟩:=MA O (by rw[P.size];omega) hq S T;refine QS hn f _ (m+1) 0 (P.rev _ _) (by omega) (by omega) (by omega) (Fal.more O h1 S1 ?_) (λi hi kY=>?_) λp' k' q' P' a1 a2 a3 a4 a5=>k p' k' q' P' (by omega) (by omega) a3 a4 a5
    ·have e2:gN (kas_rev p (m-(q+1)) m) m=gN p m:=by rw[Pk (by rw[P.size];omega),aE (by omega)]
     rw[e2];exact Ww O hl (E1 (m-1) (by omega)).2
    ·have:i=m+1-1:=by omega
     rw[this];exact⟨O.irr _,O.irr _⟩
   ·rw[aE hq0]
    refine QS hn f _ (m+1) 0 P (by omega) (by omega) (by omega) (Fal.more O h1 S hl) (λi hi kY=>?_) λp' k' q' P' a1 a2 a3 a4 a5=>k p' k' q' P' (by omega) (by omega) a3 a4 a5
    have:i=m+1-1:=by omega
    rw[this];exact⟨O.irr _,O.irr _⟩
  |false=>
   dsimp only;rw[aE aH];refine⟨P.lt hn (m-1),P.lt hn m,?_⟩;cases h2:lt (p.getD (m-1) 0) (p.getD m 0) with
   |true=>dsimp only;rw[aC rfl];exact k p m q P (aM _) (by omega) hq S T
   |false=>
    dsimp only;rw[aE aH];have e:Eq' lt (gN p m) (gN p (m-1)):=⟨h2,h⟩;refine QS hn f p (m+1) (q+1) P (by omega) (by omega) (by omega) (Fal.more O h1 S e.1) (λi hi kY=>?_) λp' k' q' P' a1 a2 a3 a4 a5=>k p' k' q' P' (by omega) (by omega) a3 a4 a5
    show Eq' lt (gN p i) (gN p m);by_cases him:i=m
    ·rw[him];exact⟨O.irr _,O.irr _⟩
    ·have t:=T i (by omega) (by omega)
     exact⟨Ww O t.1 e.2,Ww O e.1 t.2⟩
theorem Bg{p:Array Nat}{m:Nat}(hm:m<=p.size)(S:Fal lt p m):Srt lt (kas_rev p 0 m) m:=λi j jJ hj=>by
 rw[Pk hm,Pk hm,aC (by omega),aC (by omega)];exact S _ _ (by omega) (by omega)
theorem IZ{p:Array Nat}{m:Nat}(P:Pm n p)(hn:0<n)(h1:1<=m)(hm:m<=n)(S:Fal lt p m){Q:Nat × Array Nat->Prop}(k:∀c p',Pm n p'->1<=c->c<=n->Srt lt p' c->Q (c,p')):Hs lt n Q (kas_tail3 m n p):=by
 unfold kas_tail3;refine Hs.bind (JJ O (P.rev 0 m) hn (n-m) m h1 (Bg O (by rw[P.size];exact hm) S) λc h2 h3 S' _=>?_);exact k c _ (P.rev 0 m) (by omega) (by omega) S'
theorem R0{p:Array Nat}{m:Nat}(P:Pm n p)(hn:0<n)(h1:1<=m)(hm:m+1<=n)(S:Fal lt p (m+1)){Q:Nat × Array Nat->Prop}(k:∀c p',Pm n p'->1<=c->c<=n->Srt lt p' c->Q (c,p')):Hs lt n Q (kas_descPart m n p):=by
 unfold kas_descPart;refine Hs.bind (QS O hn _ p (m+1) 0 P (by omega) (by omega) (by omega) S (λi hi kY=>?_) λp' c q P' a1 a2 a3 a4 a5=>?_)
 ·have:i=m+1-1:=by omega
  rw[this];exact⟨O.irr _,O.irr _⟩
 ·dsimp only
  by_cases hq:q > 0
  ·rw[aC hq]
   exact IZ O (P'.rev _ _) hn (by omega) (by omega) (MA O (by rw[P'.size];omega) a3 a4 a5).1 k
  ·rw[aE hq]
   exact IZ O P' hn (by omega) (by omega) a4 k
theorem DT{p:Array Nat}(P:Pm n p)(hn:0<n){Q:Nat × Array Nat->Prop}(k:∀c p',Pm n p'->1<=c->c<=n->Srt lt p' c->Q (c,p')):Hs lt n Q (kas_count n p):=by
 unfold kas_count;refine Hs.bind (JJ O P hn (n-1) 1 (aM _) (λi j jJ hj=>?_) λm h1 h2 S h3=>?_)
 ·have:i=j:=by omega
  rw[this];exact O.irr _
 ·by_cases he:(m == n)=true
  ·rw[aC he]
   exact k m p P h1 (by have:=eq_of_beq he;omega) S
  ·rw[aE he]
   have jb:m≠n:=λz=>he (df.mpr z)
   have iR:=h3 (by omega);by_cases hm:m > 1
   ·rw[aC hm]
    refine⟨P.lt hn 0,P.lt hn (m-1),?_⟩;cases hc:lt (p.getD 0 0) (p.getD (m-1) 0) with
    |true=>dsimp only;rw[aC rfl];exact k m p P h1 (by omega) S
    |false=>
     dsimp only;rw[aE aH];have alike:∀i,i<m->Eq' lt (gN p i) (gN p (m-1)):=λi hi=>⟨S i (m-1) (by omega) (by omega),Ww O (show le' lt (gN p (m-1)) (gN p 0) from hc) (S 0 i (by omega) hi)⟩
     have F:Fal lt p m:=λi j jJ hj=>Ww O (alike j hj).1 (alike i (by omega)).2
     obtain⟨F1,E1⟩:=MA O (c:=m) (by rw[P.size];omega) (aM _) F λi _ hi=>alike i hi
     rw[eQ]at F1 E1;refine R0 O (P.rev 0 m) hn (by omega) (by omega) (Fal.more O (by omega) F1 ?_) k;have e2:gN (kas_rev p 0 m) m=gN p m:=by rw[Pk (by rw[P.size];omega),aE (by omega)]
     rw[e2];exact Ww O (Li O iR) (E1 (m-1) (by omega)).2
   ·rw[aE hm]
    have kZ:m=1:=by omega
    subst kZ;refine R0 O P hn (by omega) (by omega) (Fal.more O (by omega) (λi j jJ hj=>?_) (Li O iR)) k;have:i=j:=by omega
    rw[this];exact O.irr _
theorem Pw{p:Array Nat}{k:Nat}(P:Pm n p)(hn:0<n)(S:Srt lt p k){Q:Nat->Prop}:∀(f l r:Nat),l<=r->r<=k->r-l<=f->(∀i,i<l->le' lt (gN p i) (gN p k))->(∀i,r<=i->i<k->lt (gN p k) (gN p i)=true) -> (∀m,m<=k->(∀i,i<m->le' lt (gN p i) (gN p k))->(∀i,m<=i->i<k->lt (gN p k) (gN p i)=true)->Q m)->Hs lt n Q (kas_place p k f l r)
 |0,l,r,h1,h2,h3,a,b,q=>q l (by omega) a λi hi hk=>b i (by omega) hk
 |f+1,l,r,h1,h2,h3,a,b,q=>by
  unfold kas_place;by_cases hlr:l ≥ r
  ·rw[aC hlr]
   exact q l (by omega) a λi hi hk=>b i (by omega) hk
  ·rw[aE hlr]
   refine⟨P.lt hn k,P.lt hn _,?_⟩;cases hc:lt (p.getD k 0) (p.getD ((l+r) / 2) 0) with
   |true=>
    dsimp only;rw[aC rfl];refine Pw P hn S f l ((l+r) / 2) (by omega) (by omega) (by omega) a (λi hi hk=>lt_le' O hc (S _ _ hi hk)) q
   |false=>
    dsimp only;rw[aE aH];refine Pw P hn S f ((l+r) / 2+1) r (by omega) (by omega) (by omega) (λi hi=>Ww O (S i ((l+r) / 2) (by omega) (by omega)) hc) b q
theorem C8{p:Array Nat}{k m:Nat}(hk:k<p.size)(hm:m<=k)(S:Srt lt p k)(a:∀i,i<m->le' lt (gN p i) (gN p k))(b:∀i,m<=i->i<k->lt (gN p k) (gN p i)=true):Srt lt (bubble p k (k-m)) (k+1):=λi j jJ hj=>by
 have e:k-(k-m)=m:=by omega
 rw[DV hk (by omega),DV hk (by omega),e];by_cases hi:i=m
 ·rw[aC hi]
  by_cases hj2:j=m
  ·rw[aC hj2];exact O.irr _
  ·rw[aE hj2,aC (by omega)];exact Li O (b _ (by omega) (by omega))
 ·rw[aE hi]
  by_cases kY:m<i∧i<=k
  ·rw[aC kY,aE (by omega),aC (by omega)];exact S _ _ (by omega) (by omega)
  ·rw[aE kY]
   by_cases hj2:j=m
   ·rw[aC hj2];exact a i (by omega)
   ·rw[aE hj2]
    by_cases hj3:m<j∧j<=k
    ·rw[aC hj3];exact S _ _ (by omega) (by omega)
    ·rw[aE hj3];exact S _ _ jJ (by omega)
theorem DH(hn:0<n){Q:Array Nat->Prop}:∀(f:Nat) (p:Array Nat) (k:Nat),Pm n p->k+f<=n->Srt lt p k->(∀p',Pm n p'->Srt lt p' (k+f)->Q p')->Hs lt n Q (kas_bin f p k)
 |0,p,k,P,h,S,q=>q p P S
 |f+1,p,k,P,h,S,q=>by
  unfold kas_bin;refine Hs.bind (Pw O P hn S k 0 k (cz _) (aM _) (by omega) (λi hi=>absurd hi (d0 _)) (λi h1 h2=>absurd h2 (by omega)) λm hm a b=>?_);exact DH hn f _ (k+1) (P.bub _ _) (by omega) (C8 O (by rw[P.size];omega) hm S a b) λp' P' S'=>q p' P' (by rw[show k+(f+1)=k+1+f by omega];exact S')
theorem C2(hn:0<n):Hs lt n (λp=>Pm n p∧Srt lt p n) (kas_sort n):=by
 unfold kas_sort;have P0:Pm n (List.toArray (List.range n)):=⟨by simp,by simp⟩;refine Hs.bind (DT O P0 hn λc p' P h1 h2 S=>?_);dsimp only;by_cases hc:c<n
 ·rw[aC hc]
  have hm:max c 1=c:=by omega
  rw[hm];refine DH O hn (n-c) p' c P (by omega) S λp2 P2 S2=>⟨P2,?_⟩
  rw[show c+(n-c)=n by omega]at S2;exact S2
 ·rw[aE hc]
  have:c=n:=by omega
  subst this;exact⟨P,S⟩
end
end L2
namespace L2
noncomputable section
open PySem PySem.Spec PyProof.Rows
section
variable{X:Cx}{E:XK}{e a b c o:Expr}{es:iE}{f fa fb fc fo:FE}{fs:FA}{pos p2 p p':Pos}
def To{x:Str}{i:Int}(hg:Gl X x)(h:∃t,X.mg x=some (.int i t))(hd:(x == ("__debug__":Str))=false:=by decide):PE X (.Name x pos) (tE E (fC (.int i))):=
 let ⟨_,h⟩:=h;Gn (Hg (v:=.int i) hg h ⟨_,rfl⟩ hd) λ_ _=>.int i
def rCatR:R2:=λx y H Q=>∃l b xs zs,x=.ref l∧y=.ref b∧Rd H l (.lst xs)∧Rd H b (.lst zs)∧xs.length+zs.length<=sizeLine∧∀p,H p=none->Q (.ref p) (upd H p (.lst (xs++zs)))
def Bq:OpR X (binaryOp .Add) rCatR:=by
 intro gV s σ H x y v u Q I rx ry h;obtain⟨l,b,xs,zs,rfl,rfl,hl,hb,hz,q⟩:=h;cases rx;cases ry;obtain⟨_,ik,n,r,e1⟩:=hl.ok I.hok;obtain⟨_,kR,m,r',e2⟩:=hb.ok I.hok;have l1:=r.length;have l2:=r'.length;refine PySem.P.add_list e1 e2 ?_ (by simp only[bE];omega);have ej:ik.toArray++kR.toArray=(ik++kR).toArray:=by simp
 rw[ej];exact⟨.ref _,_,I.lnew (t':=s.toks) (r.append r') (by rw[aS];exact hz),rfl,q _ I.fresh⟩
def PU(x y:Wv):Mw Wv:=λom=>match x,y with
 |.lst ws,.lst us=>if ws.length+us.length<=lim then some (.ok (.lst (ws++us)),om) else none
 |_,_=>none
def Le(ha:PE X a (tE E fa))(hb:PE X b (tE E fb)):PE X (.BinOp a .Add b pos) (tE E (f2 PU fa fb)):=K9 Bq (by
 intro F H β om x y v u Q M rx ry R;cases rx <;> first|exact R.elim|skip
 cases ry <;> first|exact R.elim|skip
 rename_i a xs ws q rs a' zs us q' ky
 have R:Res E (if ws.length+us.length<=lim then some (Except.ok (Wv.lst (ws++us)),om) else none) F H β (PV Q):=R;by_cases hc:ws.length+us.length<=lim
 ·rw[aC hc]at R
  have:=UJ;have:=rs.length;have:=ky.length;refine⟨a,a',xs,zs,rfl,rfl,Rd.same M.sub q,Rd.same M.sub q',by omega,λp hp=>?_⟩;obtain⟨g,M'⟩:=M.newFx (o:=.lst (xs++zs)) hp;exact R _ _ _ g M' _ (.lst (.inl ZG) ((rs.append ky).mono g.toGr))
 ·rw[aE hc]at R;exact R.elim) ha hb
end
structure ExcAll(K:g8)(isE:Addr->Bool)(kit:Addr->Value->Bool)(Ds:iA):Prop where
 k:∀C,isE C=true->ExcK K C
 a:∀C D,isE C=true->D∈Ds->PySem.W.kitOne K (.ref C) D=some (kit C D)
mutual
def small(n:Nat):Wv->Prop
 |.o h=>h<n
 |.lst ws=>smalls n ws
 |.tup ws=>smalls n ws
 |_=>True
def smalls(n:Nat):iI->Prop
 |[]=>True
 |w::r=>small n w∧smalls n r
end
def TK(n:Nat):Ob->Prop
 |.ins _ fs=>∀p∈fs,small n p.2
 |.lst ws=>smalls n ws
 |.dk kvs=>∀p∈kvs,small n p.2
 |.dt kvs=>∀p∈kvs,small n p.2
 |.exc _=>True
 |.dz kvs=>∀p∈kvs,small n p.2
mutual
def RW.small{F:Hp}{β:h8}:∀{w:Wv} {v:V},RW F β w v->small β.length w
 |_,_,.non=>trivial
 |_,_,.bl _=>trivial
 |_,_,.int _=>trivial
 |_,_,.str _=>trivial
 |_,_,.lst _ r=>RWs.small r
 |_,_,.tup _ r=>RWs.small r
 |_,_,.o e=>(aG.mp e).1
 |_,_,.g _=>trivial
def RWs.small{F:Hp}{β:h8}:∀{ws:iI} {vs:iH},RWs F β ws vs->smalls β.length ws
 |_,_,.nil=>trivial
 |_,_,.cons h r=>⟨RW.small h,RWs.small r⟩
end
def RK.small{F:Hp}{β:h8}{κ:Type}:∀{ps:List (κ × Wv)} {qs:List (κ × V)},RK F β ps qs->∀p∈ps,L2.small β.length p.2
 |_,_,.nil,_,hp=>nomatch hp
 |_,_,.cons h r,p,hp=>by
  rcases aT.mp hp with rfl|hp
  ·exact h.small
  ·exact RK.small r p hp
def MOk.small{F H:Hp}{β:h8}{om:iM}(M:MOk F H β om):∀x∈om,TK om.length x:=λx hx=>by
 obtain⟨i,hi⟩:=dA hx;obtain⟨a,_,_,r⟩:=M.at hi;rw[← M.len];cases x with
 |ins C fs=>obtain⟨_,_,_,r⟩:=r;exact r.small
 |lst ws=>obtain⟨_,_,r⟩:=r;exact r.small
 |dk kvs=>obtain⟨_,_,r⟩:=r;exact r.small
 |dt kvs=>obtain⟨_,_,r⟩:=r;exact r.small
 |exc C=>trivial
 |dz kvs=>obtain⟨_,_,_,r⟩:=r;exact r.small
mutual
inductive FzW (om:iM) (n:Nat):Wv->Wv->Prop
 |same {w:Wv} (h:small n w):FzW om n w w
 |own {h:Nat} {xs ys:iI} (hn:n<=h) (e:om[h]?=some (.lst xs)) (r:FzWs om n xs ys):FzW om n (.o h) (.lst ys)
 |lst {xs ys:iI} (r:FzWs om n xs ys):FzW om n (.lst xs) (.lst ys)
 |tup {xs ys:iI} (r:FzWs om n xs ys):FzW om n (.tup xs) (.tup ys)
inductive FzWs (om:iM) (n:Nat):iI->List Wv->Prop
 |nil:FzWs om n [] []
 |cons {x y:Wv} {xs ys:iI} (h:FzW om n x y) (r:FzWs om n xs ys):FzWs om n (x::xs) (y::ys)
end
def FzWs.of_smalls{om:iM}{n:Nat}:∀{ws:iI},smalls n ws->FzWs om n ws ws
 |[],_=>.nil
 |_::_,⟨h,r⟩=>.cons (.same h) (FzWs.of_smalls r)
section
variable{F' jo:Hp}{β il:h8}{n:Nat}(ix:Same F' jo)(ext:∀(h:Nat),h<n->il[h]?=β[h]?)
mutual
def RW.down(ix:Same F' jo)(ext:∀(h:Nat),h<n->il[h]?=β[h]?):∀{w:Wv} {v:V},RW F' il w v->L2.small n w->RW jo β w v
 |_,_,.non,_=>.non
 |_,_,.bl b,_=>.bl b
 |_,_,.int i,_=>.int i
 |_,_,.str x,_=>.str x
 |_,_,.lst e r,hs=>.lst (Rd.same ix e) (RWs.down ix ext r hs)
 |_,_,.tup e r,hs=>.tup (ix _ _ e) (RWs.down ix ext r hs)
 |_,_,.o (h:=h) e,hs=>.o ((ext h hs).symm.trans e)
 |_,_,.g a,_=>.g a
def RWs.down(ix:Same F' jo)(ext:∀(h:Nat),h<n->il[h]?=β[h]?):∀{ws:iI} {vs:iH},RWs F' il ws vs->smalls n ws->RWs jo β ws vs
 |_,_,.nil,_=>.nil
 |_,_,.cons h r,hs=>.cons (RW.down ix ext h hs.1) (RWs.down ix ext r hs.2)
end
def RK.down(ix:Same F' jo)(ext:∀(h:Nat),h<n->il[h]?=β[h]?){κ:Type}:∀{ps:List (κ × Wv)} {qs:List (κ × V)},RK F' il ps qs->(∀p∈ps,L2.small n p.2)->RK jo β ps qs
 |_,_,.nil,_=>.nil
 |_,_,.cons h r,hs=>.cons (RW.down ix ext h (hs _ (.head _))) (RK.down ix ext r λq hq=>hs q (.tail _ hq))
variable{om:iM}
mutual
def FzW.rel(ix:Same F' jo)(ext:∀(h:Nat),h<n->il[h]?=β[h]?)(own:∀h a xs,n<=h->il[h]?=some a->om[h]?=some (.lst xs)->∃zs,jo a=some (.lst zs)∧RWs F' il xs zs):∀{w w':Wv} {v:V},FzW om n w w'->RW F' il w v->RW jo β w' v
 |_,_,_,.same h,r=>r.down ix ext h
 |_,_,_,.own hn e r,.o eb=>let ⟨_,h1,h2⟩:=own _ _ _ hn eb e;.lst (.inl h1) (FzWs.rel ix ext own r h2)
 |_,_,_,.lst r,.lst e rs=>.lst (Rd.same ix e) (FzWs.rel ix ext own r rs)
 |_,_,_,.tup r,.tup e rs=>.tup (ix _ _ e) (FzWs.rel ix ext own r rs)
def FzWs.rel(ix:Same F' jo)(ext:∀(h:Nat),h<n->il[h]?=β[h]?)(own:∀h a xs,n<=h->il[h]?=some a->om[h]?=some (.lst xs)->∃zs,jo a=some (.lst zs)∧RWs F' il xs zs):∀{ws mX:iI} {vs:iH},FzWs om n ws mX->RWs F' il ws vs->RWs jo β mX vs
 |_,_,_,.nil,.nil=>.nil
 |_,_,_,.cons h r,.cons h' r'=>.cons (FzW.rel ix ext own h h') (FzWs.rel ix ext own r r')
end
end
section
variable{F F' H H':Hp}{β il:h8}{om om1 l:iM}
def Fs:Option HO->Option HO
 |some (.lst xs)=>some (.lst xs)
 |_=>none
def GL{x:Option HO}{o:HO}(h:Fs x=some o):x=some o:=by
 unfold Fs at h;split at h
 ·exact h
 ·cases h
def Jd(F' H':Hp)(new:h8):Hp:=λb=>if b∈new then Fs (H' b) else F' b
def RB(M:MOk F H β om)(g:Gx F F' H H' β il)(M':MOk F' H' il (om1++l))(hl:om1.length=om.length)(hs:∀x∈om1,TK om.length x):∃jo,Gx F jo H H' β β∧MOk jo H' β om1∧∀w w' v,FzW (om1++l) om.length w w'->RW F' il w v->RW jo β w' v:=by
 have hβ:β.length=om.length:=M.len;have hβ':il.length=om.length+l.length:=by rw[M'.len,aS,hl]
 have ext:∀(h:Nat),h<om.length->il[h]?=β[h]?:=λh hh=>by
  have e:β[h]?=some β[h]:=aN (by omega);rw[e];exact g.pre h _ e
 have inNew:∀(h:Nat) (a:Addr),om.length<=h->il[h]?=some a->a∈il.drop om.length:=λh a hh e=>by
  refine bM (i:=h-om.length) ?_;rw[List.getElem?_drop];rw[show om.length+(h-om.length)=h by omega];exact e
 have ofNew:∀a,a∈il.drop om.length->∃h,om.length<=h∧il[h]?=some a:=λa ha=>by
  obtain⟨i,hi⟩:=dA ha;rw[List.getElem?_drop]at hi;exact⟨_,eC _ _,hi⟩
 have oldNew:∀(h:Nat) (a:Addr),β[h]?=some a->a ∉ il.drop om.length:=λh a e ha=>by
  obtain⟨j,hj,ej⟩:=ofNew a ha;have hh:h<om.length:=by rw[← hβ];exact(aG.mp e).1
  have:=ndx M'.nd ej (g.pre h a e);omega
 have newNone:∀a,a∈il.drop om.length->H a=none:=λa ha=>by
  rcases g.new a (List.mem_of_mem_drop ha) with h|h
  ·obtain⟨i,hi⟩:=dA h
   exact absurd ha (oldNew i a hi)
  ·exact h
 have ix:Same F' (Jd F' H' (il.drop om.length)):=λb o e=>by
  unfold Jd;by_cases hb:b∈il.drop om.length
  ·obtain⟨j,_,ej⟩:=ofNew b hb
   rw[M'.free j b ej]at e;cases e
  ·rw[aE hb];exact e
 have sub':Same (Jd F' H' (il.drop om.length)) H':=λb o e=>by
  unfold Jd at e;by_cases hb:b∈il.drop om.length
  ·rw[aC hb]at e;exact GL e
  ·rw[aE hb]at e;exact M'.sub b o e
 refine⟨Jd F' H' (il.drop om.length),⟨⟨g.same.trans ix,λ_ _ e=>e⟩,g.keep,g.there,λb hb=>.inl hb,λb o e=>?_,g.frz⟩,⟨sub',M.nd,by rw[hβ,hl],λh a e=>?_,λh a x e1 e2=>?_⟩,?_⟩
 ·unfold Jd at e
  by_cases hb:b∈il.drop om.length
  ·exact .inr (newNone b hb)
  ·rw[aE hb]at e;exact g.fnew b o e
 ·unfold Jd
  rw[aE (oldNew h a e)];exact M'.free h a (g.pre h a e)
 ·have hh:h<om1.length:=(aG.mp e2).1
  have hx:=M'.ob h a x (g.pre h a e1) (by rw[bA hh];exact e2);have sx:=hs x (bM e2);cases x with
  |ins C fs=>obtain⟨dx,jf,h1,r⟩:=hx;exact⟨dx,jf,h1,r.down ix ext sx⟩
  |lst ws=>obtain⟨xs,h1,r⟩:=hx;exact⟨xs,h1,r.down ix ext sx⟩
  |dk kvs=>obtain⟨ks,h1,r⟩:=hx;exact⟨ks,h1,r.down ix ext sx⟩
  |dt kvs=>obtain⟨ks,h1,r⟩:=hx;exact⟨ks,h1,r.down ix ext sx⟩
  |exc C=>exact hx
  |dz kvs=>obtain⟨o,ks,h1,r⟩:=hx;exact⟨o,ks,h1,r.down ix ext sx⟩
 ·intro w w' v fz r
  refine FzW.rel ix ext (λh a xs hn eb e=>?_) fz r;obtain⟨a',ea,_,zs,hz,rs⟩:=M'.at e;rw[eb]at ea;cases ea;refine⟨zs,?_,rs⟩;unfold Jd;rw[aC (inNew h _ hn eb),hz];rfl
end
inductive Tidy (om:iM):Option (Except Addr Wv × iM)->Option (Except Addr Wv × iM)->Prop
 |same (r:Option (Except Addr Wv × iM)):Tidy om r r
 |ok {w w':Wv} {om1 l:iM} (hl:om1.length=om.length) (hs:∀x∈om1,TK om.length x) (fz:FzW (om1++l) om.length w w'):Tidy om (some (.ok w,om1++l)) (some (.ok w',om1))
 |err {C:Addr} {om1 l:iM} (hl:om1.length=om.length) (hs:∀x∈om1,TK om.length x):Tidy om (some (.error C,om1++l)) (some (.error C,om1))
def FnOk.tidy{P:Program}{w:World}{K:g8}{mg:g7}{base:Heap}{k n:Nat}{f:Addr}{fd:FuncData}{ps:iD}{CX:CXT}{g g':iI->Mw Wv}(F:FnOk P w K mg base CX k f fd ps (spM n g))(h:∀ws om,ws.length=n->(∀x∈om,TK om.length x)->g' ws om≠none->Tidy om (g ws om) (g' ws om)):FnOk P w K mg base CX k f fd ps (spM n g'):=
 F.imp λvs H Q E ⟨F,β,om,ws,M,rs,hl,R⟩=>⟨F,β,om,ws,M,rs,hl,by
  have t:=h ws om hl M.small (λz=>by rw[z]at R;exact R);generalize g ws om=r at t;generalize g' ws om=r' at t R;cases t with
  |same=>exact R
  |ok kz hs fz=>
   intro F' H' il g1 M' v rv;obtain⟨jo,g2,M2,rel⟩:=RB M g1 M' kz hs;exact R jo H' β g2 M2 v (rel _ _ v fz rv)
  |err kz hs=>
   intro F' H' il g1 M';obtain⟨jo,g2,M2,_⟩:=RB M g1 M' kz hs;exact R jo H' β g2 M2⟩
end
end L2
namespace L2
noncomputable section
open PySem PySem.Spec PyProof.Rows PySem.W
def ltP(a b:Int × Int):Bool:=if a.1=b.1 then decide (a.2<b.2) else decide (a.1<b.1)
def VT{a b:Int × Int}:ltP a b=true ↔ a.1<b.1∨(a.1=b.1∧a.2<b.2):=by
 unfold ltP;split
 ·rw[bX];omega
 ·rw[bX];omega
def ltR:iB->List Int->Bool
 |a::x,b::y=>if a=b then ltR x y else decide (a<b)
 |[],_::_=>true
 |_,[]=>false
def U2{a b:Int}{x y:iB}:ltR (a::x) (b::y)=true ↔ a<b∨(a=b∧ltR x y=true):=by
 show(if a=b then ltR x y else decide (a<b))=true ↔ _;by_cases h:a=b
 ·rw[aC h];exact⟨λz=>.inr ⟨h,z⟩,λz=>z.elim (λq=>absurd q (by omega)) λq=>q.2⟩
 ·rw[aE h,bX];exact⟨.inl,λz=>z.elim id λq=>absurd q.1 h⟩
def Hv:∀x,ltR x x=false
 |[]=>rfl
 |a::x=>by
  show(if a=a then ltR x x else _)=false;rw[aC rfl];exact Hv x
def E6:∀{x y z:iB},ltR x y=true->ltR y z=true->ltR x z=true
 |[],_::_,_::_,_,_=>rfl
 |[],[],_,h,_=>nomatch h
 |_::_,[],_,h,_=>nomatch h
 |_,_::_,[],_,h=>nomatch h
 |a::x,b::y,c::z,h1,h2=>by
  rcases U2.mp h1 with p|⟨p,p'⟩ <;> rcases U2.mp h2 with q|⟨q,q'⟩
  ·exact U2.mpr (.inl (by omega))
  ·exact U2.mpr (.inl (by omega))
  ·exact U2.mpr (.inl (by omega))
  ·exact U2.mpr (.inr ⟨by omega,E6 p' q'⟩)
def HD:∀{x y z:iB},ltR x z=true->ltR x y=true∨ltR y z=true
 |[],[],_::_,_=>.inr rfl
 |[],_::_,_,_=>.inl rfl
 |_::_,[],_::_,_=>.inr rfl
 |[],[],[],h=>nomatch h
 |_::_,_,[],h=>nomatch h
 |a::x,b::y,c::z,h=>by
  by_cases h1:a<b
  ·exact .inl (U2.mpr (.inl h1))
  ·by_cases h2:b<c
   ·exact .inr (U2.mpr (.inl h2))
   ·rcases U2.mp h with p|⟨p,p'⟩
    ·omega
    ·rcases HD (y:=y) p' with q|q
     ·exact .inl (U2.mpr (.inr ⟨by omega,q⟩))
     ·exact .inr (U2.mpr (.inr ⟨by omega,q⟩))
def G6(ps:hZ)(i j:Nat):Bool:=ltR (ps.getD i []) (ps.getD j [])
def swo_at(ps:hZ):Swo (G6 ps):=⟨λ_=>Hv _,λ_ _ _=>E6,λ_ _ _=>HD⟩
section
variable{prog:Program}{w:World}{A:Around}{E:g6}{s:Shared}
structure RowsAt(h:Heap)(as:h8)(ps:hZ):Prop where
 len:as.length=ps.length
 wid:∃m,∀p∈ps,p.length=m+1
 at':∀(i:Nat) (a:Addr) (p:iB),as[i]?=some a->ps[i]?=some p->∃o vs n,h.get? a=some o∧o.cls=.type "tuple"∧o.data=.seq vs.toArray n∧Vals (p.map V.int) vs
def RowsAt.keep{h h':Heap}{as:h8}{ps:hZ}(x:RowsAt h as ps)(k:∀a∈as,∀o,h.get? a=some o->h'.get? a=some o):RowsAt h' as ps:=
 ⟨x.len,x.wid,λi a p e1 e2=>let ⟨o,vs,n,e,r⟩:=x.at' i a p e1 e2;⟨o,vs,n,k a (bM e1) _ e,r⟩⟩
def KF{C:Bool->Shared->Prop}:∀{x y:iB} {xs ys:iA} {i:Nat},Vals (x.map V.int) xs->Vals (y.map V.int) ys->x.length=y.length->C (ltR x y) s->KatLex prog w A true false C (xs.zip ys) i s
 |[],[],_,_,_,.nil,.nil,_,h=>kat_nil h
 |a::x,b::y,_,_,i,.cons h1 r1,.cons h2 r2,hl,h=>by
  obtain⟨t,rfl⟩:=(show ∃t,_=Value.int a t from h1);obtain⟨u,rfl⟩:=(show ∃u,_=Value.int b u from h2);refine kat_cons (wpAny_eqBool_int ?_);have h:C (if a=b then ltR x y else decide (a<b)) s:=h;by_cases he:a=b
  ·rw[aC he]at h
   rw[show(a == b)=true from df.mpr he];exact kat_yes (KF r1 r2 (by simpa using hl) h)
  ·rw[aE he]at h
   rw[show(a == b)=false from aW.mpr he];cases i with
   |zero=>exact kat_no (oneLt_int h)
   |succ i=>exact kat_no (kat_one _ _ (lt_int h))
 |[],_::_,_,_,_,_,_,hl,_=>nomatch hl
 |_::_,[],_,_,_,_,_,hl,_=>nomatch hl
def G8{as:h8}{ps:hZ}{Q:SortKind->Shared->Prop}(pa:RowsAt s.heap as ps)(hn:0<ps.length)(h:Q (tuples' true) s):wpAny (model prog w) A (keyKind' (as.map Value.ref).toArray) Q E s:=by
 have key:∀(as:h8) (ps:hZ),RowsAt s.heap as ps->∃fs,KatTups s.heap (as.map Value.ref) fs∧fs.length=ps.length∧∀v∈fs,∃i t,v=Value.int i t:=by
  intro as
  induction as with
  |nil=>
   intro ps pa;have:ps=[]:=fL.mp pa.len.symm;subst this;exact⟨[],KatTups.nil,rfl,λv hv=>nomatch hv⟩
  |cons a as ih=>
   intro ps pa
   match ps,pa with
   |[],pa=>exact absurd pa.len (by simp)
   |p::ps,pa=>
    obtain⟨m,hw⟩:=pa.wid;obtain⟨fs,h1,h2,h3⟩:=ih ps ⟨by have:=pa.len;simpa using this,⟨m,λq hq=>hw q (.tail _ hq)⟩,λi a' p' e1 e2=>pa.at' (i+1) a' p' (by simpa using e1) (by simpa using e2)⟩;obtain⟨o,vs,n,e,ec,ed,rv⟩:=pa.at' 0 a p rfl rfl
    match p,hw p (.head _),vs,rv,ed with
    |x::p,_,_::vs,.cons hx rv,ed=>
     obtain⟨t,rfl⟩:=(show ∃t,_=Value.int x t from hx);refine⟨.int x t::fs,KatTups.cons e ec ed rfl h1,by simp[h2],λv hv=>?_⟩;rcases aT.mp hv with rfl|hv
     ·exact⟨_,_,rfl⟩
     ·exact h3 v hv
 obtain⟨fs,h1,h2,h3⟩:=key as ps pa;refine kat_kind (T:=.type "int") h1 (by omega) (λv hv=>?_) rfl h;obtain⟨i,t,rfl⟩:=h3 v hv;exact Looks.now
def Gv{a:Addr}{as:h8}{ps:hZ}{n:Nat}{P:PySem.Fin->Shared->Prop}(ho:s.heap.get? a=some (seqObj "list" (as.map Value.ref).toArray n))(pa:RowsAt s.heap as ps)(mn:a ∉ as)(kc:as.length<64)(fin:∀h' bs qs c,(∀b o,b≠a->s.heap.get? b=some o->h'.get? b=some o)->h'.get? a=some (seqObj "list" (bs.map Value.ref).toArray c)->(∃p:iC,p.Perm (List.range as.length)∧bs=p.map (λi=>as.getD i 0)∧qs=p.map (λi=>ps.getD i []))->qs.Pairwise (λx y=>ltR y x=false)->P (.done (.ret .none)) {s with heap:=h'}):wpAny (model prog w) A (Builtin.«list.sort» ⟨[.ref a],[]⟩) P E s:=by
 have ha:a<s.heap.objs.size:=aP ho;have upd1:=cw s.heap a (Obj.mapSeq λ_=>(#[]:Array Value));obtain⟨e1,g1⟩:∃e1,(s.heap.update a (Obj.mapSeq λ_=>(#[]:Array Value))).get? a=some (seqObj "list" #[] e1):=⟨_,get?_update_seq ho λ_=>#[]⟩
 have hvl:(as.map Value.ref).toArray.size=as.length:=by simp
 rw[list_sort_plain];refine aB (listItems_at ho rfl (aB (listUpdate_at ho rfl (aB (seqEpoch_at g1 rfl (aB (wpAny_newTuple (aB (wpAny_newList (cE ?_) (cz _))) (by show(as.map Value.ref).length<=_;rw[aA,cA];omega))))) (by rw[hvl,cA];omega) (cz _))));generalize hH:((s.heap.update a (Obj.mapSeq λ_=>(#[]:Array Value))).push (seqObj "tuple" (as.map Value.ref).toArray 0)).push (seqObj "list" #[] 0)=h3
 have keep3:∀b o,b≠a->s.heap.get? b=some o->h3.get? b=some o:=λb o hb e=>by
  rw[← hH];exact aI _ (aI _ ((upd1.2 b hb).trans e))
 have g3:h3.get? a=some (seqObj "list" #[] e1):=by rw[← hH];exact aI _ (aI _ g1)
 have pa3:RowsAt h3 as ps:=pa.keep λb hb o e=>keep3 b o (λz=>mn (z ▸ hb)) e
 show wpAny (model prog w) A _ P E {s with heap:=h3}
 have hend : ∀ (bs : h8) (qs : hZ) (st : SortSt),(arrOf st).map (·.2) = (bs.map Value.ref).toArray -> bs.length <= as.length -> failedOf st = none -> (∃ p : iC,p.Perm (List.range as.length) ∧ bs = p.map (fun i => as.getD i 0) ∧ qs = p.map (fun i => ps.getD i [])) -> qs.Pairwise (fun x y => ltR y x = false) ->
     wpAny (model prog w) A (do
      let touched:=(← seqEpoch a) != e1
      Builtin.List.listUpdate (.ref a) λ_=>(arrOf st).map (·.2)
      if let some e:=failedOf st then rule "list.sort.comparison-raised";throw e
      if touched then rule "list.sort.modified";raiseError "ValueError" "list modified during sort"
      PySem.ret .none) P E {s with heap:=h3}:=λbs qs st jp oV hf hp hs=>by
  refine aB (seqEpoch_at g3 rfl (aB (listUpdate_at g3 rfl ?_ (cz _) (by rw[jp];simp only[bE,aA];rw[cA];omega))));rw[jp,hf];obtain⟨c2,g4⟩:∃c2,(h3.update a (Obj.mapSeq λ_=>(bs.map Value.ref).toArray)).get? a=some (seqObj "list" (bs.map Value.ref).toArray c2):=⟨_,get?_update_seq g3 λ_=>(bs.map Value.ref).toArray⟩
  have upd2:=cw h3 a (Obj.mapSeq λ_=>(bs.map Value.ref).toArray);simp only[et,d6,if_false];exact aD (fin _ bs qs c2 (λb o hb e=>(upd2.2 b hb).trans (keep3 b o hb e)) g4 hp hs)
 by_cases h2:as.length<2
 ·have jc:(as.map Value.ref).toArray.size<2:=by omega
  dsimp only;rw[aC jc,aC jc];refine aB (aD ?_);rw[StateT.run_pure];refine aB (aD (hend as ps (SortSt.mk' general' ((as.map Value.ref).toArray.zip (as.map Value.ref).toArray) #[] 7 none) ?_ (aM _) rfl ⟨List.range as.length,dB _,?_,?_⟩ ?_))
  ·show((as.map Value.ref).toArray.zip (as.map Value.ref).toArray).map (·.2)=_
   apply gJ.mp;simp only[Array.toList_map,Array.toList_zip];exact List.map_snd_zip (aM _)
  ·refine cX λi=>?_
   by_cases hi:i<as.length
   ·simp[hi]
   ·simp[hi]
  ·refine cX λi=>?_
   have:=pa.len;by_cases hi:i<as.length
   ·simp[hi,show i<ps.length by omega]
   ·simp[hi,show ps.length<=i by omega]
  ·have:=pa.len
   match ps,this with
   |[],_=>exact List.Pairwise.nil
   |[_],_=>exact fK _ _
   |_::_::_,h=>simp at h;omega
 ·have jc:¬ (as.map Value.ref).toArray.size<2:=by omega
  dsimp only;rw[aE jc,aE jc];have mj:(as.map Value.ref).length=as.length:=by simp
  refine aB (G8 (s:={s with heap:=h3}) pa3 (by have:=pa.len;omega) ?_);have O:=swo_at ps
  have tree:=Hs.wp (Q:=λ(p:Array Nat) j8=>j8={s with heap:=h3}∧Pm as.length p∧L2.Srt (G6 ps) p as.length) (cmp:=kas_ask prog w A (tuples' true) (as.map Value.ref)) (s:={s with heap:=h3})
   (λi j C hi hj hC=>by
    unfold kas_ask;have gi:(as.map Value.ref).getD i Value.none=.ref as[i]:=by simp[hi]
    have gj:(as.map Value.ref).getD j Value.none=.ref as[j]:=by simp[hj]
    rw[gi,gj];have hl:=pa.len;obtain⟨oi,vi,ni,ei,_,di,ri⟩:=pa3.at' i as[i] (ps[i]'(by omega)) (aN hi) (aN (by omega));obtain⟨oj,vj,nj,ej,_,dj,rj⟩:=pa3.at' j as[j] (ps[j]'(by omega)) (aN hj) (aN (by omega));obtain⟨wm,mY⟩:=pa.wid;have w1:=mY _ (dR (l:=ps) (n:=i) (by omega));have w2:=mY _ (dR (l:=ps) (n:=j) (by omega));have z1:=ri.length;have z2:=rj.length;rw[aA]at z1 z2;refine kat_lt ei di ej dj ?_;rw[show decide (vi.toArray.size<vj.toArray.size)=false from aJ (by simp only[bE];omega)];refine KF (i:=0) ri rj (by omega) ?_;have d1:ps.getD i []=ps[i]'(by omega):=by simp[show i<ps.length by omega]
    have d2:ps.getD j []=ps[j]'(by omega):=by simp[show j<ps.length by omega]
    unfold G6 at hC;rw[d1,d2]at hC;exact hC) (λp hp=>⟨rfl,hp⟩) (C2 O (n:=as.length) (by omega))
  have tree2:(kas_sort (as.map Value.ref).length).kasWp (kas_ask prog w A (tuples' true) (as.map Value.ref)) (λ(p:Array Nat) j8=>j8={s with heap:=h3}∧Pm as.length p∧L2.Srt (G6 ps) p as.length) {s with heap:=h3}:=by rw[mj];exact tree
  refine aB (cy (kat_run (Q:=λjE s'=>s'={s with heap:=h3}∧∃p:Array Nat,arrOf jE=p.map (kas_item ((as.map Value.ref).toArray.zip (as.map Value.ref).toArray))∧failedOf jE=none∧Pm as.length p∧L2.Srt (G6 ps) p as.length) rfl (by omega) (by omega)
   (λp jE s' _ a2 a3 a4=>⟨a4.1,p,a2,a3,a4.2.1,a4.2.2⟩) tree2) (λr s' hr=>?_) λ_ _ e=>e)
  obtain⟨⟨⟩,jE⟩:=r;obtain⟨rfl,p,nQ,hf,lO,nR⟩:=hr;have jp:=kat_snds rfl nQ;have hall:∀i∈p.toList,i<as.length:=λi hi=>by have:=lO.perm.mem_iff.mp hi;simpa using this
  refine hend (p.toList.map λi=>as.getD i 0) (p.toList.map λi=>ps.getD i []) jE ?_ (by rw[aA,lO.perm.length_eq,cu];exact aM _) hf ⟨p.toList,lO.perm,rfl,rfl⟩ ?_
  ·rw[jp,aY]
   congr 1
   refine cC λi hi=>?_
   have:=hall i hi;simp[this]
  ·rw[cg]
   refine dr.mpr λi j hi hj jJ=>?_
   have iO:p.toList.length=as.length:=by rw[lO.perm.length_eq,cu]
   have:=nR i j (by omega) (by omega);unfold le' gN G6 at this;have q1:p.getD i 0=p.toList[i]:=by simp[Array.getD,show i<p.size by simpa using hi]
   have q2:p.getD j 0=p.toList[j]:=by simp[Array.getD,show j<p.size by simpa using hj]
   rw[q1,q2]at this;exact this
structure PrsAt(h:Heap)(as:h8)(ps:hY):Prop where
 len:as.length=ps.length
 at':∀(i:Nat) (a:Addr) (p:Int × Int),as[i]?=some a->ps[i]?=some p->∃o t u n,h.get? a=some o∧o.cls=.type "tuple"∧o.data=.seq #[.int p.1 t,.int p.2 u] n
def PrsAt.keep{h h':Heap}{as:h8}{ps:hY}(x:PrsAt h as ps)(k:∀a∈as,∀o,h.get? a=some o->h'.get? a=some o):PrsAt h' as ps:=
 ⟨x.len,λi a p e1 e2=>let ⟨o,t,u,n,e,r⟩:=x.at' i a p e1 e2;⟨o,t,u,n,k a (bM e1) _ e,r⟩⟩
def l2(p:Int × Int):iB:=[p.1,p.2]
def ltR_l2(p q:Int × Int):ltR (l2 p) (l2 q)=ltP p q:=by
 show(if p.1=q.1 then (if p.2=q.2 then false else decide (p.2<q.2)) else decide (p.1<q.1))=_;unfold ltP;by_cases h:p.1=q.1
 ·rw[aC h,aC h]
  by_cases h2:p.2=q.2
  ·rw[aC h2,aJ (by omega)]
  ·rw[aE h2]
 ·rw[aE h,aE h]
def JO{a:Addr}{as:h8}{ps:hY}{n:Nat}{P:PySem.Fin->Shared->Prop}(ho:s.heap.get? a=some (seqObj "list" (as.map Value.ref).toArray n))(pa:PrsAt s.heap as ps)(mn:a ∉ as)(kc:as.length<64)(fin:∀h' bs qs c,(∀b o,b≠a->s.heap.get? b=some o->h'.get? b=some o)->h'.get? a=some (seqObj "list" (bs.map Value.ref).toArray c)->(∃p:iC,p.Perm (List.range as.length)∧bs=p.map (λi=>as.getD i 0)∧qs=p.map (λi=>ps.getD i (0,0)))->qs.Pairwise (λx y=>ltP y x=false)->P (.done (.ret .none)) {s with heap:=h'}):wpAny (model prog w) A (Builtin.«list.sort» ⟨[.ref a],[]⟩) P E s:=by
 refine Gv (ps:=ps.map l2) ho ⟨by rw[aA];exact pa.len,⟨1,λp hp=>?_⟩,λi a p e1 e2=>?_⟩ mn kc λh' bs qs c k g hp hs=>?_
 ·obtain⟨q,_,rfl⟩:=aO.mp hp;rfl
 ·rw[bC]at e2
  obtain⟨q,hq,rfl⟩:=cQ.mp e2;obtain⟨o,t,u,n,r1,r2,r3⟩:=pa.at' i a q e1 hq;exact⟨o,[.int q.1 t,.int q.2 u],n,r1,r2,r3,.cons ⟨t,rfl⟩ (.cons ⟨u,rfl⟩ .nil)⟩
 ·obtain⟨p,p1,p2,p3⟩:=hp
  have e:qs=(p.map λi=>ps.getD i (0,0)).map l2:=by
   rw[p3,aY];refine cC λi hi=>?_
   have:i<ps.length:=by rw[← pa.len];exact bO.mp (p1.mem_iff.mp hi)
   simp[this]
  subst e;exact fin h' bs _ c k g ⟨p,p1,p2,rfl⟩ ((cg.mp hs).imp λh=>by rw[← ltR_l2];exact h)
end
def Pf{α:Type}:∀{as:h8} {ps:List α} {i:Nat} {a:Addr} {p:α},as.Nodup->as[i]?=some a->ps[i]?=some p->(as.zip ps).lookup a=some p
 |[],_,_,_,_,_,e,_=>by simp at e
 |_::_,[],_,_,_,_,_,e=>by simp at e
 |b::as,q::ps,0,a,p,nd,e1,e2=>by
  simp at e1 e2;subst e1 e2;simp[aK]
 |b::as,q::ps,i+1,a,p,nd,e1,e2=>by
  have e1:as[i]?=some a:=by simpa using e1
  have e2:ps[i]?=some p:=by simpa using e2
  have hb:(a == b)=false:=aW.mpr λz=>(cH.mp nd).1 (z ▸ bM e1)
  rw[List.zip_cons_cons,aK,hb];exact Pf (cH.mp nd).2 e1 e2
def XC{α:Type}:∀{as:h8} {ps:List α} {a:Addr} {p:α},(as.zip ps).lookup a=some p->∃i:Nat,as[i]?=some a∧ps[i]?=some p
 |[],_,_,_,e=>by simp at e
 |_::_,[],_,_,e=>by simp at e
 |b::as,q::ps,a,p,e=>by
  rw[List.zip_cons_cons,aK]at e;cases hb:(a == b) with
  |true=>rw[hb]at e;cases e;exact⟨0,by simp[eq_of_beq hb],rfl⟩
  |false=>
   rw[hb]at e;obtain⟨i,h1,h2⟩:=XC e;exact⟨i+1,by simpa using h1,by simpa using h2⟩
def Oi{α γ:Type}{R:α->γ->Prop}:∀{xs:List α} {ys:List γ} {i:Nat} {x:α} {y:γ},Paired R xs ys->xs[i]?=some x->ys[i]?=some y->R x y
 |_,_,_,_,_,.nil,e,_=>by simp at e
 |_,_,0,_,_,.cons h _,e1,e2=>by simp at e1 e2;subst e1 e2;exact h
 |_,_,i+1,_,_,.cons _ r,e1,e2=>Oi (i:=i) r (by simpa using e1) (by simpa using e2)
def NN:∀bs:h8,Vals (bs.map V.ref) (bs.map Value.ref)
 |[]=>.nil
 |_::r=>.cons rfl (NN r)
def prT(p:Int × Int):HO:=.tup [.int p.1,.int p.2]
def Xw(H:Hp)(as:h8)(ps:hY):Hp:=λb=>match (as.zip ps).lookup b with
 |some p=>some (prT p)
 |none=>H b
def K5(v d:Addr):HO:=.ext λh=>h.IsItemsView v d
section
variable{X:Cx}{E:XK}
def rItems:V->List V->Hp->VK->Prop:=λx vs H Q=>∃d kvs,x=.ref d∧vs=[]∧H d=some (.dK kvs)∧∀p,H p=none->Q (.ref p) (upd H p (K5 p d))
def DW:MtM X "dict.items" rItems:=by
 intro gV s σ H x vs v us Q I rx rv h;obtain⟨d,kvs,rfl,rfl,hd,q⟩:=h;cases rx;cases rv;obtain⟨z,hS,ws,r,m⟩:=I.hok d _ hd;refine gh PySem.F.slot_dict_items m.typeIs PySem.F.entry_dict_items (PySem.F.args_dict_items_1 _) (meets_dict_items (Z2 X.prog X.w) d hS) ⟨⟨ws,m⟩,?_⟩;refine⟨.ref s.heap.objs.size,_,I.laid (o:=K5 s.heap.objs.size d) (t':=s.toks) (λb u e=>aI _ e) (aM _) ?_,rfl,q _ I.fresh⟩;exact⟨⟨_,aZ _ rfl,rfl,rfl⟩,⟨_,aZ _ rfl⟩,λh1 h2 ⟨o,e1,e2,e3⟩ k=>⟨o,k o e1,e2,e3⟩⟩
def rSortV:iH->Hp->VK->Prop:=λxs H Q=>∃v d ps,xs=[.ref v]∧H v=some (K5 v d)∧H d=some (.dK (ps.map λ(p:Int × Int)=>((Sum.inl p.1:Key),V.int p.2)))∧ps.length<64 ∧
 ∀(B:Addr) (as bs:h8) (qs:hY),as.Nodup->as.length=ps.length->(∀a∈as,H a=none)->H B=none->B ∉ as->(∃p:iC,p.Perm (List.range as.length)∧bs=p.map (λi=>as.getD i 0)∧qs=p.map (λi=>ps.getD i (0,0)))->qs.Pairwise (λx y=>ltP y x=false) ->
  Q (.ref B) (upd (Xw H as ps) B (.lst (bs.map V.ref)))
def Ju(hc:X.calm=true):CallR X (.builtin "sorted") rSortV:=by
 intro gV s σ H xs us Q I r h;obtain⟨v,d,ps,rfl,hv,hd,kc,q⟩:=h;obtain⟨u,rfl,ru⟩:=Oj r;cases (show u=Value.ref v from ru);obtain⟨lz,_,_⟩:=I.hok v _ hv;obtain⟨z,hS,ws,rk,m⟩:=I.hok d _ hd;obtain⟨o,es,ep,hm⟩:=m;have jG:ws.length=ps.length:=by have:=rk.length;rw[aA]at this;exact this.symm
 refine Calls.call_function_entry kind_sorted plain_sorted entry_sorted (args_sorted1 _) (show wpAny _ _ (Builtin.«sorted» _) _ _ _ from ?_);unfold Builtin.«sorted»;refine aB (m:=checkCount "sorted" 1 1 _) (aD (aB (kdx_collect (A:=X.A.in1) (knd:=Z2 X.prog X.w) (kvs:=ws) (ep:=ep) (I.ok.hd hc) lz ⟨o,es,hm⟩ (by rw[cA];omega) λh' tk as hk hl hG=>?_)));have nd:as.Nodup:=hG.rise.imp λh=>bB h
 have hal:as.length=ps.length:=by omega
 have pa:PrsAt h' as ps:=⟨hal,λi a p e1 e2=>by
  obtain⟨key,k,x,f1,f2,f3⟩:=hG.pairs i a e1;have e3:(ps.map λ(p:Int × Int)=>((Sum.inl p.1:Key),V.int p.2))[i]?=some ((Sum.inl p.1:Key),V.int p.2):=by rw[bC,e2];rfl
  obtain⟨g1,g2⟩:=Oi rk e3 f1;have g1:(Sum.inl p.1:Key)=k:=g1;subst g1;obtain⟨u,g2⟩:=(show ∃u,x=Value.int p.2 u from g2);subst g2;obtain⟨t,g3⟩:=fT (k:=p.1) (v:=key) f2;subst g3;exact⟨_,t,u,_,f3,rfl,rfl⟩⟩
 have hB:∀a∈as,a<h'.objs.size:=λa ha=>hG.there ha
 refine aB (wpAny_newList ?_ (by rw[aA,cA];omega));generalize hH1:h'.push {cls:=.type "list",data:=.seq (as.map Value.ref).toArray}=h1;have k1:∀b o,h'.get? b=some o->h1.get? b=some o:=λb o e=>by rw[← hH1];exact aI _ e
 have lE:h1.get? h'.objs.size=some (seqObj "list" (as.map Value.ref).toArray 0):=by rw[← hH1];exact aZ _ rfl
 have hBn:h'.objs.size ∉ as:=λhm=>cP _ (hB _ hm)
 refine aB (cE (dI slot_list_sort ⟨_,lE,rfl⟩ entry_list_sort (JO (s:={s with heap:=h1,toks:=tk}) lE (pa.keep λa _ o e=>k1 a o e) hBn (by omega) λh2 bs qs c k2 g2 hp hs=>⟨_,rfl,aD ⟨_,rfl,?_⟩⟩) (args_list_sort _)));have kp:∀b o,s.heap.get? b=some o->h2.get? b=some o:=λb o e=>k2 b o (bB (aP (hk b o e))) (k1 b o (hk b o e))
 have fa:∀a∈as,s.heap.get? a=none:=λa ha=>Heap.get?_none_of_le (er (hG.above a ha))
 have fH:∀a∈as,H a=none:=λa ha=>I.hok.fresh (er (hG.above a ha))
 have fB:H h'.objs.size=none:=by
  cases hh:H h'.objs.size with
  |none=>rfl
  |some ob=>
   obtain⟨x,ex⟩:=(I.hok _ _ hh).ex;exact absurd (aP (hk _ _ ex)) (cP _)
 have inA:∀{b:Addr} {p:Int × Int},(as.zip ps).lookup b=some p->b∈as:=λ{b p} e=>let ⟨i,h1,_⟩:=XC e;bM h1
 have old:∀b o,H b=some o->upd (Xw H as ps) h'.objs.size (.lst (bs.map V.ref)) b=some o:=λb o e=>by
  rw[ZA (Z5 e fB)];unfold Xw
  match hx:(as.zip ps).lookup b with
  |some p=>rw[fH b (inA hx)]at e;cases e
  |none=>exact e
 have notOld:∀b o,s.heap.get? b=some o->H b=none->upd (Xw H as ps) h'.objs.size (.lst (bs.map V.ref)) b=none:=λb o e n=>by
  rw[ZA (bB (aP (hk b o e)))];unfold Xw
  match hx:(as.zip ps).lookup b with
  |some p=>rw[fa b (inA hx)]at e;cases e
  |none=>exact n
 refine⟨.ref h'.objs.size,_,I.un (t':=tk) (H':=upd (Xw H as ps) h'.objs.size (.lst (bs.map V.ref))) ⟨λb o e n _ _=>kp b o e,λb o e n _ _=>⟨o.slots,kp b o e⟩,λb o e n _=>notOld b o e n,λb o e _=>⟨o,kp b o e⟩,λb xs e=>old b _ e,λb o u e=>old b _ e,λb xs e=>⟨#[],by rw[Array.append_empty];exact old b _ e⟩⟩ (λb o e=>?_),rfl,q _ as bs qs nd hal fH fB hBn hp hs⟩;by_cases hb:b=h'.objs.size
 ·subst hb
  rw[ZG]at e;cases e;obtain⟨p,lA,j5,kS⟩:=hp;refine⟨?_,bs.map Value.ref,c,?_,g2⟩
  ·rw[aA,j5,aA,lA.length_eq,cu,cA];omega
  ·exact NN bs
 ·rw[ZA hb]at e
  unfold Xw at e
  match hx:(as.zip ps).lookup b,e with
  |some p,e=>
   have e:some (prT p)=some o:=e;cases e;obtain⟨i,jv,jc⟩:=XC hx;obtain⟨o',t,u,n',ho,lG,nS⟩:=pa.at' i b p jv jc;exact⟨by show 2<=sizeLine;decide,[.int p.1 t,.int p.2 u],.cons ⟨t,rfl⟩ (.cons ⟨u,rfl⟩ .nil),⟨o',k2 b _ hb (k1 b _ ho),lG,n',nS⟩⟩
  |none,e=>
   exact(I.hok b o e).stay (λc w' _ q'=>kp c w' q') (λc q'=>old c _ q') λc xs q'=>old c _ q'
def Gj(p:Int × Int):hY->List (Int × Int)
 |[]=>[p]
 |q::r=>if ltP q p=true then q::Gj p r else p::q::r
def Yl:hY->List (Int × Int)
 |[]=>[]
 |p::r=>Gj p (Yl r)
def RO(p:Int × Int):∀l,(Gj p l).Perm (p::l)
 |[]=>dB _
 |q::r=>by
  unfold Gj;split
  ·exact((RO p r).cons q).trans (List.Perm.swap p q r)
  ·exact dB _
def ZV:∀l,(Yl l).Perm l
 |[]=>dB _
 |p::r=>(RO p (Yl r)).trans ((ZV r).cons p)
abbrev DK(l:hY):Prop:=l.Pairwise λx y=>ltP y x=false
def K6(p:Int × Int):∀l,DK l->DK (Gj p l)
 |[],_=>fK _ _
 |q::r,h=>by
  have h':=bU.mp h;unfold Gj;by_cases hc:ltP q p=true
  ·rw[aC hc]
   refine bU.mpr ⟨λy hy=>?_,K6 p r h'.2⟩;rcases aT.mp ((RO p r).mem_iff.mp hy) with rfl|hy
   ·cases z:ltP y q with
    |false=>rfl
    |true=>have a:=VT.mp hc;have b:=VT.mp z;omega
   ·exact h'.1 y hy
  ·rw[aE hc]
   refine bU.mpr ⟨λy hy=>?_,h⟩;have kD:ltP q p=false:=by simpa using hc
   rcases aT.mp hy with rfl|hy
   ·exact kD
   ·cases z:ltP y p with
    |false=>rfl
    |true=>
     have e:=h'.1 y hy;have a:=VT.mp z;have b:¬ _:=λw'=>hc (VT.mpr w')
     have c:¬ _:=λw'=>absurd (VT.mpr w') (by rw[e];exact aH)
     omega
def Uw:∀l,DK (Yl l)
 |[]=>List.Pairwise.nil
 |p::r=>K6 p _ (Uw r)
def RT:∀{l m:hY},l.Perm m->DK l->DK m->l=m
 |[],m,h,_,_=>(List.nil_perm.mp h).symm
 |x::l,[],h,_,_=>absurd h (by simp)
 |x::l,y::m,h,h1,h2=>by
  have jv:=bU.mp h1;have jc:=bU.mp h2
  have e:x=y:=by
   have hx:=h.mem_iff.mp (cU (a:=x) (l:=l));have hy:=h.mem_iff.mpr (cU (a:=y) (l:=m));rcases aT.mp hx with hx|hx
   ·exact hx
   ·rcases aT.mp hy with hy|hy
    ·exact hy.symm
    ·have a:=jv.1 y hy
     have b:=jc.1 x hx;have a':¬ _:=λw'=>absurd (VT.mpr w') (by rw[a];exact aH)
     have b':¬ _:=λw'=>absurd (VT.mpr w') (by rw[b];exact aH)
     exact Prod.ext (by omega) (by omega)
  subst e;rw[RT h.cons_inv jv.2 jc.2]
def Qr:iL->Option (hY)
 |[]=>some []
 |(.inl k,.int v)::r=>match Qr r with
  |some ps=>some ((k,v)::ps)
  |none=>none
 |_=>none
def prW(p:Int × Int):Wv:=.tup [.int p.1,.int p.2]
def QT(d:Wv):Mw (iI):=λom=>match d with
 |.o h=>match om[h]? with
  |some (.dk kvs)=>match Qr kvs with
   |some ps=>if ps.length<64 then some (.ok ((Yl ps).map prW),om) else none
   |none=>none
  |_=>none
 |_=>none
def NR{F:Hp}{β:h8}:∀{kvs:iL} {qs:List (Key × V)} {ps:hY},RK F β kvs qs->Qr kvs=some ps->qs=ps.map λ(p:Int × Int)=>((Sum.inl p.1:Key),V.int p.2)
 |_,_,_,.nil,e=>by cases e;rfl
 |(.inr _,_)::_,_,_,.cons _ _,e=>by cases e
 |(.inl k,w)::r,_,_,.cons h rr,e=>by
  cases h with
  |int v=>
   have e:(match Qr r with|some ps=>some ((k,v)::ps)|none=>none)=some _:=e
   match hr:Qr r,e with
   |some ps,e=>
    have e:some ((k,v)::ps)=some _:=e;cases e;rw[aU,← NR rr hr]
   |none,e=>exact nomatch e
  |_=>exact nomatch e
def MOk.newP{F H:Hp}{β:h8}{om:iM}{as:h8}{ps:hY}(M:MOk F H β om)(hf:∀a∈as,H a=none):Gx F (Xw F as ps) H (Xw H as ps) β β∧MOk (Xw F as ps) (Xw H as ps) β om:=by
 have inA:∀{b:Addr} {p:Int × Int},(as.zip ps).lookup b=some p->b∈as:=λ{b p} e=>let ⟨i,h1,_⟩:=XC e;bM h1
 have oldH:∀b o,H b=some o->Xw H as ps b=some o:=λb o e=>by
  unfold Xw
  match hx:(as.zip ps).lookup b with
  |some p=>rw[hf b (inA hx)]at e;cases e
  |none=>exact e
 have oldF:∀b o,F b=some o->Xw F as ps b=some o:=λb o e=>by
  unfold Xw
  match hx:(as.zip ps).lookup b with
  |some p=>have:=M.sub b o e;rw[hf b (inA hx)]at this;cases this
  |none=>exact e
 have out:∀b,b ∉ as->Xw F as ps b=F b∧Xw H as ps b=H b:=λb hb=>by
  unfold Xw
  match hx:(as.zip ps).lookup b with
  |some p=>exact absurd (inA hx) hb
  |none=>exact⟨rfl,rfl⟩
 have nb:∀(h:Nat) (a:Addr),β[h]?=some a->a ∉ as:=λh a e ha=>by
  obtain⟨x,hx⟩:=M.there e;rw[hf a ha]at hx;cases hx
 have g:Gr F (Xw F as ps) β β:=⟨oldF,λ_ _ e=>e⟩;refine⟨⟨g,λb o e _=>oldH b o e,λb e=>?_,λb hb=>.inl hb,λb o e=>?_,λb o u e=>oldH b _ e⟩,⟨λb o e=>?_,M.nd,M.len,λh a e=>by rw[(out a (nb h a e)).1];exact M.free h a e,λh a x e1 e2=>(M.ob h a x e1 e2).mono g (out a (nb h a e1)).2⟩⟩
 ·cases hh:H b with
  |none=>rfl
  |some o=>rw[oldH b o hh]at e;cases e
 ·by_cases hb:b∈as
  ·exact .inr (hf b hb)
  ·rw[(out b hb).1]at e;exact .inl e
 ·unfold Xw at e ⊢
  match hx:(as.zip ps).lookup b,e with
  |some p,e=>exact e
  |none,e=>exact M.sub b o e
def SI(k:iI->Mw Wv)(f:FE):FE:=λsl=>bnd (f sl) λd=>bnd (QT d) k
variable{o:Expr}{f:FE}{k:iI->Mw Wv}{p pos ip io:Pos}
def ND(hk:Ur E k)(hc:X.calm=true)(hg:Gl X "sorted")(hm:X.mg "sorted"=none)(ho:PE X o (tE E f))(iZ:attributeBase o "items" X.env (eval o X.env)=eval o X.env:=by rfl)(i4:(ip.endLine == io.line)=true:=by rfl)(h0:starEach [.Call (.Attribute o "items" ip) [] [] io] X.env=(false,eval (.Call (.Attribute o "items" ip) [] [] io) X.env)::starEach [] X.env:=by rfl) (iO:(backTo pos (starEach [] X.env)).any (·.1)=false:=by rfl):PE X (.Call (.Name "sorted" p) [.Call (.Attribute o "items" ip) [] [] io] [] pos) (tE E (SI k f)):=
 (OB (Ju hc) hg hm dY (Wz (pe_bm0 fJ PySem.F.slot_dict_items PySem.F.type_dict_items DW ho iZ i4) V8 h0) (by decide) (by decide) h0 iO).weak λσ H Q ⟨F,β,om,sl,M,V,R⟩=>by
 refine⟨F,β,om,sl,M,V,R.bind λx om1 F1 H1 ij g1 M1 R1 v rv=>?_⟩;cases rv with
 |@o h a eb=>
  unfold bnd QT at R1;dsimp only at R1
  match hx:om1[h]?,R1 with
  |none,R1=>exact R1.elim
  |some (.ins _ _),R1=>exact R1.elim
  |some (.exc _),R1=>exact R1.elim
  |some (.dz _),R1=>exact R1.elim
  |some (.lst _),R1=>exact R1.elim
  |some (.dt _),R1=>exact R1.elim
  |some (.dk kvs),R1=>
   obtain⟨a',ea,_,ks,jj,rs⟩:=M1.at hx;rw[eb]at ea;cases ea;dsimp only at R1
   match hp:Qr kvs,R1 with
   |none,R1=>exact R1.elim
   |some ps,R1=>
    dsimp only at R1;by_cases hl:ps.length<64
    ·have R2:Res E (k ((Yl ps).map prW) om1) F1 H1 ij (PV Q):=by
      have:=R1;rw[aC hl]at this;exact this
     have eks:=NR rs hp;refine⟨.inr (.inr (.inl ⟨rfl,.inl ⟨ks,jj⟩⟩)),a,ks,rfl,rfl,jj,λv hv=>?_⟩;have MU:=M1.newU (o:=K5 v a) hv;have gU:=M1.gxU (o:=K5 v a) hv;refine⟨v,a,ps,rfl,ZG,by rw[ZA (Z5 jj hv),jj,eks],hl,λB as bs qs nd hal hf hB hBa ⟨p,lA,j5,kS⟩ hs=>?_⟩;obtain⟨g3,M3⟩:=MU.newP (ps:=ps) hf
     have eqs:qs=Yl ps:=by
      refine RT ?_ hs (Uw ps);refine List.Perm.trans ?_ (ZV ps).symm;rw[kS];refine(lA.map _).trans ?_;rw[hal]
      have:(List.range ps.length).map (λi=>ps.getD i (0,0))=ps:=cX λi=>by
       by_cases hi:i<ps.length
       ·simp[hi]
       ·simp[hi]
      rw[this]
     have rws:RWs (Xw F1 as ps) ij ((Yl ps).map prW) (bs.map L2.V.ref):=by
      rw[← eqs,kS,j5];have hall:∀i∈p,i<as.length:=λi hi=>by have:=lA.mem_iff.mp hi;simpa using this
      clear lA j5 kS eqs hs
      induction p with
      |nil=>exact .nil
      |cons i p ih=>
       have hi:=hall i (.head _);refine .cons ?_ (ih λj hj=>hall j (.tail _ hj));have e1:as.getD i 0=as[i]:=by simp[hi]
       have e2:ps.getD i (0,0)=ps[i]'(by omega):=by simp[show i<ps.length by omega]
       show RW (Xw F1 as ps) ij (prW (ps.getD i (0,0))) (L2.V.ref (as.getD i 0));rw[e1,e2];refine .tup ?_ (.cons (.int _) (.cons (.int _) .nil));unfold Xw;rw[Pf nd (aN hi) (aN (by omega))];rfl
     exact(hk M3 rws (Res.mono (gU.trans g3) R2)).2 (by
      unfold Xw
      match hx2:(as.zip ps).lookup B with
      |some p=>exact absurd (let ⟨i,h1,_⟩:=XC hx2;bM h1) hBa
      |none=>exact hB)
    ·rw[aE hl]at R1;exact R1.elim
 |_=>exact R1.elim
end
end
end L2
namespace L2
noncomputable section
open PySem
def Se{c:FT}{f:FE}{mk:Wv->Sl}{om:iM}(p:Wv->Bool)(g:Wv->Wv):∀{l:iI},(∀w∈l,c (mk w) om=some (.ok (p w),om))->(∀w∈l,p w=true->f (mk w) om=some (.ok (g w),om))->Xo c f mk l om=some (.ok ((l.filter p).map g),om)
 |[],_,_=>rfl
 |w::r,hc,hf=>by
  have ih:=Se p g (l:=r) (λx hx=>hc x (.tail _ hx)) (λx hx=>hf x (.tail _ hx));have h1:=hc w (.head _);show bnd (Yn (c (mk w))) (Ms (Xo c f mk r) (f (mk w))) om=_;cases hp:p w with
  |false=>simp[bnd,Yn,h1,hp,Ms,ih,cJ]
  |true=>
   have h2:=hf w (.head _) hp;simp[bnd,Yn,h1,hp,Ms,ih,h2,cJ,ret]
def LR(p:Wv->Bool)(n:Nat):(W0 n).filter p=((List.range n).filter λk=>p (.int (k:Nat))).map λ(k:Nat)=>Wv.int k:=by
 unfold W0;rw[List.filter_map];rfl
def K7{n:Nat}{w:Wv}(h:w∈W0 n):∃k,k<n∧w=.int (k:Nat):=by
 obtain⟨k,hk,e⟩:=aO.mp h;exact⟨k,bO.mp hk,e.symm⟩
def WN(n:Nat):(W0 n).length=n:=by simp[W0]
def Zx(us:hY):iL:=us.map λp=>(.inl p.1,.int p.2)
def Tz(us:hY)(k:Int):Ut (Zx us) (.inl k)=(us.lookup k).map Wv.int:=by
 induction us with
 |nil=>rfl
 |cons p us ih=>
  unfold Ut Zx at ih ⊢;rw[aU,cB,aK];by_cases h:p.1=k
  ·simp[h]
  ·have h':(k == p.1)=false:=aW.mpr (cF h)
   have h2:¬ (Sum.inl p.1:Key)=Sum.inl k:=λz=>h (f8 z)
   simp only[h2,decide_false,h'];exact ih
def IC{us:hY}{k:Int}(s:Int)(h:us.lookup k=none):WW (Zx us) (.inl k) (.int s)=Zx (us++[(k,s)]):=by
 have:((Zx us).any λkv=>decide (kv.1=(Sum.inl k:Key)))=false:=by
  have hv:=Tz us k;rw[h]at hv;unfold Ut at hv;cases hf:(Zx us).find? λkv=>decide (kv.1=(Sum.inl k:Key)) with
  |some x=>rw[hf]at hv;cases hv
  |none=>
   rw[ff];intro x hx;exact eT.mp hf x hx
 unfold WW;rw[this,aE aH];simp[Zx]
def Oy:∀us:hY,Qr (Zx us)=some us
 |[]=>rfl
 |p::us=>by
  show(match Qr (Zx us) with|some ps=>some ((p.1,p.2)::ps)|none=>none)=_;rw[Oy us]
def NG(us:hY):(Zx us).length=us.length:=by simp[Zx]
def ZJ:Option Int->Wv
 |none=>.non
 |some s=>.int s
def Ql:∀{l m:hY},l.Pairwise (λx y=>x.1<y.1)->m.Pairwise (λx y=>x.1<y.1)->(∀p,p∈l ↔ p∈m)->l=m
 |[],[],_,_,_=>rfl
 |[],y::m,_,_,h=>absurd ((h y).mpr (.head _)) (by simp)
 |x::l,[],_,_,h=>absurd ((h x).mp (.head _)) (by simp)
 |x::l,y::m,h1,h2,h=>by
  have jv:=bU.mp h1;have jc:=bU.mp h2
  have e:x=y:=by
   rcases aT.mp ((h x).mp (.head _)) with hx|hx
   ·exact hx
   ·rcases aT.mp ((h y).mpr (.head _)) with hy|hy
    ·exact hy.symm
    ·have a:=jv.1 y hy
     have b:=jc.1 x hx;omega
  subst e
  congr 1
  refine Ql jv.2 jc.2 λp=>⟨λhp=>?_,λhp=>?_⟩
  ·rcases aT.mp ((h p).mp (.tail _ hp)) with rfl|hq
   ·have:=jv.1 p hp;omega
   ·exact hq
  ·rcases aT.mp ((h p).mpr (.tail _ hp)) with rfl|hq
   ·have:=jc.1 p hp;omega
   ·exact hq
def WC{a b:String}:(Str.ofString a=Str.ofString b)=(a=b):=by
 refine propext ⟨λh=>?_,λh=>by rw[h]⟩;rw[Str.ofString_eq_toList,Str.ofString_eq_toList]at h;injection h with h
 have h:=cx Array.toList h;simp only at h
 have inj:∀{l m:List Char},l.map Char.toNat=m.map Char.toNat->l=m:=by
  intro l
  induction l with
  |nil=>intro m e;cases m with|nil=>rfl|cons _ _=>simp at e
  |cons x l ih=>
   intro m e;cases m with
   |nil=>simp at e
   |cons y m=>
    simp only[aU,List.cons.injEq]at e;rw[ih e.2,Char.ext (UInt32.toNat_inj.mp e.1)]
 exact String.toList_inj.mp (inj h)
def YQ{a b:String}:(Str.ofString a == Str.ofString b)=decide (a=b):=by
 rw[eO,df,bX,WC]
def Wa(n:Nat)(om:iM)(h:n<=lim):YL (.int n) om=some (.ok (W0 n),om):=by
 have hl:n<=100000:=ZS ▸ h
 have hd:decide (-(2 ^ 62)<=(n:Int)∧(n:Int)<2 ^ 62)=true:=by
  rw[bX];exact⟨by omega,by omega⟩
 simp only[YL,hd];rw[ck];rfl
def Vk(a b:Int)(om:iM):Wn true (.int a) (.int b) om=some (.ok (.bl (!decide (a=b))),om):=by
 simp[Wn,Xd,VG,Wp,PyData.canLay0,PyData.depth,PyData.eqv];rfl
def Wi(a b:Int)(om:iM):Wn false (.int a) (.int b) om=some (.ok (.bl (decide (a=b))),om):=by
 simp[Wn,Xd,VG,Wp,PyData.canLay0,PyData.depth,PyData.eqv];rfl
def Zh{S1 S2:FS}{sl sl1:Sl}{om om1:iM}(h:S1 sl om=some (.ok (.nx,sl1),om1)):Zr S1 S2 sl om=S2 sl1 om1:=by
 simp[Zr,bnd,h,La]
def YJ{S1 S2:FS}{sl sl1:Sl}{om om1:iM}{w:Wv}(h:S1 sl om=some (.ok (.rt w,sl1),om1)):Zr S1 S2 sl om=some (.ok (.rt w,sl1),om1):=by
 simp[Zr,bnd,h,La,ret]
def ZH{N:Nat}{S:FS}{ws:iI}{sl1:Sl}{om om1:iM}{w:Wv}(h:S (Vl N ws) om=some (.ok (.rt w,sl1),om1)):Yj N S ws om=some (.ok w,om1):=by
 simp[Yj,bnd,h,Ie,ret]
def Wq{N:Nat}{S:FS}{ws:iI}{sl1:Sl}{om om1:iM}(h:S (Vl N ws) om=some (.ok (.nx,sl1),om1)):Yj N S ws om=some (.ok .non,om1):=by
 simp[Yj,bnd,h,Ie,ret]
def YI{fi:FI}{T:TgW}{S:FS}{sl sl1:Sl}{om om1 om2:iM}{ws:iI}{r:Fl × Sl}(h:fi sl om=some (.ok ws,om1))(hf:VF T S ws sl om1=some (.ok r,om2)):XH fi T S sl om=some (.ok r,om2):=by
 simp[XH,bnd,h,hf]
def Xv{k:iI->Mw Wv}{js:iC}{fi:FI}{c:FT}{f:FE}{sl:Sl}{om om1 om2:iM}{ws us:iI}(h:fi sl om=some (.ok ws,om1))(hl:ws.length<=lim)(hc:Xo c f (λw=>Xq js w sl) ws om1=some (.ok us,om2)):Z8 k js fi c f sl om=k us om2:=by
 simp[Z8,bnd,h,chk,hl,hc,ret]
def Zv{i:Nat}{f:FE}{sl:Sl}{om om1:iM}{w:Wv}(h:f sl om=some (.ok w,om1)):ZC i f sl om=some (.ok (.nx,sl.set i (some w)),om1):=by
 simp[ZC,bnd,h,ret]
end
open PySem
def Zm{α β:Type}{m:Mw α}{k:α->Mw β}{om om1:iM}{a:α}(h:m om=some (.ok a,om1)):bnd m k om=k a om1:=by
 simp[bnd,h]
section
variable{sl sl1:Sl}{om om1 om2:iM}{f fa fb fo:FE}{c c1 c2:FT}{S S1 S2:FS}{fs:FA}{w x y:Wv}{ws:iI}{b:Bool}{i j n:Nat}
def YC(h:c sl om=some (.ok true,om1)):sIf c S1 S2 sl om=S1 sl om1:=by simp[sIf,bnd,h]
def Qq(h:c sl om=some (.ok false,om1)):sIf c S1 S2 sl om=S2 sl om1:=by simp[sIf,bnd,h]
def ZP(h:c sl om=some (.ok false,om1)):sIf c S1 Yy sl om=some (.ok (.nx,sl),om1):=(Qq h).trans rfl
def Zb(h:sl[i]?=some (some w)):Za i sl om=some (.ok w,om):=by simp[Za,h,ret]
def Zs:fC w sl om=some (.ok w,om):=rfl
def Zk:Zi sl om=some (.ok [],om):=rfl
def Ze(h:f sl om=some (.ok w,om1))(hr:fs sl om1=some (.ok ws,om2)):Zc f fs sl om=some (.ok (w::ws),om2):=by simp[Zc,bnd,h,hr,ret]
def ZB{k:iI->Mw Wv}(h:fs sl om=some (.ok ws,om1)):fA k fs sl om=k ws om1:=by simp[fA,bnd,h]
def Wl{k:Wv->Mw Wv}(h:f sl om=some (.ok w,om1)):f1 k f sl om=k w om1:=by simp[f1,bnd,h]
def Zt{k:Wv->Wv->Mw Wv}(h:fa sl om=some (.ok x,om1))(h2:fb sl om1=some (.ok y,om2)):f2 k fa fb sl om=k x y om2:=by simp[f2,bnd,h,h2]
def YD{g:iI->Mw Wv}(h:ws.length=n):kN n g ws om=g ws om:=by subst h;simp[kN,chk,bnd,ret]
def ZO(h:f sl om=some (.ok (.bl b),om1)):fB f sl om=some (.ok b,om1):=by simp[fB,bnd,h,kB,ret]
def Xy(h:f sl om=some (.ok (.bl b),om1)):Xb f sl om=some (.ok b,om1):=by simp[Xb,bnd,h,kTru,Hn]
def Re(h:c sl om=some (.ok b,om1)):SM c sl om=some (.ok (!b),om1):=by simp[SM,bnd,h,ret]
def MY(h:c1 sl om=some (.ok true,om1)):VW c1 c2 sl om=c2 sl om1:=by simp[VW,bnd,h]
def JI(h:c1 sl om=some (.ok false,om1)):VW c1 c2 sl om=some (.ok false,om1):=by simp[VW,bnd,h,ret]
def fOr_t(h:c1 sl om=some (.ok true,om1)):fOr c1 c2 sl om=some (.ok true,om1):=by simp[fOr,bnd,h,ret]
def Nr(h:c1 sl om=some (.ok false,om1)):fOr c1 c2 sl om=c2 sl om1:=by simp[fOr,bnd,h]
def Lo(h:fa sl om=some (.ok (.bl true),om1)):Uf fa fb sl om=fb sl om1:=by simp[Uf,bnd,h,kB,ret]
def Zu(h:f sl om=some (.ok w,om1)):Yc f sl om=some (.ok (.rt w,sl),om1):=by simp[Yc,bnd,h,ret]
def Z9(h:f sl om=some (.ok w,om1)):Z4 f sl om=some (.ok (.nx,sl),om1):=by simp[Z4,bnd,h,ret]
def Zy{C:Addr}{m:Str}{g:iI->Mw Wv}{k:iJ}(h:fo sl om=some (.ok w,om1))(hi:TX om1 w=some (C,k))(hk:k.lookup m=none)(hs:fs sl om1=some (.ok ws,om2))(hn:ws.length+1=n):Zn C m n g fo fs sl om=g (w::ws) om2:=by
 subst hn;simp[Zn,bnd,h,Cd,hi,hk,hs,kN,chk,ret]
end
def CY{K:g8}(h:notL K=true){a:Addr}{o:Obj}(e:K.lookup a=some o):o.cls≠.type "list":=by
 intro z
 have hm:∃b,(b,o)∈K:=by
  clear h z
  induction K with
  |nil=>cases e
  |cons p K ih=>
   rw[aK]at e;split at e
   ·cases e;exact⟨p.1,.head _⟩
   ·obtain⟨b,hb⟩:=ih e;exact⟨b,.tail _ hb⟩
 obtain⟨b,hb⟩:=hm;have:=de.mp h _ hb;rw[show tyL ((b,o):Addr × Obj).2.cls=true by show tyL o.cls=true;rw[z];rfl]at this;cases this
def A8(K:g8):Sp:=λvs H Q _=>∃(a:Addr) (ns:iB),vs=[.ref a]∧SqL K H a (ns.map V.int)∧ns.length<=63∧∀H',Q (.bl true) H'
def Kp(F:Hp)(β:h8):∀ns:iB,RWs F β (ns.map Wv.int) (ns.map V.int)
 |[]=>.nil
 |i::ns=>.cons (.int i) (Kp F β ns)
def Cb{P:Program}{w:World}{K:g8}{mg:g7}{base:Heap}{CX:CXT}{k:Nat}{f:Addr}{fd:FuncData}{ps:iD}{g:iI->Mw Wv}(hK:notL K=true)(G:FnOk P w K mg base CX k f fd ps (spM 1 g))(h:∀ns:iB,∃om,g [.lst (ns.map .int)] []=some (.ok (.bl true),om)):FnOk P w K mg base CX k f fd ps (A8 K):=G.imp λvs H Q E ⟨a,ns,e,S,_,q⟩=>by
 subst e;have r:Rd H a (.lst (ns.map V.int)):=S.resolve_right λ⟨o,ik,n,e,hc,_⟩=>CY hK e hc
 obtain⟨om,e⟩:=h ns;refine⟨λb=>if b=a then H b else none,[],[],[.lst (ns.map .int)],⟨λb u z=>?_,.nil,rfl,λh a z=>(by cases z),λh a x z _=>(by cases z)⟩,.cons (.lst ?_ (Kp _ _ ns)) .nil,rfl,?_⟩
 ·by_cases hb:b=a
  ·exact(aC hb).symm.trans z
  ·have:=(aE hb).symm.trans z;cases this
 ·rcases r with r|⟨o,r⟩
  ·exact .inl ((aC rfl).trans r)
  ·exact .inr ⟨o,(aC rfl).trans r⟩
 ·rw[e]
  exact λF' H' il _ _ v rv=>by cases rv;exact q H'
end L2
namespace L2
noncomputable section
open PySem
def fzW(om:iM)(n:Nat):Nat->Wv->Wv
 |0,w=>w
 |k+1,.o h=>if n<=h then (match om[h]? with|some (.lst xs)=>.lst (xs.map (fzW om n k))|_=>.o h) else .o h
 |k+1,.lst xs=>.lst (xs.map (fzW om n k))
 |k+1,.tup xs=>.tup (xs.map (fzW om n k))
 |_+1,w=>w
open Classical in def tidyR (om:iM):Option (Except Addr Wv × iM)->Option (Except Addr Wv × iM)
 |none=>none
 |some (.ok w,ig)=>if ig.take om.length=om∧FzW ig om.length w (fzW ig om.length 4 w) then some (.ok (fzW ig om.length 4 w),om) else none
 |some (.error C,ig)=>if ig.take om.length=om then some (.error C,om) else none
def tidyG(g:iI->Mw Wv):iI->Mw Wv:=λws om=>tidyR om (g ws om)
open Classical in theorem tidyR_tidy {om:iM} (hs:∀x∈om,TK om.length x) {r:Option (Except Addr Wv × iM)} (h:tidyR om r≠none):Tidy om r (tidyR om r):=by
 match r,h with
 |none,h=>exact absurd rfl h
 |some (.ok w,ig),h=>
  have h:¬ ((if ig.take om.length=om∧FzW ig om.length w (fzW ig om.length 4 w) then some (Except.ok (fzW ig om.length 4 w),om) else none)=(none:Option (Except Addr Wv × iM))):=h;by_cases c:ig.take om.length=om∧FzW ig om.length w (fzW ig om.length 4 w)
  ·have e:ig=om++ig.drop om.length:=by
    conv=>lhs;rw[← fY om.length ig,c.1]
   show Tidy om (some (.ok w,ig)) (if ig.take om.length=om∧FzW ig om.length w (fzW ig om.length 4 w) then some (Except.ok (fzW ig om.length 4 w),om) else none);rw[aC c];have f:=c.2;generalize fzW ig om.length 4 w=w' at f;rw[e]at f ⊢;exact .ok rfl hs f
  ·rw[aE c]at h;exact absurd rfl h
 |some (.error C,ig),h=>
  have h:¬ ((if ig.take om.length=om then some (Except.error C,om) else none)=(none:Option (Except Addr Wv × iM))):=h;by_cases c:ig.take om.length=om
  ·have e:ig=om++ig.drop om.length:=by
    conv=>lhs;rw[← fY om.length ig,c]
   show Tidy om (some (.error C,ig)) (if ig.take om.length=om then some (Except.error C,om) else none);rw[aC c];rw[e];exact .err rfl hs
  ·rw[aE c]at h;exact absurd rfl h
def FnOk.tidyG{P:Program}{w:World}{K:g8}{mg:g7}{base:Heap}{k n:Nat}{f:Addr}{fd:FuncData}{ps:iD}{CX:CXT}{g:iI->Mw Wv}(F:FnOk P w K mg base CX k f fd ps (spM n g)):FnOk P w K mg base CX k f fd ps (spM n (L2.tidyG g)):=
 FnOk.tidy F λws om _ hs h=>tidyR_tidy hs h
open Classical in theorem tidyG_ok {g:iI->Mw Wv} {ws:iI} {om l:iM} {w w':Wv} (h:g ws om=some (.ok w,om++l)) (f:FzW (om++l) om.length w w') (e:fzW (om++l) om.length 4 w=w'):tidyG g ws om=some (.ok w',om):=by
 unfold tidyG;rw[h];show(if (om++l).take om.length=om∧FzW (om++l) om.length w (fzW (om++l) om.length 4 w) then some (Except.ok (fzW (om++l) om.length 4 w),om) else none)=_;rw[e,aC ⟨gX,f⟩]
open Classical in theorem tidyG_er {g:iI->Mw Wv} {ws:iI} {om l:iM} {C:Addr} (h:g ws om=some (.error C,om++l)):tidyG g ws om=some (.error C,om):=by
 unfold tidyG;rw[h];show(if (om++l).take om.length=om then some (Except.error C,om) else none)=_;rw[aC gX]
end
open PySem
def ZW{om:iM}{w v:Wv}{xs:iI}{k:Nat}(h:Xe om w=some xs)(e:xs[k]?=some v):kIx w (.int k) om=some (.ok v,om):=by
 simp[kIx,h,BI e]
def Vr{om:iM}{w:Wv}{xs:iI}(h:Xe om w=some xs):XW [w] om=some (.ok (.int xs.length),om):=by
 simp[XW,h]
def Mn{om:iM}{w:Wv}{xs:iI}{sl:Sl}{i:Nat}(hv:sl[i]?=some (some w))(h:Xe om w=some xs)(hl:xs.length<=lim):(λsl=>bnd ((fA XW (Zc (Za i) Zi)) sl) YL) sl om=some (.ok (W0 xs.length),om):=
 (Zm ((ZB (Ze (Zb hv) Zk)).trans (Vr h))).trans (Wa _ _ hl)
def Cr{α:Type}{f:α->Wv}{xs:List α}{k:Nat}(h:k<xs.length)(d:α):(xs.map f)[k]?=some (f (xs.getD k d)):=by
 simp[h,aR]
def SR{α:Type}{f:α->Wv}{xs:List α}{om:iM}{w:Wv}{k:Nat}(h:Xe om w=some (xs.map f))(hk:k<xs.length)(d:α):kIx w (.int k) om=some (.ok (f (xs.getD k d)),om):=
 ZW h (Cr hk d)
def P4(a b:String)(ha:PyData.strOk (Str.ofString a)=true)(hb:PyData.strOk (Str.ofString b)=true)(om:iM):Wn false (.str a) (.str b) om=some (.ok (.bl (decide (a=b))),om):=by
 simp[Wn,Xd,VG,Wp,PyData.canLay0,PyData.depth,PyData.eqv,YQ,WC,ha,hb]
def ne_str(a b:String)(ha:PyData.strOk (Str.ofString a)=true)(hb:PyData.strOk (Str.ofString b)=true)(om:iM):Wn true (.str a) (.str b) om=some (.ok (.bl (!decide (a=b))),om):=by
 simp[Wn,Xd,VG,Wp,PyData.canLay0,PyData.depth,PyData.eqv,YQ,WC,ha,hb]
def KD(a b:Option Int)(om:iM):Wn true (ZJ a) (ZJ b) om=some (.ok (.bl (!decide (a=b))),om):=by
 cases a <;> cases b <;> simp[ZJ,Wn,Xd,VG,Wp,PyData.canLay0,PyData.depth,PyData.eqv] <;> rfl
def Nq{T:TgW}{S:FS}(J:Nat->Sl->List Ob->Prop):∀(n s:Nat) {sl:Sl} {om:iM},(∀m,s<=m->m<s+n->∀sl om,J m sl om->∃sl1 fl iy om2,T (.int (m:Nat)) sl=some sl1∧S sl1 om=some (.ok (fl,iy),om2)∧(fl=.nx∨fl=.ct)∧J (m+1) iy om2)->J s sl om->∃iz ig,VF T S ((List.range' s n).map λ(i:Nat)=>Wv.int i) sl om=some (.ok (.nx,iz),ig)∧J (s+n) iz ig
 |0,s,sl,om,_,j=>⟨sl,om,rfl,j⟩
 |n+1,s,sl,om,h,j=>by
  obtain⟨sl1,fl,iy,om2,h1,h2,h3,h4⟩:=h s (aM _) (by omega) sl om j;obtain⟨iz,ig,e,j'⟩:=Nq J n (s+1) (λm ha hb=>h m (by omega) (by omega)) h4;refine⟨iz,ig,?_,by rw[show s+(n+1)=s+1+n by omega];exact j'⟩;rw[gH,aU];show(match T (.int (s:Nat)) sl with|none=>WM|some sl1=>bnd (S sl1) (QA λiy=>VF T S _ iy)) om=_;rw[h1];rcases h3 with rfl|rfl
  ·simp[bnd,h2,QA,e]
  ·simp[bnd,h2,QA,e]
def WP{T:TgW}{S:FS}{n:Nat}{sl:Sl}{om:iM}(J:Nat->Sl->List Ob->Prop)(h:∀m,m<n->∀sl om,J m sl om->∃sl1 fl iy om2,T (.int (m:Nat)) sl=some sl1∧S sl1 om=some (.ok (fl,iy),om2)∧(fl=.nx∨fl=.ct)∧J (m+1) iy om2)(j:J 0 sl om):∃iz ig,VF T S (W0 n) sl om=some (.ok (.nx,iz),ig)∧J n iz ig:=by
 obtain⟨iz,ig,e,j'⟩:=Nq J n 0 (λm _ hm=>h m (by omega)) j;rw[d9]at j';refine⟨iz,ig,?_,j'⟩;unfold W0;rw[List.range_eq_range'];exact e
section
variable{sl:Sl}{om:iM}{c1 c2:FT}{b1 b2:Bool}{r:Wv}
def Uy(h1:c1 sl om=some (.ok b1,om))(h2:b1=true->c2 sl om=some (.ok b2,om)):VW c1 c2 sl om=some (.ok (b1&&b2),om):=by
 cases b1 with
 |true=>exact(MY h1).trans (h2 rfl)
 |false=>exact JI h1
def Aq(h1:c1 sl om=some (.ok b1,om))(h2:b1=false->c2 sl om=some (.ok b2,om)):fOr c1 c2 sl om=some (.ok (b1 || b2),om):=by
 cases b1 with
 |true=>exact fOr_t h1
 |false=>exact(Nr h1).trans (h2 rfl)
def v2{k:Wv->Wv->Mw Wv}{i j:Nat}{x y:Wv}(hi:sl[i]?=some (some x))(hj:sl[j]?=some (some y)):f2 k (Za i) (Za j) sl om=k x y om:=Zt (Zb hi) (Zb hj)
end
def DQ(a b:Nat)(om:iM):Wn true (.int a) (.int b) om=some (.ok (.bl (!decide (a=b))),om):=by
 rw[Vk];by_cases h:a=b <;> simp[h] <;> omega
def eq_nat(a b:Nat)(om:iM):Wn false (.int a) (.int b) om=some (.ok (.bl (decide (a=b))),om):=by
 rw[Wi];by_cases h:a=b <;> simp[h] <;> omega
def Y0{ws:iI}{om:iM}(h:ws.length<=8):YW ws om=some (.ok (.tup ws),om):=by
 have:ws.length<=lim:=by have:=ZS;omega
 simp[YW,this,L2.ret]
def IS{om:iM}{n h k:Nat}{xs:iI}(hn:n<=h)(e:om[h]?=some (.lst xs)):fzW om n (k+1) (.o h)=.lst (xs.map (fzW om n k)):=by
 unfold fzW;rw[aC hn,e]
def fzW_bl(om:iM)(n k:Nat)(b:Bool):fzW om n k (.bl b)=.bl b:=by cases k <;> rfl
def K8:PyData.strOk (Str.ofString "stand")=true:=by decide +kernel
def N8:PyData.strOk (Str.ofString "move")=true:=by decide +kernel
def QV:PyData.strOk (Str.ofString "help")=true:=by decide +kernel
end L2
namespace L2
noncomputable section
open PySem PySem.Spec PyProof.Rows
def KU:iI->Mw Wv
 |[x,y]=>kI (λi j=>.int (if j > i then j else i)) x y
 |_=>WM
def K2:iI->Mw Wv
 |[x,y]=>kI (λi j=>.int (if j<i then j else i)) x y
 |_=>WM
section
variable{X:Cx}{E:XK}{e a b:Expr}{es:iE}{f fa fb:FE}{fs:FA}{pos p:Pos}
def Ic:Qo E (λxs H Q=>∃i j,xs=[.int i,.int j]∧Q (.int (if j > i then j else i)) H) KU:=by
 intro F H β om ws vs Q M rs R
 match ws,rs,R with
 |[],_,R=>exact R.elim
 |[_],_,R=>exact R.elim
 |_::_::_::_,_,R=>exact R.elim
 |[x,y],.cons rx (.cons ry .nil),R=>
  have R:Res E (kI (λi j=>.int (if j > i then j else i)) x y om) F H β (PV Q):=R;cases rx <;> first|exact R.elim|skip
  cases ry <;> first|exact R.elim|skip
  exact⟨_,_,rfl,(show Res E (ret (Wv.int _) om) F H β (PV Q) from R).now M _ (.int _)⟩
def JW:Qo E (λxs H Q=>∃i j,xs=[.int i,.int j]∧Q (.int (if j<i then j else i)) H) K2:=by
 intro F H β om ws vs Q M rs R
 match ws,rs,R with
 |[],_,R=>exact R.elim
 |[_],_,R=>exact R.elim
 |_::_::_::_,_,R=>exact R.elim
 |[x,y],.cons rx (.cons ry .nil),R=>
  have R:Res E (kI (λi j=>.int (if j<i then j else i)) x y om) F H β (PV Q):=R;cases rx <;> first|exact R.elim|skip
  cases ry <;> first|exact R.elim|skip
  exact⟨_,_,rfl,(show Res E (ret (Wv.int _) om) F H β (PV Q) from R).now M _ (.int _)⟩
def BK(hc:X.calm=true)(hg:Gl X "max")(hm:X.mg "max"=none)(hb:bootBuiltins "max"=some (.builtin "max"))(ha:PA X (e::es) (tA E fs))(he:starEach (e::es) X.env=(false,eval e X.env)::starEach es X.env:=by rfl)(iO:(backTo pos (starEach es X.env)).any (·.1)=false:=by rfl):PE X (.Call (.Name "max" p) (e::es) [] pos) (tE E (fA KU fs)):=Up (HU hc) Ic hg hm hb ha (by decide) (by decide) he iO
def Cv(hc:X.calm=true)(hg:Gl X "min")(hm:X.mg "min"=none)(hb:bootBuiltins "min"=some (.builtin "min"))(ha:PA X (e::es) (tA E fs))(he:starEach (e::es) X.env=(false,eval e X.env)::starEach es X.env:=by rfl)(iO:(backTo pos (starEach es X.env)).any (·.1)=false:=by rfl):PE X (.Call (.Name "min" p) (e::es) [] pos) (tE E (fA K2 fs)):=Up (GD hc) JW hg hm hb ha (by decide) (by decide) he iO
end
def tgs:iC->List Wv->Sl->Option Sl
 |[],[],sl=>some sl
 |i::is,w::ws,sl=>tgs is ws (sl.set i (some w))
 |_,_,_=>none
def QG(is:iC):TgW:=λw sl=>match w with
 |.tup ws=>tgs is ws sl
 |_=>none
def Dz{F H:Hp}{β:h8}{Q:St->Hp->Prop}:∀{is:iC} {ws:iI} {vs:iH} {σ:St} {sl iz:Sl},EnvOk F β σ sl->RWs F β ws vs->tgs is ws sl=some iz->(∀ir,EnvOk F β ir iz->Q ir H)->vs.length=is.length∧gNs is vs σ H Q
 |[],[],_,σ,sl,iz,V,.nil,e,q=>by
  have e:some sl=some iz:=e;cases e;exact⟨rfl,rfl,q _ V⟩
 |i::is,w::ws,_,σ,sl,iz,V,.cons r rs,e,q=>by
  have e:tgs is ws (sl.set i (some w))=some iz:=e;obtain⟨h1,h2⟩:=Dz (V.set i r) rs e q;exact⟨cx Nat.succ h1,_,_,rfl,h2⟩
 |[],_::_,_,_,_,_,_,_,e,_=>by cases e
 |_::_,[],_,_,_,_,_,_,e,_=>by cases e
def S4{K:g8}(is:iC):Jr (Ff K is.length (gNs is)) (QG is):=λ{F H β om σ sl iz w v Q} M V r e q=>by
 cases r with
 |@tup a xs ws q2 rs=>
  obtain⟨h1,h2⟩:=Dz V rs (show tgs is ws sl=some iz from e) q;exact⟨a,xs,rfl,.inl (.inl (M.sub _ _ q2)),h1,h2⟩
 |_=>cases e
abbrev stW:Wv:=.tup [.str "stand"]
def GTup(K:g8)(a:Addr):Prop:=∃(o:Obj) (ik:Array Value) (n:Nat),K.lookup a=some o∧o.cls=.type "tuple"∧o.data=.seq ik n∧ik.size<=sizeLine∧Vals [V.str "stand"] ik.toList
def GTup.sq{K:g8}{a:Addr}(h:GTup K a)(H:Hp):SqT K H a [.str "stand"]:=.inr h
def GTup.of{K:g8}{a:Addr}{od:Option Addr}{n:Nat}{t:Tok}{sl:Array (iG)}(h:K.lookup a=some ⟨.type "tuple",od,.seq #[.str "stand" t] n,sl⟩):GTup K a:=⟨_,_,_,h,rfl,rfl,by show 1<=sizeLine;decide,.cons ⟨t,rfl⟩ .nil⟩
def unG(s:Addr):Wv->Wv
 |.g a=>if a=s then stW else .g a
 |w=>w
def EJ(s:Addr):unG s (.g s)=stW:=aC rfl
def unG_or{F:Hp}{β:h8}{s:Addr}{x:Wv}{v:V}(r:RW F β x v):unG s x=x∨(x=.g s∧v=.ref s∧unG s x=stW):=by
 cases r with
 |g a=>
  by_cases h:a=s
  ·subst h;exact .inr ⟨rfl,rfl,EJ _⟩
  ·exact .inl (aE h)
 |_=>exact .inl rfl
def V4(s:Addr)(x i:Wv):Mw Wv:=kIx (unG s x) i
section
variable{X:Cx}{E:XK}{e a b:Expr}{es:iE}{f fa fb:FE}{fs:FA}{pos p p2:Pos}{s:Addr}
def MG{x:Str}(hg:Gl X x)(h:X.mg x=some (.ref s))(hd:(x == ("__debug__":Str))=false:=by decide):PE X (.Name x pos) (tE E (fC (.g s))):=Gn (Hg (v:=.ref s) hg h rfl hd) λ_ _=>.g s
def st_rws{F:Hp}{β:h8}:RWs F β [Wv.str "stand"] [V.str "stand"]:=.cons (.str _) .nil
def Cy(G:GTup X.K s):Op2 E (rIx X.K) (V4 s):=by
 intro F H β om x y v u Q M rx ry R;unfold V4 at R;rcases unG_or (s:=s) rx with h|⟨rfl,rfl,h⟩
 ·rw[h]at R;exact E3 M rx ry R
 ·rw[h]at R
  cases ry with
  |int i=>
   have R:Res E (match L2.atI [Wv.str "stand"] i with|some w=>some (Except.ok w,om)|none=>none) F H β (PV Q):=R
   match ha:L2.atI [Wv.str "stand"] i,R with
   |none,R=>exact R.elim
   |some w,R=>
    obtain⟨z,ez,rz⟩:=(st_rws (F:=F) (β:=β)).atI ha;exact .inr (.inl ⟨s,_,i,z,rfl,rfl,G.sq H,ez,(show Res E (ret w om) F H β (PV Q) from R).now M z rz⟩)
  |_=>exact R.elim
def UL(G:GTup X.K s)(ha:PE X a (tE E fa))(hb:PE X b (tE E fb))(hs:Ml b:=by intro _ _;rfl):PE X (.Subscript a b pos) (tE E (f2 (V4 s) fa fb)):=(Ai EE ha hb hs).weak λ_ _ _ h=>MZ (Cy G) h
def X3:iI->Option (iB)
 |[]=>some []
 |.int i::r=>match X3 r with
  |some is=>some (i::is)
  |none=>none
 |_=>none
def UM{F:Hp}{β:h8}:∀{ws:iI} {vs:iH} {ns:iB},RWs F β ws vs->X3 ws=some ns->vs=ns.map V.int
 |_,_,_,.nil,e=>by cases e;rfl
 |_,_,_,.cons (ws:=r) h rr,e=>by
  cases h with
  |int i=>
   have e:(match X3 r with|some is=>some (i::is)|none=>none)=some _:=e
   match hr:X3 r,e with
   |some is,e=>
    have e:some (i::is)=some _:=e;cases e;rw[aU,← UM rr hr]
   |none,e=>exact nomatch e
  |_=>exact nomatch e
def GN(p:Int):iB->List Int
 |[]=>[p]
 |q::r=>if q<p then q::GN p r else p::q::r
def Yt:iB->List Int
 |[]=>[]
 |p::r=>GN p (Yt r)
def Rx(p:Int):∀l,(GN p l).Perm (p::l)
 |[]=>dB _
 |q::r=>by
  unfold GN;split
  ·exact((Rx p r).cons q).trans (List.Perm.swap p q r)
  ·exact dB _
def ZT:∀l,(Yt l).Perm l
 |[]=>dB _
 |p::r=>(Rx p (Yt r)).trans ((ZT r).cons p)
def L1(p:Int):∀l:iB,l.Pairwise (·<=·)->(GN p l).Pairwise (·<=·)
 |[],_=>fK _ _
 |q::r,h=>by
  have h':=bU.mp h;unfold GN;by_cases hc:q<p
  ·rw[aC hc]
   refine bU.mpr ⟨λy hy=>?_,L1 p r h'.2⟩;rcases aT.mp ((Rx p r).mem_iff.mp hy) with rfl|hy
   ·omega
   ·exact h'.1 y hy
  ·rw[aE hc]
   refine bU.mpr ⟨λy hy=>?_,h⟩;rcases aT.mp hy with rfl|hy
   ·omega
   ·have:=h'.1 y hy;omega
def Wo:∀l,(Yt l).Pairwise (·<=·)
 |[]=>List.Pairwise.nil
 |p::r=>L1 p _ (Wo r)
def Ud:∀{l m:iB},l.Perm m->l.Pairwise (·<=·)->m.Pairwise (·<=·)->l=m
 |[],m,h,_,_=>(List.nil_perm.mp h).symm
 |x::l,[],h,_,_=>absurd h (by simp)
 |x::l,y::m,h,h1,h2=>by
  have jv:=bU.mp h1;have jc:=bU.mp h2
  have e:x=y:=by
   have hx:=h.mem_iff.mp (cU (a:=x) (l:=l));have hy:=h.mem_iff.mpr (cU (a:=y) (l:=m));rcases aT.mp hx with hx|hx
   ·exact hx
   ·rcases aT.mp hy with hy|hy
    ·exact hy.symm
    ·have a:=jv.1 y hy
     have b:=jc.1 x hx;omega
  subst e;rw[Ud h.cons_inv jv.2 jc.2]
def DI(om:iM):Wv->Option (iI)
 |.lst ws=>some ws
 |.o h=>match om[h]? with
  |some (.lst ws)=>some ws
  |_=>none
 |_=>none
def LN{F H:Hp}{β:h8}{om:iM}{w:Wv}{v:V}{ws:iI}(M:MOk F H β om)(r:RW F β w v)(e:DI om w=some ws):∃a xs,v=.ref a∧SqL X.K H a xs∧RWs F β ws xs:=by
 cases r with
 |lst q rs=>cases e;exact⟨_,_,rfl,.inl (Rd.same M.sub q),rs⟩
 |@o h a eb=>
  have e:(match om[h]? with|some (.lst ws)=>some ws|_=>none)=some ws:=e
  match hx:om[h]?,e with
  |none,e=>exact nomatch e
  |some (.ins _ _),e=>exact nomatch e
  |some (.exc _),e=>exact nomatch e
  |some (.dk _),e=>exact nomatch e
  |some (.dt _),e=>exact nomatch e
  |some (.dz _),e=>exact nomatch e
  |some (.lst us),e=>
   have e:some us=some ws:=e;cases e;obtain⟨a',ea,_,xs,kd,rs⟩:=M.at hx;rw[eb]at ea;cases ea;exact⟨_,_,rfl,SqL.of kd,rs⟩
 |_=>cases e
def YT(k:iI->Mw Wv)(ws:iI):Mw Wv:=λom=>match ws with
 |[x]=>match DI om x with
  |some us=>match X3 us with
   |some ns=>if ns.length<64 then k ((Yt ns).map Wv.int) om else none
   |none=>none
  |none=>none
 |_=>none
def S6{F:Hp}{β:h8}:∀ns:iB,RWs F β (ns.map Wv.int) (ns.map V.int)
 |[]=>.nil
 |_::r=>.cons (.int _) (S6 r)
def LB{k:iI->Mw Wv}(lk:Ur E k):Qo E (E7 X.K) (YT k):=by
 intro F H β om ws vs Q M rs R
 match ws,rs,R with
 |[],_,R=>exact R.elim
 |_::_::_,_,R=>exact R.elim
 |[x],.cons rx .nil,R=>
  unfold YT at R;dsimp only at R
  match hx:DI om x,R with
  |none,R=>exact R.elim
  |some us,R=>
   dsimp only at R
   match hn:X3 us,R with
   |none,R=>exact R.elim
   |some ns,R=>
    dsimp only at R;by_cases hl:ns.length<64
    ·rw[aC hl]at R
     obtain⟨p,xs,rfl,hs,r2⟩:=LN (X:=X) M rx hx;rw[UM r2 hn]at hs;refine⟨p,ns,rfl,hs,hl,λq ms h1 h2 hq=>?_⟩;have e:ms=Yt ns:=Ud (h1.trans (ZT ns).symm) h2 (Wo ns);rw[e];exact(lk M (S6 _) R).2 hq
    ·rw[aE hl]at R;exact R.elim
def VP{k:iI->Mw Wv}(lk:Ur E k)(hg:Gl X "sorted")(hm:X.mg "sorted"=none)(ha:PA X [e] (tA E fs))(he:starEach [e] X.env=(false,eval e X.env)::starEach [] X.env:=by rfl)(iO:(backTo pos (starEach [] X.env)).any (·.1)=false:=by rfl):PE X (.Call (.Name "sorted" p) [e] [] pos) (tE E (fA (YT k) fs)):=Up Jx (LB (X:=X) lk) hg hm dY ha (by decide) (by decide) he iO
def V9:iI->Option (iF)
 |[]=>some []
 |.bl b::r=>match V9 r with
  |some bs=>some (b::bs)
  |none=>none
 |_=>none
def P9{F:Hp}{β:h8}:∀{ws:iI} {vs:iH} {bs:iF},RWs F β ws vs->V9 ws=some bs->vs=bs.map V.bl
 |_,_,_,.nil,e=>by cases e;rfl
 |_,_,_,.cons (ws:=r) h rr,e=>by
  cases h with
  |bl i=>
   have e:(match V9 r with|some is=>some (i::is)|none=>none)=some _:=e
   match hr:V9 r,e with
   |some is,e=>
    have e:some (i::is)=some _:=e;cases e;rw[aU,← P9 rr hr]
   |none,e=>exact nomatch e
  |_=>exact nomatch e
def Fj(g:iF->Bool)(ws:iI):Mw Wv:=λom=>match ws with
 |[x]=>match DI om x with
  |some us=>match V9 us with
   |some bs=>some (.ok (.bl (g bs)),om)
   |none=>none
  |none=>none
 |_=>none
abbrev Ba:=Fj λbs=>bs.any id
def JC{g:iF->Bool}:Qo E (B9 X.K g) (Fj g):=by
 intro F H β om ws vs Q M rs R
 match ws,rs,R with
 |[],_,R=>exact R.elim
 |_::_::_,_,R=>exact R.elim
 |[x],.cons rx .nil,R=>
  unfold Fj at R;dsimp only at R
  match hx:DI om x,R with
  |none,R=>exact R.elim
  |some us,R=>
   dsimp only at R
   match hn:V9 us,R with
   |none,R=>exact R.elim
   |some bs,R=>
    obtain⟨p,xs,rfl,hs,r2⟩:=LN (X:=X) M rx hx;rw[P9 r2 hn]at hs;exact⟨p,bs,rfl,hs,(show Res E (ret (Wv.bl (g bs)) om) F H β (PV Q) from R).now M _ (.bl _)⟩
def Es(hc:X.calm=true)(hg:Gl X "any")(hm:X.mg "any"=none)(hb:bootBuiltins "any"=some (.builtin "any"))(ha:PA X [e] (tA E fs))(he:starEach [e] X.env=(false,eval e X.env)::starEach [] X.env:=by rfl)(iO:(backTo pos (starEach [] X.env)).any (·.1)=false:=by rfl):PE X (.Call (.Name "any" p) [e] [] pos) (tE E (fA Ba fs)):=Up (Gy hc) (JC (X:=X)) hg hm hb ha (by decide) (by decide) he iO
end
section
variable{X:Cx}{E:XK}{e o:Expr}{fo f:FE}
def Ay:V->List V->Hp->VK->Prop:=λx vs H Q=>∃l b xs zs,x=.ref l∧vs=[.ref b]∧H l=some (.lst xs)∧Rd H b (.lst zs)∧xs.length+zs.length<=sizeLine∧Q .non (upd H l (.lst (xs++zs)))
def Bl:MtM X "list.extend" Ay:=by
 intro gV s σ H x vs v us Q I rx rv h;obtain⟨l,b,xs,zs,rfl,rfl,hH,hB,hz,q⟩:=h;cases rx;obtain⟨u,rfl,ru⟩:=rv.one;cases ru;obtain⟨_,ik,n,r,hl,e⟩:=I.lstM hH;obtain⟨_,kR,m,r2,e2⟩:=hB.ok I.hok;have hl2:=r2.length;have hs:ik.toArray.size+kR.toArray.size<=sizeLine:=by simp only[bE];omega
 have hn:¬ (!ik.toArray.isEmpty&&Builtin.List.listTooLong (ik.toArray.size+kR.toArray.size))=true:=λz=>by
  rw[KO hs,Bool.and_false]at z;cases z
 refine call_meets F.slot_list_extend ⟨_,e,rfl⟩ F.entry_list_extend (F.args_list_extend_2 _ _) (AutoSeq1.list_extend_list_list_0 l ik.toArray n b kR.toArray m hn (by simp only[bE];omega) (by omega)) ⟨e,e2,?_⟩;exact⟨.non,_,I.lset (its':=ik++kR) hH e (by simp) (r.append r2) (by rw[aS];omega),rfl,q⟩
def kExt(x y:Wv):Mw Wv:=λom=>match VB om x,y with
 |some (h,ws),.lst us=>if ws.length+us.length<=lim then some (.ok .non,om.set h (.lst (ws++us))) else none
 |_,_=>none
def Ci(fo f:FE):FE:=λsl=>bnd (fo sl) λx=>bnd (HF x) λ_=>bnd (f sl) λy=>kExt x y
def GW{ip io:Pos}(ho:PE X o (tE E fo))(he:PE X e (tE E f))(iZ:attributeBase o "extend" X.env (eval o X.env)=eval o X.env:=by rfl)(je:((backTo io (starEach [e] X.env)).all (λx=>!x.1)&&(backToKw io (keywordEach [] X.env)).all (λx=>x.1.isSome)
     && decide (([e]:iE).length+([]:List Keyword).length+(if ([]:List Keyword).isEmpty then 0 else 1)<30))=true:=by rfl)
    (i4:(ip.endLine == io.line)=true:=by rfl) (hs:starEach [e] X.env=(false,eval e X.env)::starEach [] X.env:=by rfl) (ja:(backTo io (starEach [] X.env)).any (·.1)=false:=by rfl):
    PE X (.Call (.Attribute o "extend" ip) [e] [] io) (tE E (Ci fo f)):=(Di fI PySem.F.slot_list_extend PySem.F.type_list_extend Bl ho (Wz he V8 hs) iZ je i4 hs ja).weak λσ H Q ⟨F,β,om,sl,M,V,R⟩=>by
 refine⟨F,β,om,sl,M,V,R.bind λx om1 F1 H1 ij g1 M1 R1 v rv=>?_⟩;obtain⟨ty,R2⟩:=KR (X:=X) M1 rv R1;refine⟨ty,F1,ij,om1,sl,M1,V.mono g1.toGr,R2.bind λy jd F3 H3 jq g3 M3 R3 u ru=>?_⟩;show Ay v [u] H3 Q;unfold kExt at R3
 match hx:VB jd x,R3 with
 |none,R3=>exact R3.elim
 |some (h,ws),R3=>
  cases ru with
  |@lst b zs us q rs2=>
   dsimp only at R3;obtain⟨a,xs,_,_,eb,rfl,ha,rs⟩:=TJ M3 (rv.mono g3.toGr) hx;by_cases hc:ws.length+us.length<=lim
   ·rw[aC hc]at R3
    have:=UJ;have:=rs.length;have:=rs2.length;refine⟨a,b,xs,zs,rfl,rfl,ha,Rd.same M3.sub q,by omega,?_⟩;exact R3 F3 _ jq (M3.gxP eb (nz ha)) (M3.put eb ⟨xs++zs,ZG,rs.append rs2⟩) _ .non
   ·rw[aE hc]at R3;exact R3.elim
  |_=>exact R3.elim
end
end
end L2
namespace MP
noncomputable section
open PySem L2
structure CA where
 Map:Addr
 Board:Addr
 Orders:Addr
 Turn:Addr
 OrderError:Addr
 NoPlace:Addr
 NoSide:Addr
 Crowded:Addr
 NoUnit:Addr
 OutOfReach:Addr
 STAND:Addr
 kit:Addr->Value->Bool
 caught:Addr->Addr->Bool
def P6(c:CA):FS:=
 (Zr (sIf (fB (f2 kLt (Za 1) (fA XW (Zc (Za 0) Zi)))) (Yc (f2 kIx (Za 0) (Za 1))) Yy)
  (Yc (fC (.int 0))))
def Zp(c:CA):iI->Mw Wv:=Yj 2 (P6 c)
def Ln(c:CA):FS:=
 (Zr (ZC 1 (f2 WJ (fC (.int 2)) (f2 YY (fA (kN 2 (Zp c)) (Zc (Za 0) (Zc (fC (.int 0)) Zi))) (fC (.int 6)))))
  (Zr (sIf (fB (f2 kEq (f2 YY (f2 TL (fA (kN 2 (Zp c)) (Zc (Za 0) (Zc (fC (.int 0)) Zi))) (fC (.int 6))) (fC (.int 5))) (fC (.int 1)))) (Yc (fA YW (Zc (Za 1) (Zc (f2 YY (f2 TL (fA (kN 2 (Zp c)) (Zc (Za 0) (Zc (fC (.int 0)) Zi))) (fC (.int 30))) (f2 kSub (fC (.int 61)) (Za 1))) (Zc (fC (.int 60)) Zi))))) Yy)
  (Yc (fA YW (Zc (Za 1) (Zc (fC (.int 0)) (Zc (Za 1) Zi)))))))
def W1(c:CA):iI->Mw Wv:=Yj 2 (Ln c)
def T4(c:CA):FE:=
 (Bt Xm (Zc (fC (.bl false)) Zi) (Za 1))
def VV(c:CA):FS:=
 (Zr (Xl (f2 kEq (f2 YY (Za 2) (fC (.int 2))) (fC (.int 1))) (f2 kIx (Za 3) (Za 4)) (Za 5))
  (Zr (Xl (f2 kEq (f2 YY (Za 2) (fC (.int 2))) (fC (.int 1))) (f2 kIx (Za 3) (Za 5)) (Za 4))
  (ZC 2 (f2 TL (Za 2) (fC (.int 2))))))
def VX(c:CA):FS:=
 (XH (λsl=>bnd ((Za 4) sl) YL) (tgN 5) (VV c))
def Lp(c:CA):FS:=
 (Zr (ZC 2 (f2 YY (fA (kN 2 (Zp c)) (Zc (Za 0) (Zc (fC (.int 1)) Zi))) (fC (.int 2097152))))
  (Zr (sIf (fB (f2 kEq (f2 YY (fA (kN 2 (Zp c)) (Zc (Za 0) (Zc (fC (.int 2)) Zi))) (fC (.int 3))) (fC (.int 0)))) (ZC 2 (fC (.int 2097151))) Yy)
  (Zr (ZC 3 (Z8 Xm [1] (λsl=>bnd ((Za 1) sl) YL) Xg (T4 c)))
  (Zr (XH (λsl=>bnd ((Za 1) sl) YL) (tgN 4) (VX c))
  (Yc (Za 3))))))
def UK(c:CA):iI->Mw Wv:=Yj 6 (Lp c)
def Wy(c:CA):iI->Mw Wv:=tidyG (UK c)
def T0(c:CA):FS:=
 (Zr (ZC 4 (fA (kN 2 (Zp c)) (Zc (Za 0) (Zc (f2 WJ (fC (.int 3)) (Za 3)) Zi))))
  (sIf (fB (f2 kEq (f2 YY (Za 4) (fC (.int 4))) (fC (.int 0)))) (Z4 (MB (Za 2) (fC .non))) (sIf (fB (f2 kEq (f2 YY (f2 TL (Za 4) (fC (.int 4))) (fC (.int 3))) (fC (.int 0)))) (Z4 (MB (Za 2) (f2 YY (f2 TL (Za 4) (fC (.int 12))) (fC (.int 8))))) (Z4 (MB (Za 2) (f2 YY (f2 TL (Za 4) (fC (.int 4))) (fC (.int 3))))))))
def Me(c:CA):FS:=
 (Zr (ZC 2 (fA Xm Zi))
  (Zr (XH (λsl=>bnd ((Za 1) sl) YL) (tgN 3) (T0 c))
  (Yc (Za 2))))
def WX(c:CA):iI->Mw Wv:=Yj 5 (Me c)
def Uj(c:CA):FT:=
 (Xb (f2 kIx (f2 kIx (Za 2) (Za 1)) (Za 0)))
def Uu(c:CA):FE:=
 (Za 0)
def Ul(c:CA):FT:=
 (VW (fB (f2 kNe (Za 0) (Za 1))) (VW (fB (f1 UZ (f2 kIx (Za 3) (Za 0)))) (fOr (fB (f2 kEq (Za 0) (Za 4))) (Xb (f2 kIx (f2 kIx (Za 2) (Za 0)) (Za 4))))))
def Uv(c:CA):FE:=
 (Za 0)
def QF(c:CA):FS:=
 (Zr (ZC 4 (Z8 ZQ [1,2] (λsl=>bnd ((fA XW (Zc (Za 3) Zi)) sl) YL) (Uj c) (Uu c)))
  (Zr (sIf (fB (f1 VE (f2 kIx (Za 3) (Za 1)))) (Yc (fC .non)) Yy)
  (Zr (sIf (fOr (SM (Xb (Za 4))) (fB (f2 kEq (f2 YY (Za 0) (fC (.int 4))) (fC (.int 0))))) (Yc (fA YW (Zc (fC (.str "stand")) Zi))) Yy)
  (Zr (ZC 5 (f2 kIx (Za 4) (f2 YY (f2 TL (Za 0) (fC (.int 4))) (fA XW (Zc (Za 4) Zi)))))
  (Zr (sIf (fB (f2 kLt (f2 YY (Za 0) (fC (.int 4))) (fC (.int 3)))) (Yc (fA YW (Zc (fC (.str "move")) (Zc (Za 5) Zi)))) Yy)
  (Zr (ZC 6 (Z8 ZQ [1,2,3,5] (λsl=>bnd ((fA XW (Zc (Za 3) Zi)) sl) YL) (Ul c) (Uv c)))
  (Zr (sIf (SM (Xb (Za 6))) (Yc (fA YW (Zc (fC (.str "stand")) Zi))) Yy)
  (Yc (fA YW (Zc (fC (.str "help")) (Zc (f2 kIx (Za 6) (f2 YY (f2 TL (Za 0) (fC (.int 28))) (fA XW (Zc (Za 6) Zi)))) (Zc (Za 5) Zi))))))))))))
def Y3(c:CA):iI->Mw Wv:=Yj 7 (QF c)
end
open PySem L2
inductive Od where
 |stand
 |move (g:Nat)
 |help (h g:Nat)
 deriving DecidableEq
abbrev iN:=List (Option Od)
def odW:Option Od->Wv
 |none=>.non
 |some .stand=>.tup [.str "stand"]
 |some (.move g)=>.tup [.str "move",.int g]
 |some (.help h g)=>.tup [.str "help",.int h,.int g]
abbrev at'{α:Type}(l:List (Option α))(k:Nat):Option α:=l.getD k none
structure OkT(told:iN)(f:hX):Prop where
 len:told.length=f.length
 few:told.length<=60
 both:∀k,k<told.length->((at' told k).isSome=true ↔ (at' f k).isSome=true)
 mv:∀k g,at' told k=some (.move g)->g<told.length∧g≠k
 hl:∀k h g,at' told k=some (.help h g)->h<told.length∧g<told.length∧h≠k∧g≠k∧(at' f h).isSome=true
structure Rows(om:iM)(tw sw:Wv)(told:iN)(f:hX):Prop where
 t:Xe om tw=some (told.map odW)
 s:Xe om sw=some (f.map ZJ)
def Iq(told:iN)(f:hX)(k g:Nat):Bool:=(List.range told.length).any λm=>decide (at' told m=some (.move k))&&(!decide (m=g)&&!decide (at' f m=at' f k))
def odN:Od->String
 |.stand=>"stand"
 |.move _=>"move"
 |.help _ _=>"help"
def NI(o:Od):PyData.strOk (Str.ofString (odN o))=true:=by
 cases o with
 |stand=>exact K8
 |move g=>exact N8
 |help h g=>exact QV
def od_0(o:Od)(om:iM):kIx (odW (some o)) (.int 0) om=some (.ok (.str (odN o)),om):=by
 cases o with
 |stand=>exact ZW (k:=0) rfl rfl
 |move g=>exact ZW (k:=0) rfl rfl
 |help h g=>exact ZW (k:=0) rfl rfl
def od_g(h g:Nat)(om:iM):kIx (odW (some (.help h g))) (.int 2) om=some (.ok (.int g),om):=ZW (k:=2) rfl rfl
def od_h(h g:Nat)(om:iM):kIx (odW (some (.help h g))) (.int 1) om=some (.ok (.int h),om):=ZW (k:=1) rfl rfl
def od_m(g:Nat)(om:iM):kIx (odW (some (.move g))) (.int 1) om=some (.ok (.int g),om):=ZW (k:=1) rfl rfl
def We:Option Od->Bool
 |some (.move _)=>true
 |_=>false
def isN_od(o:Option Od)(om:iM):VE (odW o) om=some (.ok (.bl o.isNone),om):=by
 match o with
 |none=>rfl
 |some .stand=>rfl
 |some (.move g)=>rfl
 |some (.help h g)=>rfl
def Ti(o:Option Int)(om:iM):VE (ZJ o) om=some (.ok (.bl o.isNone),om):=by
 cases o <;> rfl
def Nz(o:Option Int)(om:iM):UZ (ZJ o) om=some (.ok (.bl o.isSome),om):=by
 cases o <;> rfl
def WG(told:iN)(f:hX)(k:Nat):Bool:=match at' told k with
 |some (.help h g)=>!Iq told f k g&&(if h=g then !We (at' told h) else decide (at' told h=some (.move g)))
 |_=>false
def Ce(told:iN)(f:hX)(k iP:Nat)(sd:Option Int)(h:Nat):Bool:=decide (at' told h=some (.help k iP))&&(WG told f h&&!decide (at' f h=sd))
def W5(told:iN)(f:hX)(k iP:Nat)(sd:Option Int):Int:=(List.range told.length).foldl (λa h=>bif Ce told f k iP sd h then a+1 else a) 1
def DO(told:iN)(f:hX)(k:Nat):Int:=bif We (at' told k) then 1 else W5 told f k k (some (-1))
abbrev Yu(ns:iB):Wv:=.lst (ns.map .int)
section
variable(c:CA){om:iM}
def Bs(ns:iB)(k:Nat)(om:iM):Zp c [Yu ns,.int k] om=some (.ok (.int (ns.getD k 0)),om):=by
 have im:fA XW (Zc (Za 0) Zi) [some (Yu ns),some (.int k)] om=some (.ok (.int ns.length),om):=by
  refine(ZB (Ze (Zb rfl) Zk)).trans ((Vr rfl).trans ?_);rw[aA]
 have a1:fB (f2 kLt (Za 1) (fA XW (Zc (Za 0) Zi))) [some (Yu ns),some (.int k)] om=some (.ok (decide (k<ns.length)),om):=by
  refine ZO ((Zt (Zb rfl) im).trans ?_);simp[kI,L2.ret]
 by_cases h:k<ns.length
 ·rw[bJ h]at a1
  refine ZH (YJ ((YC a1).trans (Zu ((v2 rfl rfl).trans (SR (xs:=ns) rfl h 0)))))
 ·rw[aJ h]at a1
  rw[show ns.getD k 0=0 by simp[aR,bR (Nat.le_of_not_lt h)]];exact ZH ((Zh (ZP a1)).trans (Zu Zs))
def Rz{sl:Sl}{i:Nat}{fe:FE}{ns:iB}{k:Nat}(h:sl[i]?=some (some (Yu ns)))(hk:fe sl om=some (.ok (.int k),om)):fA (kN 2 (Zp c)) (Zc (Za i) (Zc fe Zi)) sl om=some (.ok (.int (ns.getD k 0)),om):=
 (ZB (Ze (Zb h) (Ze hk Zk))).trans ((YD rfl).trans (Bs c ns k om))
def WI{sl:Sl}{fa:FE}{a q:Int}(h:fa sl om=some (.ok (.int a),om))(hq:0<q):f2 YY fa (fC (.int q)) sl om=some (.ok (.int (a % q)),om):=(Zt h Zs).trans (by simp[kIc,L2.ret,hq])
def Rf{sl:Sl}{fa:FE}{a q:Int}(h:fa sl om=some (.ok (.int a),om))(hq:0<q∧q<1073741824):f2 TL fa (fC (.int q)) sl om=some (.ok (.int (a / q)),om):=(Zt h Zs).trans (by simp[kIc,L2.ret,hq])
def M0{sl:Sl}{fa:FE}{a q:Int}(h:fa sl om=some (.ok (.int a),om)):f2 WJ (fC (.int q)) fa sl om=some (.ok (.int (q+a)),om):=(Zt Zs h).trans (by simp[kI,L2.ret])
def Nv{sl:Sl}{fa:FE}{a q:Int}(h:fa sl om=some (.ok (.int a),om)):fB (f2 kEq fa (fC (.int q))) sl om=some (.ok (decide (a=q)),om):=ZO ((Zt h Zs).trans (Wi _ _ _))
def DB(ns:iB):∃ia off size:Nat,2<=ia∧ia<=7∧off+ia<=size∧size<=60∧(off=0∨size=60)∧∀om,W1 c [Yu ns] om=some (.ok (.tup [.int ia,.int off,.int size]),om):=by
 generalize hw:ns.getD 0 0=w;have l1:0<=w % 6:=eM _ (by omega);have l2:w % 6<6:=dG _ (by omega);obtain⟨ia,hm⟩:∃m:Nat,2+w % 6=m:=⟨(2+w % 6).toNat,by omega⟩
 have l3:0<=(w / 30) % (61-ia):=eM _ (by omega);have l4:(w / 30) % (61-ia)<61-ia:=dG _ (by omega);obtain⟨off,ho⟩:∃m:Nat,(w / 30) % (61-(ia:Int))=m:=⟨((w / 30) % (61-ia)).toNat,by omega⟩
 have cell:∀(x:Option Wv) om,fA (kN 2 (Zp c)) (Zc (Za 0) (Zc (fC (.int 0)) Zi)) [some (Yu ns),x] om=some (.ok (.int w),om):=λx om=>(Rz c (k:=0) rfl Zs).trans (by rw[hw])
 have s1:∀om,ZC 1 (f2 WJ (fC (.int 2)) (f2 YY (fA (kN 2 (Zp c)) (Zc (Za 0) (Zc (fC (.int 0)) Zi))) (fC (.int 6)))) [some (Yu ns),none] om=some (.ok (.nx,[some (Yu ns),some (.int ia)]),om):=λom=>(Zv (M0 (WI (cell _ om) (by decide)))).trans (by rw[hm];rfl)
 have t1:∀om,fB (f2 kEq (f2 YY (f2 TL (fA (kN 2 (Zp c)) (Zc (Za 0) (Zc (fC (.int 0)) Zi))) (fC (.int 6))) (fC (.int 5))) (fC (.int 1))) [some (Yu ns),some (.int ia)] om=_:=λom=>Nv (WI (Rf (cell _ om) (by decide)) (by decide))
 by_cases h:w / 6 % 5=1
 ·refine⟨ia,off,60,by omega,by omega,by omega,by omega,.inr rfl,λom=>?_⟩
  have t1:=t1 om;rw[bJ h]at t1;refine ZH ((Zh (s1 om)).trans (YJ ((YC t1).trans (Zu ((ZB (Ze (Zb rfl) (Ze (w:=.int off) (om1:=om) ?_ (Ze Zs Zk)))).trans (Y0 (by simp)))))));refine(Zt (Rf (cell _ om) (by decide)) (y:=.int (61-ia)) (om2:=om) ((Zt Zs (Zb rfl)).trans (by simp[kI,L2.ret]))).trans ?_;simp[kIc,L2.ret,ho,show(ia:Int)<61 by omega]
 ·refine⟨ia,0,ia,by omega,by omega,by omega,by omega,.inl rfl,λom=>?_⟩
  have t1:=t1 om;rw[aJ h]at t1;exact ZH ((Zh (s1 om)).trans ((Zh (ZP t1)).trans (Zu ((ZB (Ze (Zb rfl) (Ze Zs (Ze (Zb rfl) Zk)))).trans (Y0 (by simp))))))
def VY(w:Int):Option Int:=if w % 4=0 then none else if w / 4 % 3=0 then some (w / 12 % 8) else some (w / 4 % 3)
def YN(ns:iB)(m:Nat):hX:=(List.range m).map λk=>VY (ns.getD (3+k) 0)
def Qi(ns:iB)(m:Nat):(YN ns m).length=m:=by simp[YN]
def GV{w s:Int}(h:VY w=some s):0<=s∧s<=7:=by
 unfold VY at h;split at h
 ·cases h
 ·split at h
  ·cases h;omega
  ·cases h;omega
def ID{sl:Sl}{i:Nat}{fe:FE}{w:Wv}{ws:iI}{l:iM}(h:sl[i]?=some (some (.o om.length)))(hw:fe sl (om++.lst ws::l)=some (.ok w,om++.lst ws::l))(hl:ws.length<lim):Z4 (MB (Za i) fe) sl (om++.lst ws::l)=some (.ok (.nx,sl),om++.lst (ws++[w])::l):=by
 refine Z9 (w:=.non) ?_;unfold MB;rw[Zm (Zb h)];refine(Zm (a:=()) (om1:=om++.lst ws::l) ?_).trans ((Zm hw).trans ?_)
 ·simp[HF,L2.ret,VB]
 ·simp[kApp,VB,hl]
def Ri{sl:Sl}{i m:Nat}(h:sl[i]?=some (some (.int m)))(hm:m<=lim)(om:iM):(λsl=>bnd ((Za i) sl) YL) sl om=some (.ok (W0 m),om):=(Zm (Zb h)).trans (Wa _ _ hm)
def EU(ns:iB){m:Nat}(hm:m<=60)(om:iM):WX c [Yu ns,.int m] om=some (.ok (.o om.length),om++[.lst ((YN ns m).map ZJ)]):=by
 have iw:=ZS
 have e1:ZC 2 (fA Xm Zi) [some (Yu ns),some (.int m),none,none,none] om=some (.ok (.nx,[some (Yu ns),some (.int m),some (.o om.length),none,none]),om++[.lst []]):=
  Zv (i:=2) ((ZB Zk).trans (by simp[Xm,newO]))
 obtain⟨iz,ig,hf,rfl,x,y,rfl⟩:=WP (T:=tgN 3) (S:=T0 c) (n:=m) (λk sl ig=>ig=om++[.lst ((YN ns k).map ZJ)]∧∃x y,sl=[some (Yu ns),some (.int m),some (.o om.length),x,y])
  (sl:=[some (Yu ns),some (.int m),some (.o om.length),none,none]) (om:=om++[.lst []]) (λk hk sl ig ⟨ho,x,y,hx⟩=>by
   subst ho hx;have hl:((YN ns k).map ZJ).length<lim:=by rw[aA,Qi];omega
   have hs:(YN ns (k+1)).map ZJ=(YN ns k).map ZJ++[ZJ (VY (ns.getD (3+k) 0))]:=by
    unfold YN;rw[cY,bK,bK];rfl
   generalize hw:ns.getD (3+k) 0=w at hs
   have s1:ZC 4 (fA (kN 2 (Zp c)) (Zc (Za 0) (Zc (f2 WJ (fC (.int 3)) (Za 3)) Zi))) [some (Yu ns),some (.int m),some (.o om.length),some (.int k),y] (om++[.lst ((YN ns k).map ZJ)])=some (.ok (.nx,[some (Yu ns),some (.int m),some (.o om.length),some (.int k),some (.int w)]),om++[.lst ((YN ns k).map ZJ)]):=
    (Zv (Rz c (k:=3+k) rfl ((M0 (Zb rfl)).trans (by simp)))).trans (by rw[hw];rfl)
   have t1:fB (f2 kEq (f2 YY (Za 4) (fC (.int 4))) (fC (.int 0))) [some (Yu ns),some (.int m),some (.o om.length),some (.int k),some (.int w)] (om++[.lst ((YN ns k).map ZJ)])=_:=Nv (WI (Zb rfl) (by decide));have t2:fB (f2 kEq (f2 YY (f2 TL (Za 4) (fC (.int 4))) (fC (.int 3))) (fC (.int 0))) [some (Yu ns),some (.int m),some (.o om.length),some (.int k),some (.int w)] (om++[.lst ((YN ns k).map ZJ)])=_:=Nv (WI (Rf (Zb rfl) (by decide)) (by decide));refine⟨[some (Yu ns),some (.int m),some (.o om.length),some (.int k),y],.nx,[some (Yu ns),some (.int m),some (.o om.length),some (.int k),some (.int w)],om++[.lst ((YN ns (k+1)).map ZJ)],rfl,?_,.inl rfl,rfl,_,_,rfl⟩;refine(Zh s1).trans ?_;rw[hs];by_cases c1:w % 4=0
   ·rw[bJ c1]at t1
    rw[show VY w=none by simp[VY,c1]];exact(YC t1).trans (ID rfl Zs hl)
   ·rw[aJ c1]at t1
    by_cases c2:w / 4 % 3=0
    ·rw[bJ c2]at t2
     rw[show VY w=some (w / 12 % 8) by simp[VY,c1,c2]];exact(Qq t1).trans ((YC t2).trans (ID rfl (WI (Rf (Zb rfl) (by decide)) (by decide)) hl))
    ·rw[aJ c2]at t2
     rw[show VY w=some (w / 4 % 3) by simp[VY,c1,c2]];exact(Qq t1).trans ((Qq t2).trans (ID rfl (WI (Rf (Zb rfl) (by decide)) (by decide)) hl))) ⟨rfl,_,_,rfl⟩
 have e2:=YI (sl1:=[]) (fi:=λsl=>bnd ((Za 1) sl) YL) (sl:=[some (Yu ns),some (.int m),some (.o om.length),none,none]) (Ri rfl (by omega) _) hf;exact ZH ((Zh e1).trans ((Zh e2).trans (Zu (Zb rfl))))
end
abbrev Mx:=List (iF)
def X8(rows:Mx)(a b:Nat):Bool:=(rows.getD a []).getD b false
def UO(rows:Mx)(a b:Nat)(v:Bool):Mx:=rows.set a ((rows.getD a []).set b v)
def Rr(a:Nat)(s:Int × Mx)(b:Nat):Int × Mx:=(s.1 / 2,UO (UO s.2 a b (decide (s.1 % 2=1))) b a (decide (s.1 % 2=1)))
def IP(s:Int × Mx)(a:Nat):Int × Mx:=(List.range a).foldl (Rr a) s
def Hz(ns:iB):Int:=if ns.getD 2 0 % 3=0 then 2097151 else ns.getD 1 0 % 2097152
def VR(ns:iB)(m a:Nat):Int × Mx:=(List.range a).foldl IP (Hz ns,List.replicate m (List.replicate m false))
def X2(ns:iB)(m:Nat):Mx:=(VR ns m m).2
structure Lk(m:Nat)(rows:Mx):Prop where
 len:rows.length=m
 row:∀a,a<m->(rows.getD a []).length=m
 sym:∀a b,X8 rows a b=X8 rows b a
 dg:∀a,X8 rows a a=false
def LY{rows:Mx}{a b i:Nat}{v:Bool}(ha:a<rows.length):(UO rows a b v).getD i []=if i=a then (rows.getD a []).set b v else rows.getD i []:=by
 unfold UO;rw[aR,gF];by_cases h:a=i
 ·subst h;simp[ha]
 ·rw[aE h,aE (cF h),aR]
def IX{rows:Mx}{a b i j:Nat}{v:Bool}(ha:a<rows.length)(hb:b<(rows.getD a []).length):X8 (UO rows a b v) i j=if i=a∧j=b then v else X8 rows i j:=by
 unfold X8;rw[LY ha];by_cases h:i=a
 ·subst h
  rw[aC rfl,aR,gF];by_cases h2:b=j
  ·subst h2;simp only[aC rfl,aC hb];simp
  ·rw[aE h2,aE (λz=>h2 z.2.symm),← aR]
 ·rw[aE h,aE (λz=>h z.1)]
def SO(rows:Mx)(a b:Nat)(v:Bool):(UO rows a b v).length=rows.length:=by simp[UO]
def VQ{rows:Mx}{a b i:Nat}{v:Bool}(ha:a<rows.length):((UO rows a b v).getD i []).length=(rows.getD i []).length:=by
 rw[LY ha];by_cases h:i=a
 ·subst h;simp
 ·rw[aE h]
def Lk.step{m:Nat}{rows:Mx}(L:Lk m rows){a b:Nat}(ha:a<m)(hb:b<a)(v:Bool):Lk m (UO (UO rows a b v) b a v):=by
 have h1:a<rows.length:=L.len ▸ ha
 have h2:b<(rows.getD a []).length:=by rw[L.row a ha];omega
 have h3:b<(UO rows a b v).length:=by rw[SO,L.len];omega
 have h4:a<((UO rows a b v).getD b []).length:=by rw[VQ h1,L.row b (by omega)];exact ha
 have at2:∀i j,X8 (UO (UO rows a b v) b a v) i j=if i=b∧j=a then v else if i=a∧j=b then v else X8 rows i j:=λi j=>by
  rw[IX h3 h4,IX h1 h2]
 refine⟨by rw[SO,SO,L.len],λi hi=>by rw[VQ h3,VQ h1,L.row i hi],λi j=>?_,λi=>?_⟩
 ·rw[at2,at2]
  by_cases e1:i=b∧j=a
  ·rw[aC e1,aE (by omega),aC ⟨e1.2,e1.1⟩]
  ·rw[aE e1]
   by_cases e2:i=a∧j=b
   ·rw[aC e2,aC ⟨e2.2,e2.1⟩]
   ·rw[aE e2,aE (by omega),aE (by omega),L.sym]
 ·rw[at2,aE (by omega),aE (by omega),L.dg]
def Lk.zero(m:Nat):Lk m (List.replicate m (List.replicate m false)):=by
 have z:∀a b,X8 (List.replicate m (List.replicate m false)) a b=false:=λa b=>by
  unfold X8;rw[aR,aR,dD];by_cases h:a<m
  ·rw[aC h]
   show((List.replicate m false)[b]?).getD false=false;rw[dD];by_cases h2:b<m
   ·rw[aC h2];rfl
   ·rw[aE h2];rfl
  ·rw[aE h];rfl
 refine⟨by simp,λa ha=>?_,λa b=>by rw[z,z],λa=>z a a⟩;rw[aR,dD,aC ha];simp
def Lk.row_to{m:Nat}{s:Int × Mx}(L:Lk m s.2){a:Nat}(ha:a<m):∀k,k<=a->Lk m ((List.range k).foldl (Rr a) s).2
 |0,_=>L
 |k+1,h=>by
  rw[cY,dv];exact Lk.step (Lk.row_to L ha k (by omega)) ha (by omega) _
def Lk.to(ns:iB)(m:Nat):∀a,a<=m->Lk m (VR ns m a).2
 |0,_=>Lk.zero m
 |a+1,h=>by
  unfold VR;rw[cY,dv];exact Lk.row_to (Lk.to ns m a (by omega)) (by omega) a (aM _)
def PY(ns:iB)(m:Nat):Lk m (X2 ns m):=Lk.to ns m m (aM _)
section
variable(c:CA){om:iM}
def NM{f:FE}{mk:Wv->Sl}{x:Ob}:∀{l:iI} {om:iM},(∀w∈l,∀om,f (mk w) om=some (.ok (.o om.length),om++[x]))->Xo Xg f mk l om=some (.ok ((List.range l.length).map λi=>.o (om.length+i)),om++List.replicate l.length x)
 |[],om,_=>by simp[Xo,L2.ret]
 |w::l,om,h=>by
  have ih:=NM (l:=l) (om:=om++[x]) (λy hy=>h y (.tail _ hy));have h1:=h w (.head _) om;show bnd (Yn (Xg (mk w))) (Ms (Xo Xg f mk l) (f (mk w))) om=_;have c1:Yn (f (mk w)) om=some (.ok (.o om.length),om++[x]):=by simp[Yn,h1]
  have c2:bnd (Yn (Xg (mk w))) (Ms (Xo Xg f mk l) (f (mk w))) om=bnd (Yn (f (mk w))) (λx=>bnd (Xo Xg f mk l) λxs=>L2.ret (x::xs)) om:=rfl;rw[c2,Zm c1,Zm ih]
  have e1:(List.range l.length).map (λi=>Wv.o ((om++[x]).length+i))=((List.range l.length).map Nat.succ).map λi=>Wv.o (om.length+i):=by
   rw[aY];refine cC λi _=>?_
   show Wv.o _=Wv.o _;rw[aS]
   congr 1
   show om.length+1+i=om.length+(i+1);omega
  rw[e1,bG,List.range_succ_eq_map,cK,bP];rfl
abbrev HW(r:iF):Ob:=.lst (r.map .bl)
abbrev C9(n m:Nat):Ob:=.lst ((List.range m).map λi=>.o (n+i))
abbrev XY(om:iM)(m:Nat)(rows:Mx):iM:=om++(rows.map HW++[C9 om.length m])
def LF{m:Nat}{rows:Mx}(hr:rows.length=m):(XY om m rows)[om.length+m]?=some (C9 om.length m):=by
 subst hr;rw[bL (by omega),bL (by simp)];simp
def KG{m i:Nat}{rows:Mx}(hi:i<rows.length):(XY om m rows)[om.length+i]?=some (HW (rows.getD i [])):=by
 rw[bL (by omega),bA (by simp;omega)];simp[hi]
def Fm{m i jx:Nat}{rows:Mx}{v:Bool}(hi:i<rows.length):(XY om m rows).set (om.length+i) (.lst (((rows.getD i []).map Wv.bl).set jx (.bl v)))=XY om m (UO rows i jx v):=by
 rw[cp _ _ (by omega),List.set_append_left _ _ (by simp;omega)];unfold XY UO;rw[fO,d8]
 congr 3
 simp[fO]
def LC{fe:FE}{m i jx p q:Nat}{rows:Mx}{v:Bool}{sl:Sl}(hr:rows.length=m)(hi:i<m)(hj:jx<(rows.getD i []).length)(he:fe sl (XY om m rows)=some (.ok (.bl v),XY om m rows))(h3:sl[3]?=some (some (.o (om.length+m))))(hp:sl[p]?=some (some (.int i)))(hq:sl[q]?=some (some (.int jx))):Xl fe (f2 kIx (Za 3) (Za p)) (Za q) sl (XY om m rows)=some (.ok (.nx,sl),XY om m (UO rows i jx v)):=by
 have e1:f2 kIx (Za 3) (Za p) sl (XY om m rows)=some (.ok (.o (om.length+i)),XY om m rows):=by
  refine(v2 h3 hp).trans (ZW (xs:=(List.range m).map λi=>.o (om.length+i)) ?_ (by simp[hi]));show(match (XY om m rows)[om.length+m]? with|some (.lst ws)=>some ws|_=>none)=_;rw[LF hr]
 unfold Xl;rw[Zm he,Zm e1,Zm (Zb hq)];refine(Zm (a:=()) (om1:=XY om m (UO rows i jx v)) ?_).trans rfl
 have e2:VB (XY om m rows) (.o (om.length+i))=some (om.length+i,(rows.getD i []).map Wv.bl):=by
  show(match (XY om m rows)[om.length+i]? with|some (.lst ws)=>some (om.length+i,ws)|_=>none)=_;rw[KG (by omega)]
 have e3:ixN ((rows.getD i []).map Wv.bl).length (jx:Int)=some jx:=by
  rw[aA];unfold ixN;rw[aC (by omega),aC (by omega),ck]
 unfold Ha;rw[e2];show(match ixN ((rows.getD i []).map Wv.bl).length (jx:Int) with|some j=>some (Except.ok (),(XY om m rows).set (om.length+i) (.lst (((rows.getD i []).map Wv.bl).set j (.bl v))))|none=>none)=_;rw[e3];show some (Except.ok (),(XY om m rows).set (om.length+i) (.lst (((rows.getD i []).map Wv.bl).set jx (.bl v))))=_;rw[Fm (by omega)]
end
section
variable(c:CA){om:iM}
def HG(w:Wv)(n:Nat):(List.replicate n [w]).flatten=List.replicate n w:=by
 induction n with
 |zero=>rfl
 |succ n ih=>rw[cK,dw,ih];rfl
def M6{b:Bool}{om:iM}(h:b=true):chk b om=some (.ok (),om):=by subst h;rfl
def mk_rep{w:Wv}{n i:Nat}(hn:n<=60)(sl:Sl)(om:iM)(h:sl[i]?=some (some (.int n))):Bt Xm (Zc (fC w) Zi) (Za i) sl om=some (.ok (.o om.length),om++[.lst (List.replicate n w)]):=by
 have hl:=ZS
 have e:DR [w] (.int n) om=some (.ok (List.replicate n w),om):=by
  have hd:decide (-(2 ^ 63)<=(n:Int)∧(n:Int)<2 ^ 63∧[w].length * (n:Int).toNat<=lim)=true:=by
   rw[bX];exact⟨by omega,by omega,by show 1 * (n:Int).toNat<=lim;omega⟩
  unfold DR;dsimp only;rw[Zm (M6 hd),ck,HG];rfl
 unfold Bt;rw[Zm (Ze Zs Zk),Zm (M6 (bJ (show [w].length<=lim by show 1<=lim;omega))),Zm (Zb h),Zm e];have:(List.replicate n w).length<=lim:=by rw[dL];omega
 unfold Xm;rw[aC this];rfl
abbrev PX(n m:Nat)(ns:iB)(bits:Int)(x4 x5:Option Wv):Sl:=[some (Yu ns),some (.int m),some (.int bits),some (.o (n+m)),x4,x5]
def BV{m a b:Nat}{rows:Mx}{bits:Int}(ns:iB)(L:Lk m rows)(ha:a<m)(hb:b<a):VV c (PX om.length m ns bits (some (.int a)) (some (.int b))) (XY om m rows)=some (.ok (.nx,PX om.length m ns (Rr a (bits,rows) b).1 (some (.int a)) (some (.int b))),XY om m (Rr a (bits,rows) b).2):=by
 have v1:∀rows:Mx,f2 kEq (f2 YY (Za 2) (fC (.int 2))) (fC (.int 1)) (PX om.length m ns bits (some (.int a)) (some (.int b))) (XY om m rows)=some (.ok (.bl (decide (bits % 2=1))),XY om m rows):=λrows=>(Zt (WI (Zb rfl) (by decide)) Zs).trans (Wi _ _ _)
 have s1:=LC (om:=om) (m:=m) (i:=a) (jx:=b) (p:=4) (q:=5) (rows:=rows) L.len ha (by rw[L.row a ha];omega) (v1 rows) rfl rfl rfl;have s2:=LC (om:=om) (m:=m) (i:=b) (jx:=a) (p:=5) (q:=4) (rows:=UO rows a b (decide (bits % 2=1))) (by rw[SO,L.len]) (by omega) (by rw[VQ (by rw[L.len];exact ha),L.row b (by omega)];exact ha) (v1 _) rfl rfl rfl;exact(Zh s1).trans ((Zh s2).trans (Zv (i:=2) (Rf (Zb rfl) (by decide))))
def lk_row{m a:Nat}{s:Int × Mx}(ns:iB)(L:Lk m s.2)(ha:a<m)(hm:m<=60)(x5:Option Wv):∃y5,VX c (PX om.length m ns s.1 (some (.int a)) x5) (XY om m s.2)=some (.ok (.nx,PX om.length m ns (IP s a).1 (some (.int a)) y5),XY om m (IP s a).2):=by
 obtain⟨iz,ig,hf,y,rfl,rfl⟩:=WP (T:=tgN 5) (S:=VV c) (n:=a) (λb sl ig=>∃y,sl=PX om.length m ns ((List.range b).foldl (Rr a) s).1 (some (.int a)) y∧ig=XY om m ((List.range b).foldl (Rr a) s).2)
  (sl:=PX om.length m ns s.1 (some (.int a)) x5) (om:=XY om m s.2) (λb hb sl ig ⟨y,h1,h2⟩=>by
   subst h1 h2;refine⟨_,.nx,_,_,rfl,BV c ns (Lk.row_to L ha b (by omega)) ha hb,.inl rfl,some (.int b),?_,?_⟩
   ·rw[cY,dv];rfl
   ·rw[cY,dv];rfl) ⟨x5,rfl,rfl⟩
 exact⟨y,YI (sl1:=[]) (Ri rfl (by have:=ZS;omega) _) hf⟩
abbrev Yg(r:iF):Wv:=.lst (r.map .bl)
def DF(ns:iB){m:Nat}(hm:m<=60)(om:iM):Wy c [Yu ns,.int m] om=some (.ok (.lst ((X2 ns m).map Yg)),om):=by
 have iw:=ZS;have cell:∀(x:Option Wv) (k:Nat),fA (kN 2 (Zp c)) (Zc (Za 0) (Zc (fC (.int k)) Zi)) [some (Yu ns),some (.int m),x,none,none,none] om=some (.ok (.int (ns.getD k 0)),om):=λx k=>Rz c rfl Zs
 have s1:ZC 2 (f2 YY (fA (kN 2 (Zp c)) (Zc (Za 0) (Zc (fC (.int 1)) Zi))) (fC (.int 2097152))) [some (Yu ns),some (.int m),none,none,none,none] om=some (.ok (.nx,[some (Yu ns),some (.int m),some (.int (ns.getD 1 0 % 2097152)),none,none,none]),om):=Zv (i:=2) (WI (cell none 1) (by decide));have t1:fB (f2 kEq (f2 YY (fA (kN 2 (Zp c)) (Zc (Za 0) (Zc (fC (.int 2)) Zi))) (fC (.int 3))) (fC (.int 0))) [some (Yu ns),some (.int m),some (.int (ns.getD 1 0 % 2097152)),none,none,none] om=_:=Nv (WI (cell _ 2) (by decide))
 have s2:sIf (fB (f2 kEq (f2 YY (fA (kN 2 (Zp c)) (Zc (Za 0) (Zc (fC (.int 2)) Zi))) (fC (.int 3))) (fC (.int 0)))) (ZC 2 (fC (.int 2097151))) Yy [some (Yu ns),some (.int m),some (.int (ns.getD 1 0 % 2097152)),none,none,none] om=some (.ok (.nx,[some (Yu ns),some (.int m),some (.int (Hz ns)),none,none,none]),om):=by
  unfold Hz;by_cases h:ns.getD 2 0 % 3=0
  ·rw[bJ h]at t1
   rw[aC h];exact(YC t1).trans (Zv (i:=2) Zs)
  ·rw[aJ h]at t1
   rw[aE h];exact ZP t1
 have hz:om++List.replicate m (Ob.lst (List.replicate m (.bl false)))++[C9 om.length m]=XY om m (VR ns m 0).2:=by
  show _=om++((List.replicate m (List.replicate m false)).map HW++[C9 om.length m]);have e:HW (List.replicate m false)=Ob.lst (List.replicate m (.bl false)):=by unfold HW;rw[List.map_replicate]
  rw[bP,List.map_replicate,e]
 have s3:ZC 3 (Z8 Xm [1] (λsl=>bnd ((Za 1) sl) YL) Xg (T4 c)) [some (Yu ns),some (.int m),some (.int (Hz ns)),none,none,none] om=some (.ok (.nx,PX om.length m ns (VR ns m 0).1 none none),XY om m (VR ns m 0).2):=by
  refine Zv (i:=3) (w:=.o (om.length+m)) ?_;refine(Xv (ws:=W0 m) (om1:=om) (Ri rfl (by omega) om) (by rw[WN];omega) (NM (x:=.lst (List.replicate m (.bl false))) (λw _ om=>mk_rep (i:=1) hm _ om rfl))).trans ?_;rw[WN,← hz];unfold Xm;rw[aC (by rw[aA,cu];omega)];unfold newO;rw[aS,dL]
 obtain⟨iz,ig,hf,y4,y5,rfl,rfl⟩:=WP (T:=tgN 4) (S:=VX c) (n:=m) (λa sl ig=>∃y4 y5,sl=PX om.length m ns (VR ns m a).1 y4 y5∧ig=XY om m (VR ns m a).2)
  (sl:=PX om.length m ns (VR ns m 0).1 none none) (om:=XY om m (VR ns m 0).2) (λa ha sl ig ⟨y4,y5,h1,h2⟩=>by
   subst h1 h2;obtain⟨z5,e⟩:=lk_row c (om:=om) ns (Lk.to ns m a (by omega)) ha hm y5;have e2:VR ns m (a+1)=IP (VR ns m a) a:=by unfold VR;rw[cY,dv];rfl
   exact⟨_,.nx,_,_,rfl,e,.inl rfl,_,z5,by rw[e2],by rw[e2]⟩) ⟨none,none,rfl,rfl⟩
 have e4:=YI (sl1:=[]) (fi:=λsl=>bnd ((Za 1) sl) YL) (sl:=PX om.length m ns (VR ns m 0).1 none none) (Ri rfl (by omega) _) hf;have hg:UK c [Yu ns,.int m] om=some (.ok (.o (om.length+m)),XY om m (X2 ns m)):=ZH ((Zh s1).trans ((Zh s2).trans ((Zh s3).trans ((Zh e4).trans (Zu (Zb rfl))))));have L:=PY ns m;generalize X2 ns m=rows at hg L ⊢;have ho:=LF (om:=om) L.len;have hrow:∀i,i<m->(XY om m rows)[om.length+i]?=some (HW (rows.getD i [])):=λi hi=>KG (by rw[L.len];exact hi)
 have hrows:rows.map Yg=(List.range m).map λi=>Yg (rows.getD i []):=by
  refine cX λi=>?_
  rw[bC,bC];by_cases h:i<m
  ·rw[db h,aN (by rw[L.len];exact h)]
   simp[aR,aN (show i<rows.length by rw[L.len];exact h)]
  ·rw[bR (by rw[L.len];omega),bR (by simp;omega)]
   rfl
 have pl:∀r:iF,smalls om.length (r.map Wv.bl):=λr=>by
  induction r with
  |nil=>trivial
  |cons b r ih=>exact⟨trivial,ih⟩
 refine tidyG_ok hg (.own (eC _ _) ho ?_) ?_
 ·rw[hrows]
  have key:∀l:iC,(∀i∈l,i<m)->FzWs (XY om m rows) om.length (l.map λi=>.o (om.length+i)) (l.map λi=>Yg (rows.getD i [])):=λl=>by
   induction l with
   |nil=>exact λ_=>.nil
   |cons i l ih=>exact λh=>.cons (.own (eC _ _) (hrow i (h i (.head _))) (FzWs.of_smalls (pl _))) (ih λj hj=>h j (.tail _ hj))
  exact key _ λi hi=>bO.mp hi
 ·refine(IS (k:=3) (eC _ _) ho).trans ?_
  rw[aY,hrows];refine cx Wv.lst (cC λi hi=>?_);refine(IS (k:=2) (eC _ _) (hrow i (bO.mp hi))).trans ?_;refine cx Wv.lst ?_;rw[aY];exact cC λb _=>fzW_bl _ _ _ b
end
def XS(l:iC):iI:=l.map λ(k:Nat)=>Wv.int k
def Ui(rows:Mx)(n k:Nat):iC:=(List.range n).filter λb=>X8 rows k b
def IW(rows:Mx)(f:hX)(k iP h:Nat):Bool:=!decide (h=k)&&((at' f h).isSome&&(decide (h=iP) || X8 rows h iP))
def Rc(rows:Mx)(f:hX)(n k iP:Nat):iC:=(List.range n).filter (IW rows f k iP)
def Ss(l:iC)(i:Int):Nat:=l.getD (i % l.length).toNat 0
def UB(w:Int)(k:Nat)(rows:Mx)(f:hX):Option Od:=
 bif (at' f k).isNone then none
 else bif (Ui rows f.length k).isEmpty || decide (w % 4=0) then some .stand
 else bif decide (w % 4<3) then some (.move (Ss (Ui rows f.length k) (w / 4)))
 else bif (Rc rows f f.length k (Ss (Ui rows f.length k) (w / 4))).isEmpty then some .stand
 else some (.help (Ss (Rc rows f f.length k (Ss (Ui rows f.length k) (w / 4))) (w / 28)) (Ss (Ui rows f.length k) (w / 4)))
def HV(rows:Mx)(f:hX)(k:Nat):Option Od->Prop
 |none=>at' f k=none
 |some .stand=>(at' f k).isSome=true
 |some (.move g)=>(at' f k).isSome=true∧g<f.length∧X8 rows k g=true
 |some (.help h g)=>(at' f k).isSome=true∧h<f.length∧g<f.length∧h≠k∧(at' f h).isSome=true∧X8 rows k g=true∧(h=g∨X8 rows h g=true)
def OA{l:iC}(i:Int)(h:l.isEmpty=false):Ss l i∈l:=by
 have hl:0<l.length:=by cases l with|nil=>cases h|cons _ _=>simp
 have h1:0<=i % (l.length:Int):=eM _ (by omega);have h2:i % (l.length:Int)<l.length:=dG _ (by omega);have h3:(i % (l.length:Int)).toNat<l.length:=by omega
 unfold Ss;rw[aR,aN h3];exact dR _
def J0(w:Int)(k:Nat)(rows:Mx)(f:hX):HV rows f k (UB w k rows f):=by
 unfold UB;cases h0:(at' f k).isNone with
 |true=>exact Option.isNone_iff_eq_none.mp h0
 |false=>
  have hs:(at' f k).isSome=true:=by cases h:at' f k with|none=>rw[h]at h0;cases h0|some _=>rfl
  show HV rows f k (bif (Ui rows f.length k).isEmpty || decide (w % 4=0) then some .stand else _);cases h1:((Ui rows f.length k).isEmpty || decide (w % 4=0)) with
  |true=>exact hs
  |false=>
   have hn:(Ui rows f.length k).isEmpty=false:=(Bool.or_eq_false_iff.mp h1).1;have hm:Ss (Ui rows f.length k) (w / 4)∈List.range f.length∧X8 rows k (Ss (Ui rows f.length k) (w / 4))=true:=aL.mp (OA (w / 4) hn);show HV rows f k (bif decide (w % 4<3) then _ else _);generalize Ss (Ui rows f.length k) (w / 4)=g at hm ⊢;cases h2:decide (w % 4<3) with
   |true=>exact⟨hs,bO.mp hm.1,hm.2⟩
   |false=>
    show HV rows f k (bif (Rc rows f f.length k g).isEmpty then _ else _);cases h3:(Rc rows f f.length k g).isEmpty with
    |true=>exact hs
    |false=>
     have ha:Ss (Rc rows f f.length k g) (w / 28)∈List.range f.length∧IW rows f k g (Ss (Rc rows f f.length k g) (w / 28))=true:=aL.mp (OA (w / 28) h3);generalize Ss (Rc rows f f.length k g) (w / 28)=h at ha ⊢;have hb:=ha.2;simp only[IW,cf,fg,decide_eq_false_iff_not,eN,decide_eq_true_eq]at hb;exact⟨hs,bO.mp ha.1,bO.mp hm.1,hb.1,hb.2.1,hm.2,hb.2.2⟩
section
variable(c:CA){om:iM}
def Us{cT:FT}{f:FE}{mk:Wv->Sl}{om:iM}{n:Nat}(p:Nat->Bool)(g:Nat->Wv)(hc:∀k,k<n->cT (mk (.int (k:Nat))) om=some (.ok (p k),om))(hf:∀k,k<n->p k=true->f (mk (.int (k:Nat))) om=some (.ok (g k),om)):Xo cT f mk (W0 n) om=some (.ok (((List.range n).filter p).map g),om):=by
 rw[Se (λw=>match w with|.int i=>p i.toNat|_=>false) (λw=>match w with|.int i=>g i.toNat|_=>.non)]
 ·rw[LR,aY]
  have e:((List.range n).filter λk=>(match Wv.int (k:Nat) with|.int i=>p i.toNat|_=>false))=(List.range n).filter p:=dy λk _=>by
   show p ((k:Nat):Int).toNat=_;rw[ck]
  rw[e];refine cx (λl=>some (Except.ok l,om)) (cC λk _=>?_);show g ((k:Nat):Int).toNat=_;rw[ck]
 ·intro w hw
  obtain⟨k,hk,rfl⟩:=K7 hw;show _=some (Except.ok (p ((k:Nat):Int).toNat),om);rw[ck];exact hc k hk
 ·intro w hw hp
  obtain⟨k,hk,rfl⟩:=K7 hw;have hp:p ((k:Nat):Int).toNat=true:=hp;rw[ck]at hp;show _=some (Except.ok (g ((k:Nat):Int).toNat),om);rw[ck];exact hf k hk hp
def Fn{sl:Sl}{m a b p q r:Nat}{rows:Mx}(L:Lk m rows)(ha:a<m)(hb:b<m)(hp:sl[p]?=some (some (.lst (rows.map Yg))))(hq:sl[q]?=some (some (.int a)))(hr:sl[r]?=some (some (.int b))):f2 kIx (f2 kIx (Za p) (Za q)) (Za r) sl om=some (.ok (.bl (X8 rows a b)),om):=
 (Zt ((v2 hp hq).trans (SR (xs:=rows) rfl (by rw[L.len];exact ha) [])) (Zb hr)).trans (SR (f:=Wv.bl) (xs:=rows.getD a []) rfl (by rw[L.row a ha];exact hb) false)
def Hc{sl:Sl}{i:Nat}{ws:iI}(h:sl[i]?=some (some (.lst ws))):Xb (Za i) sl om=some (.ok (!ws.isEmpty),om):=by
 unfold Xb;rw[Zm (Zb h)];rfl
def IA{sl:Sl}{i:Nat}{l:iC}{fa:FE}{q w:Int}(h:sl[i]?=some (some (.lst (XS l))))(hl:l.isEmpty=false)(ha:fa sl om=some (.ok (.int w),om)):f2 kIx (Za i) (f2 YY fa (fA XW (Zc (Za i) Zi))) sl om=some (.ok (.int (Ss l w)),om):=by
 have h0:0<l.length:=by cases l with|nil=>cases hl|cons _ _=>simp
 have im:fA XW (Zc (Za i) Zi) sl om=some (.ok (.int l.length),om):=(ZB (Ze (Zb h) Zk)).trans ((Vr rfl).trans (by simp[XS]));have h1:0<=w % (l.length:Int):=eM _ (by omega);have h2:w % (l.length:Int)<l.length:=dG _ (by omega);have hm:f2 YY fa (fA XW (Zc (Za i) Zi)) sl om=some (.ok (.int (((w % l.length).toNat:Nat):Int)),om):=(Zt ha im).trans (by rw[Int.toNat_of_nonneg h1];simp[kIc,L2.ret,show 0<l.length from h0]);refine(Zt (Zb h) hm).trans ?_;exact SR (f:=λ(k:Nat)=>Wv.int k) (xs:=l) (k:=(w % l.length).toNat) rfl (by omega) 0
def KJ(w:Int){k:Nat}{rows:Mx}{f:hX}(L:Lk f.length rows)(hk:k<f.length)(hn:f.length<=60)(om:iM){sw:Wv}(hw:Xe om sw=some (f.map ZJ):=by rfl):Y3 c [.int w,.int k,.lst (rows.map Yg),sw] om=some (.ok (odW (UB w k rows f)),om):=by
 have iw:=ZS;have im:(f.map ZJ).length<=lim:=by rw[aA];omega
 generalize hNear:Ui rows f.length k=near;have hnl:near.length<=60:=by rw[← hNear];exact bF (aF _ _) (by simpa using hn)
 have s1:ZC 4 (Z8 ZQ [1,2] (λsl=>bnd ((fA XW (Zc (Za 3) Zi)) sl) YL) (Uj c) (Uu c)) [some (.int w),some (.int k),some (.lst (rows.map Yg)),some sw,none,none,none] om=some (.ok (.nx,[some (.int w),some (.int k),some (.lst (rows.map Yg)),some sw,some (.lst (XS near)),none,none]),om):=by
  refine Zv (i:=4) (w:=.lst (XS near)) ?_;refine(Xv (ws:=W0 (f.map ZJ).length) (om1:=om) (Mn rfl hw im) (by rw[WN];exact im) (Us (λb=>X8 rows k b) (λb=>.int (b:Nat)) (λb hb=>Xy (Fn (p:=2) (q:=1) (r:=0) L hk (by rw[aA]at hb;exact hb) rfl rfl rfl)) (λb hb _=>Zb rfl))).trans ?_;rw[aA];show ZQ (XS (Ui rows f.length k)) om=_;rw[hNear];unfold ZQ;rw[aC (by simp[XS];omega)];rfl
 have sk:=SR (k:=k) hw hk none;have t2:fB (f1 VE (f2 kIx (Za 3) (Za 1))) [some (.int w),some (.int k),some (.lst (rows.map Yg)),some sw,some (.lst (XS near)),none,none] om=some (.ok (at' f k).isNone,om):=ZO ((Wl ((v2 rfl rfl).trans sk)).trans (Ti _ _));unfold UB;rw[hNear];generalize (at' f k).isNone=b2 at t2 ⊢;cases b2 with
 |true=>exact ZH ((Zh s1).trans (YJ ((YC t2).trans (Zu Zs))))
 |false=>
  have t3:fOr (SM (Xb (Za 4))) (fB (f2 kEq (f2 YY (Za 0) (fC (.int 4))) (fC (.int 0)))) [some (.int w),some (.int k),some (.lst (rows.map Yg)),some sw,some (.lst (XS near)),none,none] om=some (.ok (near.isEmpty || decide (w % 4=0)),om):=by
   refine Aq ((Re (Hc rfl)).trans (by simp[XS])) λ_=>Nv (WI (Zb rfl) (by decide))
  show Y3 c _ om=some (.ok (odW (bif near.isEmpty || decide (w % 4=0) then some .stand else _)),om);cases h3:(near.isEmpty || decide (w % 4=0)) with
  |true=>
   rw[h3]at t3;exact ZH ((Zh s1).trans ((Zh (ZP t2)).trans (YJ ((YC t3).trans (Zu ((ZB (Ze Zs Zk)).trans (Y0 (by simp))))))))
  |false=>
   rw[h3]at t3;have jb:near.isEmpty=false:=(Bool.or_eq_false_iff.mp h3).1;have kh:=OA (w / 4) jb;rw[← hNear]at kh;have jz:=bO.mp (aL.mp kh).1;rw[hNear]at jz;have s4:ZC 5 (f2 kIx (Za 4) (f2 YY (f2 TL (Za 0) (fC (.int 4))) (fA XW (Zc (Za 4) Zi)))) [some (.int w),some (.int k),some (.lst (rows.map Yg)),some sw,some (.lst (XS near)),none,none] om=_:=Zv (i:=5) (IA (q:=0) rfl jb (Rf (Zb rfl) (by decide)));generalize Ss near (w / 4)=g at s4 jz ⊢;have t5:fB (f2 kLt (f2 YY (Za 0) (fC (.int 4))) (fC (.int 3))) [some (.int w),some (.int k),some (.lst (rows.map Yg)),some sw,some (.lst (XS near)),some (.int g),none] om=some (.ok (decide (w % 4<3)),om):=ZO ((Zt (WI (Zb rfl) (by decide)) Zs).trans (by simp[kI,L2.ret]));have pre:=λ{r:Option (Except Addr (Fl × Sl) × iM)} {S:FS} (h:S [some (.int w),some (.int k),some (.lst (rows.map Yg)),some sw,some (.lst (XS near)),some (.int g),none] om=r)=>(Zh s1).trans ((Zh (ZP (S1:=Yc (fC .non)) t2)).trans ((Zh (ZP (S1:=Yc (fA YW (Zc (fC (.str "stand")) Zi))) t3)).trans ((Zh s4).trans h)))
   show Y3 c _ om=some (.ok (odW (bif decide (w % 4<3) then some (.move g) else _)),om);cases h5:decide (w % 4<3) with
   |true=>
    rw[h5]at t5;exact ZH (pre (YJ ((YC t5).trans (Zu ((ZB (Ze Zs (Ze (Zb rfl) Zk))).trans (Y0 (by simp)))))))
   |false=>
    rw[h5]at t5;generalize hAble:Rc rows f f.length k g=able;have hal:able.length<=60:=by rw[← hAble];exact bF (aF _ _) (by simpa using hn)
    have s6:ZC 6 (Z8 ZQ [1,2,3,5] (λsl=>bnd ((fA XW (Zc (Za 3) Zi)) sl) YL) (Ul c) (Uv c)) [some (.int w),some (.int k),some (.lst (rows.map Yg)),some sw,some (.lst (XS near)),some (.int g),none] om=some (.ok (.nx,[some (.int w),some (.int k),some (.lst (rows.map Yg)),some sw,some (.lst (XS near)),some (.int g),some (.lst (XS able))]),om):=by
     refine Zv (i:=6) (w:=.lst (XS able)) ?_;refine(Xv (ws:=W0 (f.map ZJ).length) (om1:=om) (Mn rfl hw im) (by rw[WN];exact im) (Us (IW rows f k g) (λb=>.int (b:Nat)) (λb hb=>?_) (λb hb _=>Zb rfl))).trans ?_
     ·rw[aA]at hb
      refine Uy (ZO ((v2 rfl rfl).trans (DQ _ _ _))) λ_=>Uy (ZO ((Wl ((v2 (i:=3) (j:=0) rfl rfl).trans (SR (k:=b) hw hb none))).trans (Nz _ _))) λ_=>?_
      exact Aq (ZO ((v2 rfl rfl).trans (eq_nat _ _ _))) λ_=>Xy (Fn (p:=2) (q:=0) (r:=4) L hb jz rfl rfl rfl)
     ·rw[aA]
      show ZQ (XS (Rc rows f f.length k g)) om=_;rw[hAble];unfold ZQ;rw[aC (by simp[XS];omega)];rfl
    have t7:SM (Xb (Za 6)) [some (.int w),some (.int k),some (.lst (rows.map Yg)),some sw,some (.lst (XS near)),some (.int g),some (.lst (XS able))] om=some (.ok able.isEmpty,om):=(Re (Hc rfl)).trans (by simp[XS]);show Y3 c _ om=some (.ok (odW (bif able.isEmpty then some .stand else _)),om);cases h7:able.isEmpty with
    |true=>
     rw[h7]at t7;exact ZH (pre ((Zh (ZP t5)).trans ((Zh s6).trans (YJ ((YC t7).trans (Zu ((ZB (Ze Zs Zk)).trans (Y0 (by simp)))))))))
    |false=>
     rw[h7]at t7;exact ZH (pre ((Zh (ZP t5)).trans ((Zh s6).trans ((Zh (ZP t7)).trans (Zu ((ZB (Ze Zs (Ze (IA (q:=0) rfl h7 (Rf (Zb rfl) (by decide))) (Ze (Zb rfl) Zk)))).trans (Y0 (by simp))))))))
end
structure Givn(rows:Mx)(f:hX)(told:iN):Prop where
 lk:Lk f.length rows
 len:told.length=f.length
 few:f.length<=60
 ok:∀k,k<f.length->HV rows f k (at' told k)
def UA{α:Type}{l:List (Option α)}{k:Nat}(h:¬ k<l.length):at' l k=none:=by
 unfold at';rw[aR,bR (by omega)];rfl
def Givn.okT{rows:Mx}{f:hX}{told:iN}(G:Givn rows f told):OkT told f:=by
 have dg:∀k g,X8 rows k g=true->g≠k:=λk g h z=>by subst z;rw[G.lk.dg]at h;cases h
 have inr:∀k o,at' told k=some o->k<f.length:=λk o e=>by
  by_cases h:k<told.length
  ·rw[← G.len];exact h
  ·rw[UA h]at e;cases e
 refine⟨G.len,by rw[G.len];exact G.few,λk hk=>?_,λk g e=>?_,λk h g e=>?_⟩
 ·have o:=G.ok k (G.len ▸ hk)
  match e:at' told k,o with
  |none,o=>have o:at' f k=none:=o;rw[o];simp
  |some .stand,o=>exact⟨λ_=>o,λ_=>rfl⟩
  |some (.move g),o=>exact⟨λ_=>o.1,λ_=>rfl⟩
  |some (.help h g),o=>exact⟨λ_=>o.1,λ_=>rfl⟩
 ·have o:=G.ok k (inr k _ e)
  rw[e]at o;exact⟨by rw[G.len];exact o.2.1,dg k g o.2.2⟩
 ·have o:=G.ok k (inr k _ e)
  rw[e]at o;exact⟨by rw[G.len];exact o.2.1,by rw[G.len];exact o.2.2.1,o.2.2.2.1,dg k g o.2.2.2.2.2.1,o.2.2.2.2.1⟩
def Vg(off:Nat)(ns:iB)(rows:Mx)(f:hX):iN:=(List.range f.length).map λk=>UB (ns.getD (off+k) 0) k rows f
def GM{off:Nat}{ns:iB}{rows:Mx}{f:hX}{k:Nat}(h:k<f.length):at' (Vg off ns rows f) k=UB (ns.getD (off+k) 0) k rows f:=by
 unfold at' Vg;rw[aR,bC,db h];rfl
def GY(off:Nat)(ns:iB){rows:Mx}{f:hX}(L:Lk f.length rows)(hf:f.length<=60):Givn rows f (Vg off ns rows f):=
 ⟨L,by simp[Vg],hf,λk hk=>by rw[GM hk];exact J0 ..⟩
end MP
namespace MP
noncomputable section
open PySem L2
def PP(c:CA):FS:=
 (Zr (Xu c.Map "size" (Za 1) (Za 0))
  (Xu c.Map "links" (λ_=>newO (.dt [])) (Za 0)))
def Vx(c:CA):iI->Mw Wv:=Yj 2 (PP c)
def Ru(c:CA):FS:=
 (sIf (fOr (fB (f2 kLt (Za 1) (fC (.int 0)))) (fB (f2 kGe (Za 1) (f1 (ZI c.Map "size") (Za 0))))) (V5 c.NoPlace (OZ (Za 1) N5)) Yy)
def ZD(c:CA):iI->Mw Wv:=Yj 2 (Ru c)
def JH(c:CA):FS:=
 (Zr (Z4 (Zn c.Map "need_place" 2 (ZD c) (Za 0) (Zc (Za 1) Zi)))
  (Zr (Z4 (Zn c.Map "need_place" 2 (ZD c) (Za 0) (Zc (Za 2) Zi)))
  (Zr (sIf (fB (f2 kEq (Za 1) (Za 2))) (V5 c.OutOfReach (OZ (Za 1) N5)) Yy)
  (Zr (YU (fC (.bl true)) (f1 (ZI c.Map "links") (Za 0)) (fA YW (Zc (Za 1) (Zc (Za 2) Zi))))
  (YU (fC (.bl true)) (f1 (ZI c.Map "links") (Za 0)) (fA YW (Zc (Za 2) (Zc (Za 1) Zi))))))))
def SA(c:CA):iI->Mw Wv:=Yj 3 (JH c)
def MX(c:CA):FS:=
 (Zr (Z4 (Zn c.Map "need_place" 2 (ZD c) (Za 0) (Zc (Za 1) Zi)))
  (Zr (Z4 (Zn c.Map "need_place" 2 (ZD c) (Za 0) (Zc (Za 2) Zi)))
  (Yc (f2 (Ws false) (fA YW (Zc (Za 1) (Zc (Za 2) Zi))) (f1 (ZI c.Map "links") (Za 0))))))
def UR(c:CA):iI->Mw Wv:=Yj 3 (MX c)
def Km(c:CA):FT:=
 (fB (f2 (Ws false) (fA YW (Zc (Za 2) (Zc (Za 0) Zi))) (f1 (ZI c.Map "links") (Za 1))))
def L5(c:CA):FE:=
 (Za 0)
def Jo(c:CA):FS:=
 (Zr (Z4 (Zn c.Map "need_place" 2 (ZD c) (Za 0) (Zc (Za 1) Zi)))
  (Yc (Z8 ZQ [0,1] (λsl=>bnd ((f1 (ZI c.Map "size") (Za 0)) sl) YL) (Km c) (L5 c))))
def Vh(c:CA):iI->Mw Wv:=Yj 2 (Jo c)
def SX(c:CA):FS:=
 (Zr (Xu c.Board "chart" (Za 1) (Za 0))
  (Xu c.Board "units" (λ_=>newO (.dk [])) (Za 0)))
def Xk(c:CA):iI->Mw Wv:=Yj 2 (SX c)
def Ll(c:CA):FS:=
 (Zr (Z4 (Zn c.Map "need_place" 2 (ZD c) (f1 (ZI c.Board "chart") (Za 0)) (Zc (Za 1) Zi)))
  (Zr (sIf (fOr (fB (f2 kLt (Za 2) (fC (.int 0)))) (fB (f2 kGt (Za 2) (fC (.int 7))))) (V5 c.NoSide (OZ (Za 2) N5)) Yy)
  (Zr (sIf (fB (f2 (Ws false) (Za 1) (f1 (ZI c.Board "units") (Za 0)))) (V5 c.Crowded (OZ (Za 1) N5)) Yy)
  (YU (Za 2) (f1 (ZI c.Board "units") (Za 0)) (Za 1)))))
def W7(c:CA):iI->Mw Wv:=Yj 3 (Ll c)
def Qz(c:CA):FS:=
 (Zr (Z4 (Zn c.Map "need_place" 2 (ZD c) (f1 (ZI c.Board "chart") (Za 0)) (Zc (Za 1) Zi)))
  (Yc (Ly (f1 (ZI c.Board "units") (Za 0)) (Za 1))))
def Zw(c:CA):iI->Mw Wv:=Yj 2 (Qz c)
def SG(c:CA):FS:=
 (sIf (fB (f1 VE (Zn c.Board "side_at" 2 (Zw c) (Za 0) (Zc (Za 1) Zi)))) (V5 c.NoUnit (OZ (Za 1) N5)) Yy)
def YA(c:CA):iI->Mw Wv:=Yj 2 (SG c)
def NX(c:CA):FS:=
 (Yc (SI ZQ (f1 (ZI c.Board "units") (Za 0))))
def ZM(c:CA):iI->Mw Wv:=Yj 1 (NX c)
def VU(c:CA):FS:=
 (sIf (Xb (f2 kIx (f2 kIx (Za 1) (Za 3)) (Za 4))) (Z4 (Zn c.Map "link" 3 (SA c) (Za 2) (Zc (f2 WJ (f2 kIx (Za 0) (fC (.int 1))) (Za 3)) (Zc (f2 WJ (f2 kIx (Za 0) (fC (.int 1))) (Za 4)) Zi)))) Yy)
def TR(c:CA):FS:=
 (XH (λsl=>bnd ((Za 3) sl) YL) (tgN 4) (VU c))
def Lb(c:CA):FS:=
 (Zr (ZC 2 (fA (XN c.Map 2 (Vx c)) (Zc (f2 kIx (Za 0) (fC (.int 2))) Zi)))
  (Zr (XH (λsl=>bnd ((f2 kIx (Za 0) (fC (.int 0))) sl) YL) (tgN 3) (TR c))
  (Yc (Za 2))))
def WY(c:CA):iI->Mw Wv:=Yj 5 (Lb c)
def T9(c:CA):FS:=
 (sIf (fB (f1 UZ (f2 kIx (Za 2) (Za 4)))) (Z4 (Zn c.Board "post" 3 (W7 c) (Za 3) (Zc (f2 WJ (f2 kIx (Za 0) (fC (.int 1))) (Za 4)) (Zc (f2 kIx (Za 2) (Za 4)) Zi)))) Yy)
def Mc(c:CA):FS:=
 (Zr (ZC 3 (fA (XN c.Board 2 (Xk c)) (Zc (fA (kN 2 (WY c)) (Zc (Za 0) (Zc (Za 1) Zi))) Zi)))
  (Zr (XH (λsl=>bnd ((f2 kIx (Za 0) (fC (.int 0))) sl) YL) (tgN 4) (T9 c))
  (Yc (Za 3))))
def W6(c:CA):iI->Mw Wv:=Yj 5 (Mc c)
end
open PySem L2
def pk(a b:Int):List Key:=[.inl a,.inl b]
def ME{a b x y:Int}:pk a b=pk x y ↔ a=x∧b=y:=by
 unfold pk;constructor
 ·intro h;injection h with h1 h2;injection h2 with h2 _;exact⟨f8 h1,f8 h2⟩
 ·rintro⟨rfl,rfl⟩;rfl
def MQ{κ:Type}[DecidableEq κ](kvs:List (κ × Wv))(k k':κ)(v:Wv):(kvs.map (λkv=>if kv.1=k then (kv.1,v) else kv)).find? (λkv=>decide (kv.1=k'))=(kvs.find? λkv=>decide (kv.1=k')).map (λkv=>if kv.1=k then (kv.1,v) else kv):=by
 induction kvs with
 |nil=>rfl
 |cons p kvs ih=>
  rw[aU,cB,cB];have e:(if p.1=k then (p.1,v) else p).1=p.1:=by split <;> rfl
  rw[e];cases h:decide (p.1=k') with
  |true=>rfl
  |false=>exact ih
def L8{κ:Type}[DecidableEq κ](kvs:List (κ × Wv))(k k':κ)(v:Wv):Ut (WW kvs k v) k'=if k'=k then some v else Ut kvs k':=by
 unfold WW;by_cases ha:(kvs.any λkv=>decide (kv.1=k))=true
 ·rw[aC ha]
  unfold Ut;rw[MQ];by_cases h:k'=k
  ·subst h
   rw[aC rfl];obtain⟨p,hp,e⟩:=dS.mp ha;cases hf:kvs.find? λkv=>decide (kv.1=k') with
   |none=>exact absurd e (eT.mp hf p hp)
   |some q=>
    have hq:=gQ hf;have hq:q.1=k':=bD hq;simp[hq]
  ·rw[aE h]
   cases hf:kvs.find? λkv=>decide (kv.1=k') with
   |none=>rfl
   |some q=>
    have hq:=gQ hf;have hq:q.1=k':=bD hq;simp[show ¬ q.1=k from λz=>h (hq ▸ z)]
 ·rw[aE ha]
  unfold Ut;rw[List.find?_append];have hn:(kvs.find? λkv=>decide (kv.1=k))=none:=eT.mpr λp hp z=>ha (dS.mpr ⟨p,hp,z⟩)
  by_cases h:k'=k
  ·subst h
   rw[aC rfl,hn];simp
  ·rw[aE h]
   cases hf:kvs.find? λkv=>decide (kv.1=k') with
   |none=>simp[show ¬ k=k' from λz=>h z.symm]
   |some q=>rfl
def Ol{κ:Type}[DecidableEq κ](kvs:List (κ × Wv))(k:κ)(v:Wv):(WW kvs k v).length<=kvs.length+1:=by
 unfold WW;split
 ·simp
 ·simp
abbrev Y9(c:CA)(size:Int)(hl:Nat):Ob:=.ins c.Map [("size",.int size),("links",.o hl)]
abbrev Yr(c:CA)(hm hu:Nat):Ob:=.ins c.Board [("chart",.o hm),("units",.o hu)]
section
variable(c:CA){om:iM}{h hl:Nat}{size:Int}
def Yq{C:Addr}{n:Str}{fs:iJ}{w:Wv}{sl:Sl}{i:Nat}(hv:sl[i]?=some (some (.o h)))(hm:om[h]?=some (.ins C fs))(hw:fs.lookup n=some w):f1 (ZI C n) (Za i) sl om=some (.ok w,om):=by
 refine(Wl (Zb hv)).trans ?_;simp[ZI,TX,hm,hw]
def O6(size:Int)(hl:Nat):List.lookup (Str.ofString "size") [(Str.ofString "size",Wv.int size),(Str.ofString "links",Wv.o hl)]=some (.int size):=by simp[aK,YQ]
def Pa(size:Int)(hl:Nat):List.lookup (Str.ofString "links") [(Str.ofString "size",Wv.int size),(Str.ofString "links",Wv.o hl)]=some (.o hl):=by simp[aK,YQ]
def XG(m:String)(size:Int)(hl:Nat)(h1:m≠"size")(h2:m≠"links"):List.lookup (Str.ofString m) [(Str.ofString "size",Wv.int size),(Str.ofString "links",Wv.o hl)]=none:=by simp[aK,YQ,h1,h2]
def VD(hm hu:Nat):List.lookup (Str.ofString "chart") [(Str.ofString "chart",Wv.o hm),(Str.ofString "units",Wv.o hu)]=some (.o hm):=by simp[aK,YQ]
def UI(hm hu:Nat):List.lookup (Str.ofString "units") [(Str.ofString "chart",Wv.o hm),(Str.ofString "units",Wv.o hu)]=some (.o hu):=by simp[aK,YQ]
def Yh(m:String)(hm hu:Nat)(h1:m≠"chart")(h2:m≠"units"):List.lookup (Str.ofString m) [(Str.ofString "chart",Wv.o hm),(Str.ofString "units",Wv.o hu)]=none:=by simp[aK,YQ,h1,h2]
def Zz{C:Addr}{fs:iJ}(hm:om[h]?=some (.ins C fs)):TX om (.o h)=some (C,fs):=by simp[TX,hm]
def Ts(hm:om[h]?=some (Y9 c size hl)){a:Int}(h0:0<=a)(h1:a<size):ZD c [.o h,.int a] om=some (.ok .non,om):=by
 have t:fOr (fB (f2 kLt (Za 1) (fC (.int 0)))) (fB (f2 kGe (Za 1) (f1 (ZI c.Map "size") (Za 0)))) [some (.o h),some (.int a)] om=some (.ok false,om):=by
  refine(Nr (ZO ((Zt (Zb rfl) Zs).trans (show kLt (.int a) (.int 0) om=some (.ok (.bl false),om) by simp[kI,L2.ret,show ¬ a<0 by omega])))).trans ?_;exact ZO ((Zt (Zb rfl) (Yq rfl hm (O6 ..))).trans (by simp[kI,L2.ret];omega))
 exact Wq (ZP t)
end
section
variable(c:CA){om:iM}{h hl:Nat}{size:Int}{kvs:iK}
def RC(kvs:iK)(a b:Int):iK:=WW (WW kvs (pk a b) (.bl true)) (pk b a) (.bl true)
def Uo(kvs:iK)(a b:Int):Bool:=(Ut kvs (pk a b)).isSome
def Gd(kvs:iK)(a b x y:Int):Uo (RC kvs a b) x y=(decide (x=a∧y=b) || (decide (x=b∧y=a) || Uo kvs x y)):=by
 unfold Uo RC;rw[L8,L8];by_cases h1:pk x y=pk b a
 ·rw[aC h1];simp[ME.mp h1]
 ·rw[aE h1]
  have jv:¬ (x=b∧y=a):=λz=>h1 (ME.mpr z)
  by_cases h2:pk x y=pk a b
  ·rw[aC h2];simp[ME.mp h2]
  ·rw[aE h2]
   have jc:¬ (x=a∧y=b):=λz=>h2 (ME.mpr z)
   rw[aJ jv,aJ jc];simp
def JN(kvs:iK)(a b:Int):(RC kvs a b).length<=kvs.length+2:=by
 unfold RC;have h1:=Ol kvs (pk a b) (.bl true);have h2:=Ol (WW kvs (pk a b) (.bl true)) (pk b a) (.bl true);omega
def DY{sl:Sl}{i j k:Nat}{x y:Int}(hh:h≠hl)(hv:sl[i]?=some (some (.o h)))(hm:om[h]?=some (Y9 c size hl))(hk:om[hl]?=some (.dt kvs))(hx:sl[j]?=some (some (.int x)))(hy:sl[k]?=some (some (.int y)))(im:kvs.length<lim):YU (fC (.bl true)) (f1 (ZI c.Map "links") (Za i)) (fA YW (Zc (Za j) (Zc (Za k) Zi))) sl om=some (.ok (.nx,sl),om.set hl (.dt (WW kvs (pk x y) (.bl true)))):=by
 unfold YU;rw[Zm Zs,Zm (Yq hv hm (Pa ..)),Zm ((ZB (Ze (Zb hx) (Ze (Zb hy) Zk))).trans (Y0 (by simp)))];refine(Zm (a:=()) (om1:=om.set hl (.dt (WW kvs (pk x y) (.bl true)))) ?_).trans rfl;simp[PO,OP,hk,Vp,Xa,im,pk]
def D4(hh:h≠hl)(hm:om[h]?=some (Y9 c size hl))(hk:om[hl]?=some (.dt kvs)){a b:Int}(ha:0<=a∧a<size)(hb:0<=b∧b<size)(jb:a≠b)(im:kvs.length+1<lim):SA c [.o h,.int a,.int b] om=some (.ok .non,om.set hl (.dt (RC kvs a b))):=by
 have n1:Z4 (Zn c.Map "need_place" 2 (ZD c) (Za 0) (Zc (Za 1) Zi)) [some (.o h),some (.int a),some (.int b)] om=_:=Z9 ((Zy (Zb rfl) (Zz hm) (XG _ _ _ (by decide) (by decide)) (Ze (Zb rfl) Zk) rfl).trans (Ts c hm ha.1 ha.2));have n2:Z4 (Zn c.Map "need_place" 2 (ZD c) (Za 0) (Zc (Za 2) Zi)) [some (.o h),some (.int a),some (.int b)] om=_:=Z9 ((Zy (Zb rfl) (Zz hm) (XG _ _ _ (by decide) (by decide)) (Ze (Zb rfl) Zk) rfl).trans (Ts c hm hb.1 hb.2));have t:fB (f2 kEq (Za 1) (Za 2)) [some (.o h),some (.int a),some (.int b)] om=some (.ok false,om):=ZO ((v2 rfl rfl).trans ((Wi _ _ _).trans (by rw[aJ jb])));have iR:hl<om.length:=(aG.mp hk).1;have p1:=DY c (sl:=[some (.o h),some (.int a),some (.int b)]) (i:=0) (j:=1) (k:=2) hh rfl hm hk rfl rfl (by omega);have jH:(om.set hl (.dt (WW kvs (pk a b) (.bl true))))[h]?=some (Y9 c size hl):=by rw[bN (cF hh)];exact hm
 have jI:(om.set hl (.dt (WW kvs (pk a b) (.bl true))))[hl]?=some (.dt (WW kvs (pk a b) (.bl true))):=by rw[bV iR]
 have p2:=DY c (sl:=[some (.o h),some (.int a),some (.int b)]) (i:=0) (j:=2) (k:=1) hh rfl jH jI rfl rfl (by have:=Ol kvs (pk a b) (.bl true);omega);rw[eR]at p2;exact Wq ((Zh n1).trans ((Zh n2).trans ((Zh (ZP t)).trans ((Zh p1).trans p2))))
def HK(om:iM):XN c.Map 2 (Vx c) [.int size] om=some (.ok (.o om.length),om++[Y9 c size (om.length+1),.dt []]):=by
 simp[Vx,PP,XN,bnd,kN,chk,L2.ret,Yj,Zr,Xu,Za,Vl,NT,Wk,La,newO,WC,Ie]
def Qn(om:iM)(hm:Nat):XN c.Board 2 (Xk c) [.o hm] om=some (.ok (.o om.length),om++[Yr c hm (om.length+1),.dk []]):=by
 simp[Xk,SX,XN,bnd,kN,chk,L2.ret,Yj,Zr,Xu,Za,Vl,NT,Wk,La,newO,WC,Ie]
end
abbrev ZF(ia off size:Nat):Wv:=.tup [.int ia,.int off,.int size]
def dn(a b i j:Nat):Prop:=(j<i∧(i<a∨(i=a∧j<b)))∨(i<j∧(j<a∨(j=a∧i<b)))
structure Laid(rows:Mx)(off a b:Nat)(kvs:iK):Prop where
 has:∀x y:Int,Uo kvs x y=true ↔ ∃i j:Nat,x=off+i∧y=off+j∧X8 rows i j=true∧dn a b i j
 few:kvs.length<=20 * a+2 * b
def Laid.zero(rows:Mx)(off:Nat):Laid rows off 0 0 []:=by
 refine⟨λx y=>Iff.intro (λh=>(by cases h)) (λh=>?_),by simp⟩;obtain⟨i,j,_,_,_,h⟩:=h;unfold dn at h;omega
def Laid.on{rows:Mx}{off a b m:Nat}{kvs:iK}(L:Laid rows off a b kvs)(lk:Lk m rows)(h:X8 rows a b=true)(hb:b<a):Laid rows off a (b+1) (RC kvs ((off:Int)+a) ((off:Int)+b)):=by
 refine⟨λx y=>?_,by have:=JN kvs ((off:Int)+a) ((off:Int)+b);have:=L.few;omega⟩;rw[Gd,eN,eN,bX,bX,L.has];constructor
 ·rintro(⟨h1,h2⟩|⟨h1,h2⟩|⟨i,j,h1,h2,h3,h4⟩)
  ·exact⟨a,b,h1,h2,h,by unfold dn;omega⟩
  ·exact⟨b,a,h1,h2,(lk.sym b a).trans h,by unfold dn;omega⟩
  ·exact⟨i,j,h1,h2,h3,by unfold dn at *;omega⟩
 ·rintro⟨i,j,h1,h2,h3,h4⟩
  by_cases e1:i=a∧j=b
  ·exact .inl ⟨by rw[h1,e1.1],by rw[h2,e1.2]⟩
  ·by_cases e2:i=b∧j=a
   ·exact .inr (.inl ⟨by rw[h1,e2.1],by rw[h2,e2.2]⟩)
   ·exact .inr (.inr ⟨i,j,h1,h2,h3,by unfold dn at *;omega⟩)
def Laid.off'{rows:Mx}{off a b m:Nat}{kvs:iK}(L:Laid rows off a b kvs)(lk:Lk m rows)(h:X8 rows a b=false)(hb:b<a):Laid rows off a (b+1) kvs:=by
 refine⟨λx y=>?_,by have:=L.few;omega⟩;rw[L.has];constructor
 ·rintro⟨i,j,h1,h2,h3,h4⟩
  exact⟨i,j,h1,h2,h3,by unfold dn at *;omega⟩
 ·rintro⟨i,j,h1,h2,h3,h4⟩
  refine⟨i,j,h1,h2,h3,?_⟩;by_cases e1:i=a∧j=b
  ·rw[e1.1,e1.2,h]at h3;cases h3
  ·by_cases e2:i=b∧j=a
   ·rw[e2.1,e2.2,lk.sym,h]at h3;cases h3
   ·unfold dn at *;omega
def Laid.next{rows:Mx}{off a:Nat}{kvs:iK}(L:Laid rows off a a kvs)(ha:a<=7):Laid rows off (a+1) 0 kvs:=by
 refine⟨λx y=>?_,by have:=L.few;omega⟩;rw[L.has];constructor
 ·rintro⟨i,j,h1,h2,h3,h4⟩
  exact⟨i,j,h1,h2,h3,by unfold dn at *;omega⟩
 ·rintro⟨i,j,h1,h2,h3,h4⟩
  exact⟨i,j,h1,h2,h3,by unfold dn at *;omega⟩
def Lk.inr{m:Nat}{rows:Mx}(L:Lk m rows){i j:Nat}(h:X8 rows i j=true):i<m∧j<m∧i≠j:=by
 have hi:i<m:=by
  by_cases hi:i<m
  ·exact hi
  ·unfold X8 at h
   rw[aR (l:=rows),bR (by rw[L.len];omega)]at h;simp at h
 refine⟨hi,?_,λz=>by subst z;rw[L.dg]at h;cases h⟩;by_cases hj:j<m
 ·exact hj
 ·unfold X8 at h
  rw[aR,bR (by rw[L.row i hi];omega)]at h;cases h
def NU(rows:Mx)(off:Nat)(kvs:iK):Prop:=∀x y:Int,Uo kvs x y=true ↔ ∃i j:Nat,x=off+i∧y=off+j∧X8 rows i j=true
def Laid.done{rows:Mx}{off m:Nat}{kvs:iK}(L:Laid rows off m 0 kvs)(lk:Lk m rows):NU rows off kvs:=λx y=>by
 rw[L.has];constructor
 ·rintro⟨i,j,h1,h2,h3,_⟩;exact⟨i,j,h1,h2,h3⟩
 ·rintro⟨i,j,h1,h2,h3⟩
  have:=lk.inr h3;exact⟨i,j,h1,h2,h3,by unfold dn;omega⟩
section
variable(c:CA){om:iM}{ia off size:Nat}{rows:Mx}
abbrev P1(om:iM)(size:Nat)(kvs:iK):iM:=om++[Y9 c size (om.length+1),.dt kvs]
abbrev N0(n ia off size:Nat)(rows:Mx)(x3 x4:Option Wv):Sl:=[some (ZF ia off size),some (.lst (rows.map Yg)),some (.o n),x3,x4]
def Ee(kvs jm:iK):(P1 c om size kvs).set (om.length+1) (.dt jm)=P1 c om size jm:=by
 unfold P1;rw[cp _ _ (by omega),show om.length+1-om.length=1 by omega];rfl
def CZ(lk:Lk ia rows)(h1:off+ia<=size)(hm:ia<=7){a b:Nat}(ha:a<ia)(hb:b<a){kvs:iK}(L:Laid rows off a b kvs):∃jm,VU c (N0 om.length ia off size rows (some (.int a)) (some (.int b))) (P1 c om size kvs)=some (.ok (.nx,N0 om.length ia off size rows (some (.int a)) (some (.int b))),P1 c om size jm)∧Laid rows off a (b+1) jm:=by
 have iw:=ZS;have t:Xb (f2 kIx (f2 kIx (Za 1) (Za 3)) (Za 4)) (N0 om.length ia off size rows (some (.int a)) (some (.int b))) (P1 c om size kvs)=_:=Xy (Fn (p:=1) (q:=3) (r:=4) lk ha (by omega) rfl rfl rfl);cases hv:X8 rows a b with
 |false=>
  rw[hv]at t;exact⟨kvs,ZP t,L.off' lk hv hb⟩
 |true=>
  rw[hv]at t;refine⟨_,(YC t).trans (Z9 (w:=.non) ((Zy (Zb rfl) (Zz (fs:=[("size",.int (size:Int)),("links",.o (om.length+1))]) (by simp)) (XG _ _ _ (by decide) (by decide)) (Ze ((Zt ((Zt (Zb rfl) Zs).trans (ZW (k:=1) (v:=.int off) rfl rfl)) (Zb rfl)).trans rfl) (Ze ((Zt ((Zt (Zb rfl) Zs).trans (ZW (k:=1) (v:=.int off) rfl rfl)) (Zb rfl)).trans rfl) Zk)) rfl).trans ((D4 c (h:=om.length) (hl:=om.length+1) (size:=size) (kvs:=kvs) (by omega) (by simp) (by simp) ⟨by omega,by omega⟩ ⟨by omega,by omega⟩ (by omega) (by have:=L.few;omega)).trans ?_))),L.on lk hv hb⟩;rw[Ee]
def Ev(lk:Lk ia rows)(h1:off+ia<=size)(hm:ia<=7)(om:iM):∃kvs,WY c [ZF ia off size,.lst (rows.map Yg)] om=some (.ok (.o om.length),om++[Y9 c size (om.length+1),.dt kvs])∧NU rows off kvs∧kvs.length<=140:=by
 have iw:=ZS;have s1:ZC 2 (fA (XN c.Map 2 (Vx c)) (Zc (f2 kIx (Za 0) (fC (.int 2))) Zi)) [some (ZF ia off size),some (.lst (rows.map Yg)),none,none,none] om=some (.ok (.nx,N0 om.length ia off size rows none none),P1 c om size []):=Zv (i:=2) ((ZB (Ze ((Zt (Zb rfl) Zs).trans (ZW (k:=2) (v:=.int size) rfl rfl)) Zk)).trans (HK c om))
 obtain⟨iz,ig,hf,kvs,x3,x4,rfl,rfl,L⟩:=WP (T:=tgN 3) (S:=TR c) (n:=ia) (λa sl ig=>∃kvs x3 x4,sl=N0 om.length ia off size rows x3 x4∧ig=P1 c om size kvs∧Laid rows off a 0 kvs)
  (sl:=N0 om.length ia off size rows none none) (om:=P1 c om size []) (λa ha sl ig ⟨kvs,x3,x4,e1,e2,L⟩=>by
   subst e1 e2
   obtain⟨iy,om2,mZ,mq,y4,rfl,rfl,L2⟩:=WP (T:=tgN 4) (S:=VU c) (n:=a) (λb sl ig=>∃kvs y4,sl=N0 om.length ia off size rows (some (.int a)) y4∧ig=P1 c om size kvs∧Laid rows off a b kvs)
    (sl:=N0 om.length ia off size rows (some (.int a)) x4) (om:=P1 c om size kvs) (λb hb sl ig ⟨kvs,y4,e1,e2,L⟩=>by
     subst e1 e2;obtain⟨jm,e,L'⟩:=CZ c (om:=om) lk h1 hm ha hb L;exact⟨_,.nx,_,_,rfl,e,.inl rfl,jm,_,rfl,rfl,L'⟩) ⟨kvs,x4,rfl,rfl,L⟩
   exact⟨_,.nx,_,_,rfl,YI (sl1:=[]) (Ri (i:=3) (m:=a) rfl (by omega) _) mZ,.inl rfl,mq,_,_,rfl,rfl,L2.next (by omega)⟩) ⟨[],none,none,rfl,rfl,Laid.zero rows off⟩
 have e4:=YI (sl1:=[]) (fi:=λsl=>bnd ((f2 kIx (Za 0) (fC (.int 0))) sl) YL) (sl:=N0 om.length ia off size rows none none) ((Zm ((Zt (Zb rfl) Zs).trans (ZW (k:=0) (v:=.int ia) rfl rfl))).trans (Wa _ _ (by omega))) hf;exact⟨kvs,ZH ((Zh s1).trans ((Zh e4).trans (Zu (Zb rfl)))),L.done lk,by have:=L.few;omega⟩
end
def Xi(off:Nat)(f:hX)(n:Nat):hY:=(List.range n).filterMap λk=>(at' f k).map λs=>((off:Int)+k,s)
def Nm(off:Nat)(f:hX)(n:Nat):Xi off f (n+1)=Xi off f n++(match at' f n with|some s=>[((off:Int)+n,s)]|none=>[]):=by
 unfold Xi;rw[cY,f6]
 congr 1
 rw[cD,List.filterMap_nil];cases at' f n <;> rfl
def KN(off:Nat)(f:hX)(n:Nat):(Xi off f n).length<=n:=by
 unfold Xi;exact bF (List.length_filterMap_le _ _) (by simp)
def Na(off:Nat)(f:hX)(n:Nat)(x:Int):(Xi off f n).lookup x=if 0<=x-off∧x-off<n then at' f (x-off).toNat else none:=by
 induction n with
 |zero=>rw[aE (by omega)];rfl
 |succ n ih=>
  rw[Nm,List.lookup_append,ih];by_cases h:0<=x-off∧x-off<n
  ·rw[aC h,aC (by omega)]
   cases ha:at' f (x-off).toNat with
   |some s=>rfl
   |none=>
    cases hb:at' f n with
    |none=>rfl
    |some s=>
     have:(x == (off:Int)+n)=false:=aW.mpr (by omega);simp[aK,this]
  ·rw[aE h]
   by_cases h2:x=(off:Int)+n
   ·rw[aC (by omega),show(x-off).toNat=n by omega]
    cases hb:at' f n with
    |none=>rfl
    |some s=>simp[aK,h2]
   ·rw[aE (by omega)]
    cases hb:at' f n with
    |none=>rfl
    |some s=>
     have:(x == (off:Int)+n)=false:=aW.mpr h2;simp[aK,this]
section
variable(c:CA){om:iM}{hb hm hu hl:Nat}{size:Int}{us:hY}
def Lc{C:Addr}{n:Str}{fs:iJ}{w:Wv}{sl:Sl}{fe:FE}{h:Nat}(hv:fe sl om=some (.ok (.o h),om))(hm:om[h]?=some (.ins C fs))(hw:fs.lookup n=some w):f1 (ZI C n) fe sl om=some (.ok w,om):=by
 refine(Wl hv).trans ?_;simp[ZI,TX,hm,hw]
def KY(h1:om[hb]?=some (Yr c hm hu))(h2:om[hm]?=some (Y9 c size hl)){a:Int}(ha:0<=a∧a<size){sl:Sl}(s0:sl[0]?=some (some (.o hb)))(s1:sl[1]?=some (some (.int a))):Z4 (Zn c.Map "need_place" 2 (ZD c) (f1 (ZI c.Board "chart") (Za 0)) (Zc (Za 1) Zi)) sl om=some (.ok (.nx,sl),om):=
 Z9 ((Zy (Yq s0 h1 (VD ..)) (Zz h2) (XG _ _ _ (by decide) (by decide)) (Ze (Zb s1) Zk) rfl).trans (Ts c h2 ha.1 ha.2))
def Hj(h1:om[hb]?=some (Yr c hm hu))(h2:om[hm]?=some (Y9 c size hl))(h3:om[hu]?=some (.dk (Zx us))){a s:Int}(ha:0<=a∧a<size)(hs:0<=s∧s<=7)(hn:us.lookup a=none)(im:us.length<lim):W7 c [.o hb,.int a,.int s] om=some (.ok .non,om.set hu (.dk (Zx (us++[(a,s)])))):=by
 have n1:=KY c (sl:=[some (.o hb),some (.int a),some (.int s)]) h1 h2 ha rfl rfl
 have t1:fOr (fB (f2 kLt (Za 2) (fC (.int 0)))) (fB (f2 kGt (Za 2) (fC (.int 7)))) [some (.o hb),some (.int a),some (.int s)] om=some (.ok false,om):=by
  refine(Nr (ZO ((Zt (Zb rfl) Zs).trans (show kLt (.int s) (.int 0) om=some (.ok (.bl false),om) by simp[kI,L2.ret];omega)))).trans ?_;exact ZO ((Zt (Zb rfl) Zs).trans (by simp[kI,L2.ret];omega))
 have t2:fB (f2 (Ws false) (Za 1) (f1 (ZI c.Board "units") (Za 0))) [some (.o hb),some (.int a),some (.int s)] om=some (.ok false,om):=by
  refine ZO ((Zt (Zb rfl) (Yq rfl h1 (UI ..))).trans ?_);simp[Ws,Wr,h3,Xa,Tz,hn]
 have p:YU (Za 2) (f1 (ZI c.Board "units") (Za 0)) (Za 1) [some (.o hb),some (.int a),some (.int s)] om=some (.ok (.nx,[some (.o hb),some (.int a),some (.int s)]),om.set hu (.dk (Zx (us++[(a,s)])))):=by
  unfold YU;rw[Zm (Zb rfl),Zm (Yq rfl h1 (UI ..)),Zm (Zb rfl)];refine(Zm (a:=()) (om1:=om.set hu (.dk (Zx (us++[(a,s)])))) ?_).trans rfl;simp[PO,OP,h3,Xa,NG,im,IC s hn]
 exact Wq ((Zh n1).trans ((Zh (ZP t1)).trans ((Zh (ZP t2)).trans p)))
def Hd(h1:om[hb]?=some (Yr c hm hu))(h2:om[hm]?=some (Y9 c size hl))(h3:om[hu]?=some (.dk (Zx us))){a:Int}(ha:0<=a∧a<size):Zw c [.o hb,.int a] om=some (.ok (ZJ (us.lookup a)),om):=by
 have n1:=KY c (sl:=[some (.o hb),some (.int a)]) h1 h2 ha rfl rfl
 have p:Ly (f1 (ZI c.Board "units") (Za 0)) (Za 1) [some (.o hb),some (.int a)] om=some (.ok (ZJ (us.lookup a)),om):=by
  have e:=Yq (sl:=[some (.o hb),some (.int a)]) (i:=0) rfl h1 (UI hm hu);cases hq:us.lookup a with
  |none=>simp[Ly,bnd,e,OL,isD,h3,Za,IV,Wr,Xa,Tz,hq,L2.ret,ZJ]
  |some s=>simp[Ly,bnd,e,OL,isD,h3,Za,IV,Wr,Xa,Tz,hq,L2.ret,ZJ]
 exact ZH ((Zh n1).trans (Zu p))
abbrev Wj(om:iM)(size:Nat)(kvs:iK)(us:hY):iM:=om++[Y9 c size (om.length+1),.dt kvs,Yr c om.length (om.length+3),.dk (Zx us)]
def EH{ia off size:Nat}{rows:Mx}{f:hX}(lk:Lk ia rows)(hf:f.length=ia)(h1:off+ia<=size)(hm:ia<=7)(hs:∀k s,at' f k=some s->0<=s∧s<=7)(om:iM){sw:Wv}(hw:∀ig,(∀j,j<om.length->ig[j]?=om[j]?)->Xe ig sw=some (f.map ZJ):=by intro _ _;rfl):∃kvs,W6 c [ZF ia off size,.lst (rows.map Yg),sw] om=some (.ok (.o (om.length+2)),Wj c om size kvs (Xi off f ia))∧NU rows off kvs∧kvs.length<=140:=by
 have iw:=ZS;obtain⟨kvs,ec,mo,hk⟩:=Ev c lk h1 hm om;refine⟨kvs,?_,mo,hk⟩
 have s1:ZC 3 (fA (XN c.Board 2 (Xk c)) (Zc (fA (kN 2 (WY c)) (Zc (Za 0) (Zc (Za 1) Zi))) Zi)) [some (ZF ia off size),some (.lst (rows.map Yg)),some sw,none,none] om=some (.ok (.nx,[some (ZF ia off size),some (.lst (rows.map Yg)),some sw,some (.o (om.length+2)),none]),Wj c om size kvs (Xi off f 0)):=by
  refine Zv (i:=3) (w:=.o (om.length+2)) ((ZB (Ze ((ZB (Ze (Zb rfl) (Ze (Zb rfl) Zk))).trans ((YD rfl).trans ec)) Zk)).trans ((Qn c _ _).trans ?_));rw[aS,bP];rfl
 obtain⟨iz,ig,mr,x,rfl,rfl⟩:=WP (T:=tgN 4) (S:=T9 c) (n:=ia) (λk sl ig=>∃x,sl=[some (ZF ia off size),some (.lst (rows.map Yg)),some sw,some (.o (om.length+2)),x]∧ig=Wj c om size kvs (Xi off f k))
  (sl:=[some (ZF ia off size),some (.lst (rows.map Yg)),some sw,some (.o (om.length+2)),none]) (om:=Wj c om size kvs (Xi off f 0)) (λk hk sl ig ⟨x,e1,e2⟩=>by
   subst e1 e2;have jI:k<f.length:=by omega
   have sk:f2 kIx (Za 2) (Za 4) [some (ZF ia off size),some (.lst (rows.map Yg)),some sw,some (.o (om.length+2)),some (.int k)] (Wj c om size kvs (Xi off f k))=_:=(v2 rfl rfl).trans (SR (k:=k) (hw _ λj hj=>by unfold Wj;rw[bA hj]) jI none);have t:fB (f1 UZ (f2 kIx (Za 2) (Za 4))) [some (ZF ia off size),some (.lst (rows.map Yg)),some sw,some (.o (om.length+2)),some (.int k)] (Wj c om size kvs (Xi off f k))=some (.ok (at' f k).isSome,Wj c om size kvs (Xi off f k)):=ZO ((Wl sk).trans (Nz _ _));refine⟨[some (ZF ia off size),some (.lst (rows.map Yg)),some sw,some (.o (om.length+2)),some (.int k)],.nx,_,Wj c om size kvs (Xi off f (k+1)),rfl,?_,.inl rfl,some (.int k),rfl,rfl⟩;rw[Nm];cases hq:at' f k with
   |none=>
    rw[hq]at t;rw[ce];exact ZP t
   |some s=>
    rw[hq]at t;rw[show f.getD k none=some s from hq]at sk;refine(YC t).trans (Z9 (w:=.non) ((Zy (Zb rfl) (Zz (fs:=[("chart",.o om.length),("units",.o (om.length+3))]) (by simp)) (Yh _ _ _ (by decide) (by decide)) (Ze ((Zt ((Zt (Zb rfl) Zs).trans (ZW (k:=1) (v:=.int off) rfl rfl)) (Zb rfl)).trans rfl) (Ze sk Zk)) rfl).trans ((Hj c (hb:=om.length+2) (hm:=om.length) (hu:=om.length+3) (hl:=om.length+1) (size:=size) (us:=Xi off f k) (by simp) (by simp) (by simp) ⟨by omega,by omega⟩ (hs k s hq) (by rw[Na,aE (by omega)]) (by have:=KN off f k;omega)).trans ?_)));unfold Wj;rw[cp _ _ (by omega),show om.length+3-om.length=3 by omega];rfl) ⟨none,rfl,rfl⟩
 have e4:=YI (sl1:=[]) (fi:=λsl=>bnd ((f2 kIx (Za 0) (fC (.int 0))) sl) YL) (sl:=[some (ZF ia off size),some (.lst (rows.map Yg)),some sw,some (.o (om.length+2)),none]) ((Zm ((Zt (Zb rfl) Zs).trans (ZW (k:=0) (v:=.int ia) rfl rfl))).trans (Wa _ _ (by omega))) mr;exact ZH ((Zh s1).trans ((Zh e4).trans (Zu (Zb rfl))))
end
def R6(off:Nat)(f:hX)(n:Nat):(Xi off f n).Pairwise (λx y=>x.1<y.1):=by
 unfold Xi;refine List.Pairwise.filterMap (R:=(· < ·)) _ (λa b jw x hx y hy=>?_) fP;obtain⟨s,_,rfl⟩:=cQ.mp hx;obtain⟨t,_,rfl⟩:=cQ.mp hy;show(off:Int)+a<off+b;omega
def M5{us:hY}(nd:(us.map (·.1)).Nodup):(Yl us).Pairwise (λx y=>x.1<y.1):=by
 have hp:=ZV us;have hn:((Yl us).map (·.1)).Nodup:=(hp.map _).nodup_iff.mpr nd;refine((Uw us).and (cg.mp hn)).imp λ{x y} h=>?_
 have a:¬ _:=λw'=>absurd (VT.mpr w') (by rw[h.1];exact aH)
 have b:=h.2;omega
def JG{us vs:hY}(nd:(us.map (·.1)).Nodup)(hv:vs.Pairwise (λx y=>x.1<y.1))(h:∀p,p∈us ↔ p∈vs):Yl us=vs:=
 Ql (M5 nd) hv λp=>by rw[(ZV us).mem_iff,h]
def MI{us:hY}(h:us.Pairwise (λx y=>x.1<y.1)):(us.map (·.1)).Nodup:=by
 refine cg.mpr (h.imp λ{x y} lP z=>?_);have lP:x.1<y.1:=lP;have z:x.1=y.1:=z;omega
def Ig{us:hY}(h:us.Pairwise (λx y=>x.1<y.1)):Yl us=us:=JG (MI h) h λ_=>Iff.rfl
section
variable(c:CA){om:iM}{hb hm hu hl:Nat}{size:Int}{us:hY}{kvs:iK}
def Lh(h1:om[hb]?=some (Yr c hm hu))(h3:om[hu]?=some (.dk (Zx us)))(hn:us.length<64):ZM c [.o hb] om=some (.ok (.lst ((Yl us).map prW)),om):=by
 have h2:(Yl us).length=us.length:=(ZV us).length_eq;have iw:=ZS;refine ZH (Zu ?_);unfold SI;refine(Zm (Yq (sl:=[some (.o hb)]) (i:=0) rfl h1 (UI ..))).trans ?_;refine(Zm (a:=(Yl us).map prW) (om1:=om) ?_).trans ?_
 ·simp[QT,h3,Oy,hn]
 ·unfold ZQ
  rw[aC (by rw[aA];omega)];rfl
def Oh(h2:om[hm]?=some (Y9 c size hl)){a:Int}(ha:0<=a∧a<size){sl:Sl}{i j:Nat}(s0:sl[i]?=some (some (.o hm)))(s1:sl[j]?=some (some (.int a))):Z4 (Zn c.Map "need_place" 2 (ZD c) (Za i) (Zc (Za j) Zi)) sl om=some (.ok (.nx,sl),om):=
 Z9 ((Zy (Zb s0) (Zz h2) (XG _ _ _ (by decide) (by decide)) (Ze (Zb s1) Zk) rfl).trans (Ts c h2 ha.1 ha.2))
def Az{sl:Sl}{i j k:Nat}{x y:Int}(h2:om[hm]?=some (Y9 c size hl))(h3:om[hl]?=some (.dt kvs))(hi:sl[i]?=some (some (.int x)))(hj:sl[j]?=some (some (.int y)))(hk:sl[k]?=some (some (.o hm))):f2 (Ws false) (fA YW (Zc (Za i) (Zc (Za j) Zi))) (f1 (ZI c.Map "links") (Za k)) sl om=some (.ok (.bl (Uo kvs x y)),om):=by
 refine(Zt ((ZB (Ze (Zb hi) (Ze (Zb hj) Zk))).trans (Y0 (by simp))) (Yq hk h2 (Pa ..))).trans ?_;simp[Ws,Wr,h3,Vp,Xa,Uo,pk]
def HN(h2:om[hm]?=some (Y9 c size hl))(h3:om[hl]?=some (.dt kvs)){a b:Int}(ha:0<=a∧a<size)(hb:0<=b∧b<size):UR c [.o hm,.int a,.int b] om=some (.ok (.bl (Uo kvs a b)),om):=by
 have n1:=Oh c (sl:=[some (.o hm),some (.int a),some (.int b)]) (i:=0) (j:=1) h2 ha rfl rfl;have n2:=Oh c (sl:=[some (.o hm),some (.int a),some (.int b)]) (i:=0) (j:=2) h2 hb rfl rfl;exact ZH ((Zh n1).trans ((Zh n2).trans (Zu (Az c (i:=1) (j:=2) (k:=0) h2 h3 rfl rfl rfl))))
def CL{n:Nat}(h2:om[hm]?=some (Y9 c (n:Nat) hl))(h3:om[hl]?=some (.dt kvs))(hn:n<=60){a:Int}(ha:0<=a∧a<n):Vh c [.o hm,.int a] om=some (.ok (.lst (((List.range n).filter λb=>Uo kvs a (b:Nat)).map λ(b:Nat)=>Wv.int b)),om):=by
 have iw:=ZS;have n1:=Oh c (sl:=[some (.o hm),some (.int a)]) (i:=0) (j:=1) h2 ha rfl rfl;refine ZH ((Zh n1).trans (Zu ((Xv (ws:=W0 n) (om1:=om) ((Zm (Yq rfl h2 (O6 ..))).trans (Wa _ _ (by omega))) (by rw[WN];omega) (Us (λb=>Uo kvs a (b:Nat)) (λ(b:Nat)=>Wv.int b) (λb hb=>ZO (Az c (i:=2) (j:=0) (k:=1) h2 h3 rfl rfl rfl)) (λb hb _=>Zb rfl))).trans ?_)));unfold ZQ;rw[aC (by rw[aA];exact bF (aF _ _) (by simp;omega))];rfl
end
end MP
namespace MP
noncomputable section
open PySem L2
def TU(c:CA):FS:=
 (Zr (Xu c.Orders "board" (Za 1) (Za 0))
  (Xu c.Orders "given" (λ_=>newO (.dk [])) (Za 0)))
def XZ(c:CA):iI->Mw Wv:=Yj 2 (TU c)
def Q3(c:CA):FS:=
 (Zr (Z4 (Zn c.Board "need_unit" 2 (YA c) (f1 (ZI c.Orders "board") (Za 0)) (Zc (Za 1) Zi)))
  (YU (fC (.g c.STAND)) (f1 (ZI c.Orders "given") (Za 0)) (Za 1)))
def Ve(c:CA):iI->Mw Wv:=Yj 2 (Q3 c)
def X4(c:CA):FS:=
 (Z4 (Zn c.Map "need_place" 2 (ZD c) (f1 (ZI c.Board "chart") (f1 (ZI c.Orders "board") (Za 0))) (Zc (Za 3) Zi)))
def X9(c:CA):FS:=
 (Z4 (Zn c.Board "need_unit" 2 (YA c) (f1 (ZI c.Orders "board") (Za 0)) (Zc (Za 3) Zi)))
def SJ(c:CA):FS:=
 (Zr (XH (λsl=>bnd ((Za 1) sl) ZE) (tgN 3) (X4 c))
  (XH (λsl=>bnd ((Za 2) sl) ZE) (tgN 3) (X9 c)))
def YO(c:CA):iI->Mw Wv:=Yj 4 (SJ c)
def Tc(c:CA):FS:=
 (sIf (SM (Xb (Zn c.Map "beside" 3 (UR c) (f1 (ZI c.Board "chart") (f1 (ZI c.Orders "board") (Za 0))) (Zc (Za 1) (Zc (Za 2) Zi))))) (V5 c.OutOfReach (OZ (Za 2) (OZ (Za 1) N5))) Yy)
def Z7(c:CA):iI->Mw Wv:=Yj 3 (Tc c)
def OG(c:CA):FS:=
 (Zr (Z4 (Zn c.Orders "need_all" 3 (YO c) (Za 0) (Zc (fA ZQ (Zc (Za 1) (Zc (Za 2) Zi))) (Zc (fA ZQ (Zc (Za 1) Zi)) Zi))))
  (Zr (Z4 (Zn c.Orders "need_beside" 3 (Z7 c) (Za 0) (Zc (Za 1) (Zc (Za 2) Zi))))
  (YU (fA YW (Zc (fC (.str "move")) (Zc (Za 2) Zi))) (f1 (ZI c.Orders "given") (Za 0)) (Za 1))))
def V7(c:CA):iI->Mw Wv:=Yj 3 (OG c)
def N3(c:CA):FS:=
 (Zr (Z4 (Zn c.Orders "need_all" 3 (YO c) (Za 0) (Zc (fA ZQ (Zc (Za 1) (Zc (Za 2) (Zc (Za 3) Zi)))) (Zc (fA ZQ (Zc (Za 1) (Zc (Za 2) Zi))) Zi))))
  (Zr (sIf (fB (f2 kEq (Za 2) (Za 1))) (V5 c.OutOfReach (OZ (Za 1) N5)) Yy)
  (Zr (Z4 (Zn c.Orders "need_beside" 3 (Z7 c) (Za 0) (Zc (Za 1) (Zc (Za 3) Zi))))
  (Zr (sIf (fB (f2 kNe (Za 3) (Za 2))) (Z4 (Zn c.Orders "need_beside" 3 (Z7 c) (Za 0) (Zc (Za 2) (Zc (Za 3) Zi)))) Yy)
  (YU (fA YW (Zc (fC (.str "help")) (Zc (Za 2) (Zc (Za 3) Zi)))) (f1 (ZI c.Orders "given") (Za 0)) (Za 1))))))
def UG(c:CA):iI->Mw Wv:=Yj 4 (N3 c)
def OM(c:CA):FS:=
 (Zr (Z4 (Zn c.Board "need_unit" 2 (YA c) (f1 (ZI c.Orders "board") (Za 0)) (Zc (Za 1) Zi)))
  (Yc (Ot (f1 (ZI c.Orders "given") (Za 0)) (Za 1) (fC (.g c.STAND)))))
def YK(c:CA):iI->Mw Wv:=Yj 2 (OM c)
def RD(c:CA):FS:=
 (Zr (ZC 2 (Ot (f1 (ZI c.Orders "given") (Za 0)) (Za 1) (fC (.g c.STAND))))
  (Zr (sIf (fB (f2 kEq (f2 (V4 c.STAND) (Za 2) (fC (.int 0))) (fC (.str "move")))) (Yc (f2 (V4 c.STAND) (Za 2) (fC (.int 1)))) Yy)
  (Yc (fC .non))))
def Zo(c:CA):iI->Mw Wv:=Yj 3 (RD c)
def RE(c:CA):FT:=
 (fB (f1 UZ (Zn c.Orders "goal_of" 2 (Zo c) (Za 1) (Zc (Za 0) Zi))))
def RS(c:CA):FE:=
 (Za 0)
def QC(c:CA):FS:=
 (Yc (fA (YT ZQ) (Zc (Vo ZQ [0] (f1 (ZI c.Orders "given") (Za 0)) (RE c) (RS c)) Zi)))
def ZZ(c:CA):iI->Mw Wv:=Yj 1 (QC c)
def SL(c:CA):FT:=
 (fB (f1 UZ (Zn c.Orders "goal_of" 2 (Zo c) (Za 1) (Zc (Za 0) Zi))))
def SN(c:CA):FE:=
 (Za 0)
def RM(c:CA):FS:=
 (Yc (fA (YT Xm) (Zc (Vo ZQ [0] (f1 (ZI c.Orders "given") (Za 0)) (SL c) (SN c)) Zi)))
def RH(c:CA):iI->Mw Wv:=Yj 1 (RM c)
def UT(c:CA):FE:=
 (fA (kN 4 (Y3 c)) (Zc (fA (kN 2 (Zp c)) (Zc (Za 1) (Zc (f2 WJ (fC (.int 10)) (Za 0)) Zi))) (Zc (Za 0) (Zc (Za 2) (Zc (Za 3) Zi)))))
def Ps(c:CA):FS:=
 (Yc (Z8 Xm [0,1,2] (λsl=>bnd ((fA XW (Zc (Za 2) Zi)) sl) YL) Xg (UT c)))
def Wf(c:CA):iI->Mw Wv:=Yj 3 (Ps c)
def Jf(c:CA):FS:=
 (Zr (ZC 4 (f2 kIx (Za 2) (Za 3)))
  (Zr (sIf (fB (f1 VE (Za 4))) Al Yy)
  (sIf (fB (f2 kEq (f2 kIx (Za 4) (fC (.int 0))) (fC (.str "stand")))) (Z4 (Zn c.Orders "stand" 2 (Ve c) (Za 0) (Zc (f2 WJ (Za 1) (Za 3)) Zi))) (sIf (fB (f2 kEq (f2 kIx (Za 4) (fC (.int 0))) (fC (.str "move")))) (Z4 (Zn c.Orders "move" 3 (V7 c) (Za 0) (Zc (f2 WJ (Za 1) (Za 3)) (Zc (f2 WJ (Za 1) (f2 kIx (Za 4) (fC (.int 1)))) Zi)))) (Z4 (Zn c.Orders "aid" 4 (UG c) (Za 0) (Zc (f2 WJ (Za 1) (Za 3)) (Zc (f2 WJ (Za 1) (f2 kIx (Za 4) (fC (.int 1)))) (Zc (f2 WJ (Za 1) (f2 kIx (Za 4) (fC (.int 2)))) Zi)))))))))
def VI(c:CA):iI->Mw Wv:=Yj 5 (Jf c)
def T8(c:CA):FS:=
 (Z4 (fA (kN 4 (VI c)) (Zc (Za 4) (Zc (f2 kIx (Za 0) (fC (.int 1))) (Zc (Za 3) (Zc (Za 5) Zi))))))
def M8(c:CA):FS:=
 (Zr (ZC 4 (fA (XN c.Orders 2 (XZ c)) (Zc (fA (kN 3 (W6 c)) (Zc (Za 0) (Zc (Za 1) (Zc (Za 2) Zi)))) Zi)))
  (Zr (XH (λsl=>bnd ((f2 kIx (Za 0) (fC (.int 0))) sl) YL) (tgN 5) (T8 c))
  (Yc (Za 4))))
def XJ(c:CA):iI->Mw Wv:=Yj 6 (M8 c)
end
open PySem L2
abbrev YV(c:CA)(hb hg:Nat):Ob:=.ins c.Orders [("board",.o hb),("given",.o hg)]
def CG(hb hg:Nat):List.lookup (Str.ofString "board") [(Str.ofString "board",Wv.o hb),(Str.ofString "given",Wv.o hg)]=some (.o hb):=by simp[aK,YQ]
def QN(hb hg:Nat):List.lookup (Str.ofString "given") [(Str.ofString "board",Wv.o hb),(Str.ofString "given",Wv.o hg)]=some (.o hg):=by simp[aK,YQ]
def Ye(m:String)(hb hg:Nat)(h1:m≠"board")(h2:m≠"given"):List.lookup (Str.ofString m) [(Str.ofString "board",Wv.o hb),(Str.ofString "given",Wv.o hg)]=none:=by simp[aK,YQ,h1,h2]
def odG(c:CA)(off:Nat):Od->Wv
 |.stand=>.g c.STAND
 |.move g=>.tup [.str "move",.int ((off:Int)+g)]
 |.help h g=>.tup [.str "help",.int ((off:Int)+h),.int ((off:Int)+g)]
abbrev Gs:=List (Nat × Od)
def Y7(c:CA)(off:Nat)(gs:Gs):iL:=gs.map λp=>(.inl ((off:Int)+p.1),odG c off p.2)
def Rt(gs:Gs)(k:Nat)(o:Od):Gs:=if (gs.any λp=>decide (p.1=k))=true then gs.map (λp=>if p.1=k then (p.1,o) else p) else gs++[(k,o)]
def B0{off a k:Nat}(h:a≠k):(Sum.inl ((off:Int)+a):Key)≠Sum.inl ((off:Int)+k):=λz=>h (by have:=f8 z;omega)
def ML(off a k:Nat):decide ((Sum.inl ((off:Int)+a):Key)=Sum.inl ((off:Int)+k))=decide (a=k):=by
 by_cases h:a=k
 ·subst h;simp
 ·rw[aJ h,aJ (B0 h)]
def Tv(c:CA)(off:Nat)(gs:Gs)(k:Nat):Ut (Y7 c off gs) (.inl ((off:Int)+k))=(gs.lookup k).map (odG c off):=by
 induction gs with
 |nil=>rfl
 |cons p gs ih=>
  obtain⟨j,o⟩:=p;unfold Ut Y7 at ih ⊢;rw[aU,cB,aK];dsimp only;rw[ML];by_cases h:j=k
  ·subst h;simp
  ·rw[aJ h,aW.mpr (cF h)]
   exact ih
def BO(c:CA)(off:Nat)(gs:Gs)(k:Nat)(o:Od):WW (Y7 c off gs) (.inl ((off:Int)+k)) (odG c off o)=Y7 c off (Rt gs k o):=by
 unfold WW Rt Y7
 have e:((gs.map λp=>((Sum.inl ((off:Int)+p.1):Key),odG c off p.2)).any λkv=>decide (kv.1=Sum.inl ((off:Int)+k)))=gs.any λp=>decide (p.1=k):=by
  rw[List.any_map];refine cx (List.any gs) (funext λp=>?_);exact ML off p.1 k
 rw[e];by_cases h:(gs.any λp=>decide (p.1=k))=true
 ·rw[aC h,aC h,aY,aY]
  refine cC λp _=>?_
  show(if (Sum.inl ((off:Int)+p.1):Key)=Sum.inl ((off:Int)+k) then (Sum.inl ((off:Int)+p.1),odG c off o) else (Sum.inl ((off:Int)+p.1),odG c off p.2))=((Sum.inl ((off:Int)+(if p.1=k then (p.1,o) else p).1):Key),odG c off (if p.1=k then (p.1,o) else p).2);by_cases hp:p.1=k
  ·rw[aC (by rw[hp]),aC hp]
  ·rw[aE (B0 hp),aE hp]
 ·rw[aE h,aE h,bK]
  rfl
def KM(gs:Gs)(k:Nat):(gs.any λp=>decide (p.1=k))=(gs.lookup k).isSome:=by
 induction gs with
 |nil=>rfl
 |cons p gs ih=>
  obtain⟨j,o⟩:=p;rw[dc,aK];dsimp only;by_cases h:j=k
  ·subst h;simp
  ·rw[aJ h,aW.mpr (cF h),fj]
   exact ih
def HJ(gs:Gs)(k j:Nat)(o:Od):(gs.map λp=>if p.1=k then (p.1,o) else p).lookup j=if j=k then (gs.lookup j).map (λ_=>o) else gs.lookup j:=by
 induction gs with
 |nil=>simp
 |cons p gs ih=>
  obtain⟨i,q⟩:=p;rw[aU];dsimp only;by_cases h:i=k
  ·rw[aC h,aK,aK]
   by_cases hj:j=i
   ·subst hj;subst h;simp
   ·rw[aW.mpr hj]
    exact ih
  ·rw[aE h,aK,aK]
   by_cases hj:j=i
   ·subst hj;simp[h]
   ·rw[aW.mpr hj]
    exact ih
def Nk(gs:Gs)(k j:Nat)(o:Od):(Rt gs k o).lookup j=if j=k then some o else gs.lookup j:=by
 unfold Rt;by_cases h:(gs.any λp=>decide (p.1=k))=true
 ·rw[aC h,HJ]
  by_cases hj:j=k
  ·subst hj
   rw[aC rfl,aC rfl];rw[KM]at h;obtain⟨x,hx⟩:=aV.mp h;rw[hx];rfl
  ·rw[aE hj,aE hj]
 ·rw[aE h,List.lookup_append]
  rw[KM]at h;by_cases hj:j=k
  ·subst hj
   rw[aC rfl,Option.not_isSome_iff_eq_none.mp h];simp
  ·rw[aE hj,aK,aW.mpr hj]
   simp
def Jv{gs:Gs}(h:(gs.map (·.1)).Nodup)(k:Nat)(o:Od):((Rt gs k o).map (·.1)).Nodup:=by
 unfold Rt;by_cases ha:(gs.any λp=>decide (p.1=k))=true
 ·rw[aC ha,aY]
  have e:(gs.map ((·.1) ∘ λp=>if p.1=k then (p.1,o) else p))=gs.map (·.1):=cC λp _=>by
   show(if p.1=k then (p.1,o) else p).1=p.1;by_cases hp:p.1=k
   ·rw[aC hp]
   ·rw[aE hp]
  rw[e];exact h
 ·rw[aE ha,bK,cj]
  refine⟨h,by simp,λa nT b hb z=>ha ?_⟩;have hb:b=k:=by simpa using hb
  obtain⟨p,hp,rfl⟩:=aO.mp nT;exact dS.mpr ⟨p,hp,bJ (z.trans hb)⟩
structure Tell(gs:Gs)(T:Nat->Option Od):Prop where
 nd:(gs.map (·.1)).Nodup
 get:∀k o,T k=some o->(gs.lookup k).getD .stand=o
 key:∀k o,gs.lookup k=some o->T k=some o
def Tell.put{gs:Gs}{T:Nat->Option Od}(h:Tell gs T)(k:Nat)(o:Od):Tell (Rt gs k o) (λj=>if j=k then some o else T j):=by
 refine⟨Jv h.nd k o,λj q e=>?_,λj q e=>?_⟩
 ·rw[Nk]
  by_cases hj:j=k
  ·rw[aC hj]at e ⊢;cases e;rfl
  ·rw[aE hj]at e ⊢;exact h.get j q e
 ·rw[Nk]at e
  by_cases hj:j=k
  ·rw[aC hj]at e;cases e;show(if j=k then some o else T j)=some o;rw[aC hj]
  ·rw[aE hj]at e;show(if j=k then some o else T j)=some q;rw[aE hj];exact h.key j q e
def Tell.start0{T:Nat->Option Od}(h:∀k o,T k=some o->o=.stand):Tell [] T:=⟨by simp,λk o e=>(h k o e).symm,λk o e=>by cases e⟩
def Qp{k:Nat}{o:Od}:∀{gs:Gs},gs.lookup k=some o->(k,o)∈gs
 |[],e=>by cases e
 |(j,q)::gs,e=>by
  rw[aK]at e;cases hb:(k == j) with
  |true=>rw[hb]at e;cases e;rw[eq_of_beq hb];exact .head _
  |false=>rw[hb]at e;exact .tail _ (Qp e)
def VJ{k:Nat}{o:Od}:∀{gs:Gs},(gs.map (·.1)).Nodup->(k,o)∈gs->gs.lookup k=some o
 |[],_,e=>nomatch e
 |(j,q)::gs,nd,e=>by
  rw[aK];rw[aU,cH]at nd;rcases aT.mp e with e|e
  ·cases e;simp
  ·have jb:k≠j:=λz=>nd.1 (aO.mpr ⟨(k,o),e,z⟩)
   rw[aW.mpr jb];exact VJ nd.2 e
def Va{k s:Int}:∀{us:hY},us.lookup k=some s->(k,s)∈us
 |[],e=>by cases e
 |(j,q)::us,e=>by
  rw[aK]at e;cases hb:(k == j) with
  |true=>rw[hb]at e;cases e;rw[eq_of_beq hb];exact .head _
  |false=>rw[hb]at e;exact .tail _ (Va e)
def XM{k s:Int}:∀{us:hY},(us.map (·.1)).Nodup->(k,s)∈us->us.lookup k=some s
 |[],_,e=>nomatch e
 |(j,q)::us,nd,e=>by
  rw[aK];rw[aU,cH]at nd;rcases aT.mp e with e|e
  ·cases e;simp
  ·have jb:k≠j:=λz=>nd.1 (aO.mpr ⟨(k,s),e,z⟩)
   rw[aW.mpr jb];exact XM nd.2 e
def JS{us vs:hY}(p:us.Perm vs)(nd:(vs.map (·.1)).Nodup)(k:Int):us.lookup k=vs.lookup k:=by
 have nd2:(us.map (·.1)).Nodup:=(p.map (·.1)).nodup_iff.mpr nd;cases h:vs.lookup k with
 |some s=>exact XM nd2 (p.mem_iff.mpr (Va h))
 |none=>
  cases h2:us.lookup k with
  |none=>rfl
  |some s=>have:=XM nd (p.mem_iff.mp (Va h2));rw[h]at this;cases this
def Fb(off:Nat)(f:hX)(n:Nat):((Xi off f n).map (·.1)).Nodup:=cg.mpr ((R6 off f n).imp λh=>Int.ne_of_lt h)
structure Wd(c:CA)(om:iM)(hb hm hu hl size off:Nat)(f:hX)(kvs:iK):Prop where
 b:om[hb]?=some (Yr c hm hu)
 m:om[hm]?=some (Y9 c size hl)
 u:∃us:hY,om[hu]?=some (.dk (Zx us))∧us.Perm (Xi off f f.length)
 l:om[hl]?=some (.dt kvs)
 fit:off+f.length<=size
 few:size<=60
def S5{α:Type}{l:List (Option α)}{k:Nat}{x:α}(h:at' l k=some x):k<l.length:=by
 by_cases hk:k<l.length
 ·exact hk
 ·rw[UA hk]at h;cases h
section
variable{c:CA}{om:iM}{ho hb hm hu hl hg size off:Nat}{f:hX}{kvs:iK}{gs:Gs}
def Wd.set(W:Wd c om hb hm hu hl size off f kvs){kv:iL}{x:Ob}(h:om[hg]?=some (.dk kv))(hn:hg≠hu):Wd c (om.set hg x) hb hm hu hl size off f kvs:=by
 have nb:hg≠hb:=λz=>by subst z;rw[W.b]at h;cases h
 have nm:hg≠hm:=λz=>by subst z;rw[W.m]at h;cases h
 have nl:hg≠hl:=λz=>by subst z;rw[W.l]at h;cases h
 exact⟨by rw[bN nb];exact W.b,by rw[bN nm];exact W.m,(let ⟨us,e,p⟩:=W.u;⟨us,by rw[bN hn];exact e,p⟩),by rw[bN nl];exact W.l,W.fit,W.few⟩
def Wd.grow(W:Wd c om hb hm hu hl size off f kvs)(l:iM):Wd c (om++l) hb hm hu hl size off f kvs:=by
 have g:∀{h:Nat} {x:Ob},om[h]?=some x->(om++l)[h]?=some x:=λe=>by rw[bA (aG.mp e).1];exact e
 exact⟨g W.b,g W.m,(let ⟨us,e,p⟩:=W.u;⟨us,g e,p⟩),g W.l,W.fit,W.few⟩
def Wd.look(W:Wd c om hb hm hu hl size off f kvs)(k:Nat):(Xi off f f.length).lookup ((off:Int)+k)=at' f k:=by
 rw[Na];by_cases h:k<f.length
 ·rw[aC (by omega),show((off:Int)+k-off).toNat=k by omega]
 ·rw[aE (by omega),UA h]
def Wd.inn(W:Wd c om hb hm hu hl size off f kvs){k:Nat}(h:k<f.length):0<=(off:Int)+k∧(off:Int)+k<(size:Nat):=by
 have:=W.fit;omega
def Ox(W:Wd c om hb hm hu hl size off f kvs){k:Nat}(h:k<f.length):Zw c [.o hb,.int ((off:Int)+k)] om=some (.ok (ZJ (at' f k)),om):=by
 obtain⟨us,e,p⟩:=W.u;rw[Hd c W.b W.m e (W.inn h),JS p (Fb off f f.length),W.look]
def Jt(W:Wd c om hb hm hu hl size off f kvs){k:Nat}{s:Int}(h:at' f k=some s):YA c [.o hb,.int ((off:Int)+k)] om=some (.ok .non,om):=by
 have e:fB (f1 VE (Zn c.Board "side_at" 2 (Zw c) (Za 0) (Zc (Za 1) Zi))) [some (.o hb),some (.int ((off:Int)+k))] om=some (.ok false,om):=by
  refine ZO ((Wl ((Zy (Zb rfl) (Zz W.b) (Yh _ _ _ (by decide) (by decide)) (Ze (Zb rfl) Zk) rfl).trans (Ox W (S5 h)))).trans ((Ti _ _).trans ?_));rw[h];rfl
 exact Wq (ZP e)
structure Os(c:CA)(om:iM)(ho hb hg off:Nat)(gs:Gs):Prop where
 o:om[ho]?=some (YV c hb hg)
 g:om[hg]?=some (.dk (Y7 c off gs))
def Jb(c:CA)(off:Nat)(gs:Gs):(Y7 c off gs).length=gs.length:=by simp[Y7]
def Os.grow(S:Os c om ho hb hg off gs)(l:iM):Os c (om++l) ho hb hg off gs:=by
 have g:∀{h:Nat} {x:Ob},om[h]?=some x->(om++l)[h]?=some x:=λe=>by rw[bA (aG.mp e).1];exact e
 exact⟨g S.o,g S.g⟩
def Ej(S:Os c om ho hb hg off gs){k:Nat}{o:Od}{sl:Sl}{fv:FE}{i j:Nat}(hv:fv sl om=some (.ok (odG c off o),om))(hi:sl[i]?=some (some (.o ho)))(hj:sl[j]?=some (some (.int ((off:Int)+k))))(hl:gs.length<100):YU fv (f1 (ZI c.Orders "given") (Za i)) (Za j) sl om=some (.ok (.nx,sl),om.set hg (.dk (Y7 c off (Rt gs k o)))):=by
 have iw:=ZS;unfold YU;rw[Zm hv,Zm (Yq hi S.o (QN ..)),Zm (Zb hj)];refine(Zm (a:=()) (om1:=om.set hg (.dk (Y7 c off (Rt gs k o)))) ?_).trans rfl;have h1:(Y7 c off gs).length<lim:=by rw[Jb];omega
 simp[PO,OP,S.g,Xa,h1,BO]
def X6(S:Os c om ho hb hg off gs){sl:Sl}{i:Nat}(hi:sl[i]?=some (some (.o ho))):f1 (ZI c.Orders "board") (Za i) sl om=some (.ok (.o hb),om):=Yq hi S.o (CG ..)
def Dx(W:Wd c om hb hm hu hl size off f kvs)(S:Os c om ho hb hg off gs){k:Nat}{s:Int}(h:at' f k=some s)(hl:gs.length<100):Ve c [.o ho,.int ((off:Int)+k)] om=some (.ok .non,om.set hg (.dk (Y7 c off (Rt gs k .stand)))):=by
 have e1:Z4 (Zn c.Board "need_unit" 2 (YA c) (f1 (ZI c.Orders "board") (Za 0)) (Zc (Za 1) Zi)) [some (.o ho),some (.int ((off:Int)+k))] om=some (.ok (.nx,[some (.o ho),some (.int ((off:Int)+k))]),om):=
  Z9 ((Zy (X6 S rfl) (Zz W.b) (Yh _ _ _ (by decide) (by decide)) (Ze (Zb rfl) Zk) rfl).trans (Jt W h))
 exact Wq ((Zh e1).trans (Ej S (o:=.stand) Zs rfl rfl hl))
def D8(W:Wd c om hb hm hu hl size off f kvs)(S:Os c om ho hb hg off gs){k:Nat}{s:Int}(h:at' f k=some s):YK c [.o ho,.int ((off:Int)+k)] om=some (.ok (odG c off ((gs.lookup k).getD .stand)),om):=by
 have e1:Z4 (Zn c.Board "need_unit" 2 (YA c) (f1 (ZI c.Orders "board") (Za 0)) (Zc (Za 1) Zi)) [some (.o ho),some (.int ((off:Int)+k))] om=some (.ok (.nx,[some (.o ho),some (.int ((off:Int)+k))]),om):=
  Z9 ((Zy (X6 S rfl) (Zz W.b) (Yh _ _ _ (by decide) (by decide)) (Ze (Zb rfl) Zk) rfl).trans (Jt W h))
 have e2:Ot (f1 (ZI c.Orders "given") (Za 0)) (Za 1) (fC (.g c.STAND)) [some (.o ho),some (.int ((off:Int)+k))] om=some (.ok (odG c off ((gs.lookup k).getD .stand)),om):=by
  unfold Ot;rw[Zm (Yq rfl S.o (QN ..))];refine(Zm (a:=()) (om1:=om) (by simp[OL,isD,S.g])).trans ?_;rw[Zm (Zb rfl),Zm Zs];cases hq:gs.lookup k with
  |none=>simp[Qf,Wr,S.g,Xa,Tv,hq,odG]
  |some o=>simp[Qf,Wr,S.g,Xa,Tv,hq]
 exact ZH ((Zh e1).trans (Zu e2))
def U6(off:Nat):Od->Wv
 |.move g=>.int ((off:Int)+g)
 |_=>.non
def LW(iY:om[ho]?=some (YV c hb hg))(hd:om[hg]?=some (.dk (Y7 c off gs))∨om[hg]?=some (.dz (Y7 c off gs)))(k:Nat):Zo c [.o ho,.int ((off:Int)+k)] om=some (.ok (U6 off ((gs.lookup k).getD .stand)),om):=by
 generalize kA:(gs.lookup k).getD .stand=o
 have e1:ZC 2 (Ot (f1 (ZI c.Orders "given") (Za 0)) (Za 1) (fC (.g c.STAND))) [some (.o ho),some (.int ((off:Int)+k)),none] om=some (.ok (.nx,[some (.o ho),some (.int ((off:Int)+k)),some (odG c off o)]),om):=by
  refine Zv (i:=2) (w:=odG c off o) ?_;unfold Ot;rw[Zm (Yq rfl iY (QN ..))];rw[← kA];rcases hd with hd|hd
  ·refine(Zm (a:=()) (om1:=om) (by simp[OL,isD,hd])).trans ?_
   rw[Zm (Zb rfl),Zm Zs];cases hq:gs.lookup k with
   |none=>simp[Qf,Wr,hd,Xa,Tv,hq,odG]
   |some o=>simp[Qf,Wr,hd,Xa,Tv,hq]
  ·refine(Zm (a:=()) (om1:=om) (by simp[OL,isD,hd])).trans ?_
   rw[Zm (Zb rfl),Zm Zs];cases hq:gs.lookup k with
   |none=>simp[Qf,Wr,hd,Xa,Tv,hq,odG]
   |some o=>simp[Qf,Wr,hd,Xa,Tv,hq]
 have e2:fB (f2 kEq (f2 (V4 c.STAND) (Za 2) (fC (.int 0))) (fC (.str "move"))) [some (.o ho),some (.int ((off:Int)+k)),some (odG c off o)] om=some (.ok (decide (odN o="move")),om):=by
  refine ZO ((Zt (x:=.str (odN o)) (om1:=om) ((Zt (Zb rfl) Zs).trans ?_) Zs).trans (P4 _ _ (NI o) N8 _));unfold V4;cases o with
  |stand=>rw[show odG c off .stand=.g c.STAND from rfl,EJ];exact ZW (k:=0) rfl rfl
  |move g=>exact ZW (k:=0) rfl rfl
  |help h g=>exact ZW (k:=0) rfl rfl
 refine ZH (sl1:=[some (.o ho),some (.int ((off:Int)+k)),some (odG c off o)]) ((Zh e1).trans ?_);cases o with
 |stand=>exact(Zh (ZP e2)).trans (Zu Zs)
 |help h g=>exact(Zh (ZP e2)).trans (Zu Zs)
 |move g=>exact YJ ((YC e2).trans (Zu ((Zt (Zb rfl) Zs).trans (ZW (k:=1) rfl rfl))))
def D6(S:Os c om ho hb hg off gs)(k:Nat):Zo c [.o ho,.int ((off:Int)+k)] om=some (.ok (U6 off ((gs.lookup k).getD .stand)),om):=LW S.o (.inl S.g) k
end
def Ug{S:FS}{i:Nat}{om:iM}{sl:Sl}(hi:i<sl.length):∀{l:iI} (x:Option Wv),(∀w∈l,S (sl.set i (some w)) om=some (.ok (.nx,sl.set i (some w)),om))->∃y,VF (tgN i) S l (sl.set i x) om=some (.ok (.nx,sl.set i y),om)
 |[],x,_=>⟨x,rfl⟩
 |w::l,x,h=>by
  obtain⟨y,e⟩:=Ug hi (l:=l) (some w) λu hu=>h u (.tail _ hu)
  refine⟨y,?_⟩;show(match tgN i w (sl.set i x) with|none=>WM|some sl1=>bnd (S sl1) (QA λiy=>VF (tgN i) S l iy)) om=_;have e1:tgN i w (sl.set i x)=some (sl.set i (some w)):=by unfold tgN;rw[eR]
  rw[e1];dsimp only;rw[Zm (h w (.head _))];exact e
section
variable{c:CA}{om:iM}{ho hb hm hu hl hg size off:Nat}{f:hX}{kvs:iK}{gs:Gs}
def Qd(W:Wd c om hb hm hu hl size off f kvs)(S:Os c om ho hb hg off gs)(ps us:iC)(hp:∀k∈ps,k<f.length)(nU:∀k∈us,(at' f k).isSome=true):YO c [.o ho,.lst (ps.map λ(k:Nat)=>.int ((off:Int)+k)),.lst (us.map λ(k:Nat)=>.int ((off:Int)+k))] om=some (.ok .non,om):=by
 generalize hA:Wv.lst (ps.map λ(k:Nat)=>.int ((off:Int)+k))=A;generalize hB:Wv.lst (us.map λ(k:Nat)=>.int ((off:Int)+k))=B
 obtain⟨y,e1⟩:=Ug (S:=X4 c) (i:=3) (om:=om) (sl:=[some (.o ho),some A,some B,none]) (by simp) (l:=ps.map λ(k:Nat)=>.int ((off:Int)+k)) none (λw hw=>by
  obtain⟨k,hk,rfl⟩:=aO.mp hw;have hk:=W.inn (hp k hk);exact Z9 ((Zy (Lc (X6 S rfl) W.b (VD ..)) (Zz W.m) (XG _ _ _ (by decide) (by decide)) (Ze (Zb rfl) Zk) rfl).trans (Ts c W.m hk.1 hk.2)))
 obtain⟨z,e2⟩:=Ug (S:=X9 c) (i:=3) (om:=om) (sl:=[some (.o ho),some A,some B,y]) (by simp) (l:=us.map λ(k:Nat)=>.int ((off:Int)+k)) y (λw hw=>by
  obtain⟨k,hk,rfl⟩:=aO.mp hw;obtain⟨s,hs⟩:=aV.mp (nU k hk);exact Z9 ((Zy (X6 S rfl) (Zz W.b) (Yh _ _ _ (by decide) (by decide)) (Ze (Zb rfl) Zk) rfl).trans (Jt W hs)))
 have f1:XH (λsl=>bnd ((Za 1) sl) ZE) (tgN 3) (X4 c) [some (.o ho),some A,some B,none] om=_:=YI (sl1:=[]) ((Zm (Zb rfl)).trans (by rw[← hA];rfl)) e1;have f2:XH (λsl=>bnd ((Za 2) sl) ZE) (tgN 3) (X9 c) [some (.o ho),some A,some B,y] om=_:=YI (sl1:=[]) ((Zm (Zb rfl)).trans (by rw[← hB];rfl)) e2;exact Wq ((Zh f1).trans f2)
def VC(W:Wd c om hb hm hu hl size off f kvs)(S:Os c om ho hb hg off gs){a b:Nat}(ha:a<f.length)(l0:b<f.length)(hk:Uo kvs ((off:Int)+a) ((off:Int)+b)=true):Z7 c [.o ho,.int ((off:Int)+a),.int ((off:Int)+b)] om=some (.ok .non,om):=by
 refine Wq (ZP (Re (b:=true) (Xy ((Zy (Lc (X6 S rfl) W.b (VD ..)) (Zz W.m) (XG _ _ _ (by decide) (by decide)) (Ze (Zb rfl) (Ze (Zb rfl) Zk)) rfl).trans ((HN c W.m W.l (W.inn ha) (W.inn l0)).trans ?_)))));rw[hk]
def Q1{ws:iI}{om:iM}(h:ws.length<=8):ZQ ws om=some (.ok (.lst ws),om):=by
 have:=ZS;unfold ZQ;rw[aC (by omega)];rfl
def Co(W:Wd c om hb hm hu hl size off f kvs)(S:Os c om ho hb hg off gs){k g:Nat}{s:Int}(h:at' f k=some s)(jz:g<f.length)(hk:Uo kvs ((off:Int)+k) ((off:Int)+g)=true)(im:gs.length<100):V7 c [.o ho,.int ((off:Int)+k),.int ((off:Int)+g)] om=some (.ok .non,om.set hg (.dk (Y7 c off (Rt gs k (.move g))))):=by
 have e1:Z4 (Zn c.Orders "need_all" 3 (YO c) (Za 0) (Zc (fA ZQ (Zc (Za 1) (Zc (Za 2) Zi))) (Zc (fA ZQ (Zc (Za 1) Zi)) Zi))) [some (.o ho),some (.int ((off:Int)+k)),some (.int ((off:Int)+g))] om=some (.ok (.nx,[some (.o ho),some (.int ((off:Int)+k)),some (.int ((off:Int)+g))]),om):=
  Z9 ((Zy (Zb rfl) (Zz S.o) (Ye _ _ _ (by decide) (by decide)) (Ze ((ZB (Ze (Zb rfl) (Ze (Zb rfl) Zk))).trans (Q1 (by simp))) (Ze ((ZB (Ze (Zb rfl) Zk)).trans (Q1 (by simp))) Zk)) rfl).trans
   (Qd W S [k,g] [k] (by intro j hj;simp at hj;rcases hj with rfl|rfl;exact S5 h;exact jz) (by intro j hj;simp at hj;subst hj;rw[h];rfl)))
 have e2:Z4 (Zn c.Orders "need_beside" 3 (Z7 c) (Za 0) (Zc (Za 1) (Zc (Za 2) Zi))) [some (.o ho),some (.int ((off:Int)+k)),some (.int ((off:Int)+g))] om=some (.ok (.nx,[some (.o ho),some (.int ((off:Int)+k)),some (.int ((off:Int)+g))]),om):=
  Z9 ((Zy (Zb rfl) (Zz S.o) (Ye _ _ _ (by decide) (by decide)) (Ze (Zb rfl) (Ze (Zb rfl) Zk)) rfl).trans (VC W S (S5 h) jz hk))
 exact Wq ((Zh e1).trans ((Zh e2).trans (Ej S (o:=.move g) ((ZB (Ze Zs (Ze (Zb rfl) Zk))).trans (Y0 (by simp))) rfl rfl im)))
def aid_in(W:Wd c om hb hm hu hl size off f kvs)(S:Os c om ho hb hg off gs){k h g:Nat}{s t:Int}(hs:at' f k=some s)(ht:at' f h=some t)(jz:g<f.length)(jb:h≠k)(hk:Uo kvs ((off:Int)+k) ((off:Int)+g)=true)(hh:h=g∨Uo kvs ((off:Int)+h) ((off:Int)+g)=true)(im:gs.length<100):UG c [.o ho,.int ((off:Int)+k),.int ((off:Int)+h),.int ((off:Int)+g)] om=some (.ok .non,om.set hg (.dk (Y7 c off (Rt gs k (.help h g))))):=by
 generalize j7:([some (.o ho),some (.int ((off:Int)+k)),some (.int ((off:Int)+h)),some (.int ((off:Int)+g))]:Sl)=sl;have s0:sl[0]?=some (some (.o ho)):=by rw[← j7];rfl
 have s1:sl[1]?=some (some (.int ((off:Int)+k))):=by rw[← j7];rfl
 have s2:sl[2]?=some (some (.int ((off:Int)+h))):=by rw[← j7];rfl
 have s3:sl[3]?=some (some (.int ((off:Int)+g))):=by rw[← j7];rfl
 have e1:Z4 (Zn c.Orders "need_all" 3 (YO c) (Za 0) (Zc (fA ZQ (Zc (Za 1) (Zc (Za 2) (Zc (Za 3) Zi)))) (Zc (fA ZQ (Zc (Za 1) (Zc (Za 2) Zi))) Zi))) sl om=some (.ok (.nx,sl),om):=
  Z9 ((Zy (Zb s0) (Zz S.o) (Ye _ _ _ (by decide) (by decide)) (Ze ((ZB (Ze (Zb s1) (Ze (Zb s2) (Ze (Zb s3) Zk)))).trans (Q1 (by simp))) (Ze ((ZB (Ze (Zb s1) (Ze (Zb s2) Zk))).trans (Q1 (by simp))) Zk)) rfl).trans
   (Qd W S [k,h,g] [k,h] (by intro j hj;simp at hj;rcases hj with rfl|rfl|rfl;exact S5 hs;exact S5 ht;exact jz) (by intro j hj;simp at hj;rcases hj with rfl|rfl;rw[hs];rfl;rw[ht];rfl)))
 have e2:fB (f2 kEq (Za 2) (Za 1)) sl om=some (.ok false,om):=ZO ((v2 s2 s1).trans ((Wi _ _ _).trans (by rw[aJ (by omega)])))
 have e3:Z4 (Zn c.Orders "need_beside" 3 (Z7 c) (Za 0) (Zc (Za 1) (Zc (Za 3) Zi))) sl om=some (.ok (.nx,sl),om):=
  Z9 ((Zy (Zb s0) (Zz S.o) (Ye _ _ _ (by decide) (by decide)) (Ze (Zb s1) (Ze (Zb s3) Zk)) rfl).trans (VC W S (S5 hs) jz hk))
 have e4:sIf (fB (f2 kNe (Za 3) (Za 2))) (Z4 (Zn c.Orders "need_beside" 3 (Z7 c) (Za 0) (Zc (Za 2) (Zc (Za 3) Zi)))) Yy sl om=some (.ok (.nx,sl),om):=by
  have t:fB (f2 kNe (Za 3) (Za 2)) sl om=some (.ok (!decide ((off:Int)+g=(off:Int)+h)),om):=ZO ((v2 s3 s2).trans (Vk _ _ _));by_cases hq:h=g
  ·rw[bJ (by omega)]at t
   exact ZP t
  ·rw[aJ (by omega)]at t
   refine(YC t).trans (Z9 ((Zy (Zb s0) (Zz S.o) (Ye _ _ _ (by decide) (by decide)) (Ze (Zb s2) (Ze (Zb s3) Zk)) rfl).trans (VC W S (S5 ht) jz (hh.resolve_left hq))))
 refine Wq (sl1:=sl) ?_;show _=_;have st:Vl 4 [.o ho,.int ((off:Int)+k),.int ((off:Int)+h),.int ((off:Int)+g)]=sl:=by rw[← j7];rfl
 rw[st];exact(Zh e1).trans ((Zh (ZP e2)).trans ((Zh e3).trans ((Zh e4).trans (Ej S (o:=.help h g) ((ZB (Ze Zs (Ze (Zb s2) (Ze (Zb s3) Zk)))).trans (Y0 (by simp))) s0 s1 im))))
def mvG(gs:Gs)(k:Nat):Bool:=We (some ((gs.lookup k).getD .stand))
def S7:∀{l m:iB},l.Pairwise (· < ·)->m.Pairwise (· < ·)->(∀p,p∈l ↔ p∈m)->l=m
 |[],[],_,_,_=>rfl
 |[],y::m,_,_,h=>absurd ((h y).mpr (.head _)) (by simp)
 |x::l,[],_,_,h=>absurd ((h x).mp (.head _)) (by simp)
 |x::l,y::m,h1,h2,h=>by
  have jv:=bU.mp h1;have jc:=bU.mp h2
  have e:x=y:=by
   rcases aT.mp ((h x).mp (.head _)) with hx|hx
   ·exact hx
   ·rcases aT.mp ((h y).mpr (.head _)) with hy|hy
    ·exact hy.symm
    ·have a:=jv.1 y hy
     have b:=jc.1 x hx;omega
  subst e;rw[S7 jv.2 jc.2 λp=>⟨λhp=>?_,λhp=>?_⟩]
  ·rcases aT.mp ((h p).mp (.tail _ hp)) with z|z
   ·have:=jv.1 p hp;omega
   ·exact z
  ·rcases aT.mp ((h p).mpr (.tail _ hp)) with z|z
   ·have:=jc.1 p hp;omega
   ·exact z
def MV{l:iB}(nd:l.Nodup):(Yt l).Pairwise (· < ·):=by
 have hn:(Yt l).Nodup:=(ZT l).nodup_iff.mpr nd
 exact((Wo l).and hn).imp λ{x y} h=>by
  have:=h.1;have:=h.2;omega
def WB(off:Nat)(T:Nat->Option Od)(n:Nat):iB:=((List.range n).filter λk=>We (T k)).map λ(k:Nat)=>(off:Int)+k
def Pq(off:Nat)(T:Nat->Option Od)(n:Nat):(WB off T n).Pairwise (· < ·):=by
 unfold WB;refine cg.mpr ((List.Pairwise.filter _ fP).imp λ{a b} h=>?_);show(off:Int)+a<off+b;omega
def LX{gs:Gs}{T:Nat->Option Od}(h:Tell gs T)(off n:Nat)(hn:∀k o,T k=some o->k<n):Yt ((gs.filter λp=>We (some p.2)).map λp=>(off:Int)+p.1)=WB off T n:=by
 refine S7 (MV ?_) (Pq off T n) λp=>?_
 ·have nd:((gs.filter λp=>We (some p.2)).map (·.1)).Nodup:=h.nd.sublist (List.Sublist.map _ (bW ..))
  refine cg.mpr ((cg.mp nd).imp λ{a b} jw z=>jw ?_);have z:(off:Int)+a.1=off+b.1:=z;omega
 ·rw[(ZT _).mem_iff]
  unfold WB;constructor
  ·intro hp
   obtain⟨q,hq,rfl⟩:=aO.mp hp;obtain⟨nV,nW⟩:=aL.mp hq;have hk:=h.key q.1 q.2 (VJ h.nd nV);exact aO.mpr ⟨q.1,aL.mpr ⟨bO.mpr (hn _ _ hk),by rw[hk];exact nW⟩,rfl⟩
  ·intro hp
   obtain⟨k,hk,rfl⟩:=aO.mp hp;obtain⟨_,jI⟩:=aL.mp hk
   match hT:T k with
   |none=>rw[hT]at jI;cases jI
   |some o=>
    rw[hT]at jI;have hg:=h.get k o hT;cases hl:gs.lookup k with
    |none=>
     rw[hl]at hg;have hg:Od.stand=o:=hg;subst hg;cases jI
    |some q=>
     rw[hl]at hg;have hg:q=o:=hg;subst hg;exact aO.mpr ⟨(k,q),aL.mpr ⟨Qp hl,jI⟩,rfl⟩
def Vz:∀ns:iB,X3 (ns.map Wv.int)=some ns
 |[]=>rfl
 |n::r=>by
  show(match X3 (r.map Wv.int) with|some is=>some (n::is)|none=>none)=_;rw[Vz r]
def K1(off:Nat)(o:Od)(om:iM):UZ (U6 off o) om=some (.ok (.bl (We (some o))),om):=by
 cases o <;> rfl
def HB(c:CA)(off:Nat)(gs:Gs):((Y7 c off gs).map λp=>Sq p.1)=(gs.map λp=>(off:Int)+p.1).map Wv.int:=by
 unfold Y7;rw[aY,aY];rfl
def Qu{k:iI->Mw Wv}{cT:FT}{fE:FE}(nX:∀ig (w:Wv),∀j:Nat,w=.int ((off:Int)+j)->ig[ho]?=some (YV c hb hg)->ig[hg]?=some (.dz (Y7 c off gs))->cT [some w,some (.o ho)] ig=some (.ok (mvG gs j),ig))(nY:∀w ig,fE [some w,some (.o ho)] ig=some (.ok w,ig))(S:Os c om ho hb hg off gs)(nd:(gs.map (·.1)).Nodup)(im:gs.length<100):Vo k [0] (f1 (ZI c.Orders "given") (Za 0)) cT fE [some (.o ho)] om=k (((gs.filter λp=>We (some p.2)).map λp=>(off:Int)+p.1).map Wv.int) om:=by
 have iw:=ZS;have nb:hg≠ho:=λz=>by have h:=S.g;subst z;rw[S.o]at h;cases h
 have iR:hg<om.length:=(aG.mp S.g).1;have a1:(om.set hg (.dz (Y7 c off gs)))[ho]?=some (YV c hb hg):=by rw[bN nb];exact S.o
 have a2:(om.set hg (.dz (Y7 c off gs)))[hg]?=some (.dz (Y7 c off gs)):=by rw[bV iR]
 unfold Vo;rw[Zm (Yq rfl S.o (QN ..))];refine(Zm (a:=(true,hg,(Y7 c off gs).map λp=>Sq p.1)) (om1:=om.set hg (.dz (Y7 c off gs))) ?_).trans ?_
 ·have h1:(Y7 c off gs).length<=lim:=by rw[Jb];omega
  simp[JV,S.g,h1]
 dsimp only;have pj:∀j:Nat,((off:Int)+j-off).toNat=j:=λj=>by omega
 have e:=Se (c:=cT) (f:=fE) (mk:=λw=>Xq [0] w [some (.o ho)]) (om:=om.set hg (.dz (Y7 c off gs))) (λw=>match w with|.int i=>mvG gs (i-off).toNat|_=>false) (λw=>w) (l:=(Y7 c off gs).map λp=>Sq p.1)
  (λw hw=>by
   rw[HB]at hw;obtain⟨i,hi,rfl⟩:=aO.mp hw;obtain⟨p,hp,rfl⟩:=aO.mp hi;show cT [some (.int ((off:Int)+p.1)),some (.o ho)] _=some (.ok (mvG gs ((off:Int)+p.1-off).toNat),_);rw[pj];exact nX _ _ p.1 rfl a1 a2) (λw hw _=>nY w _)
 rw[Zm e];refine(Zm (a:=()) (om1:=om) ?_).trans ?_
 ·have:(om.set hg (.dz (Y7 c off gs))).set hg (.dk (Y7 c off gs))=om:=by
   rw[eR]
   exact cX λi=>by
    by_cases h:hg=i
    ·subst h;rw[bV iR,S.g]
    ·rw[bN h]
  simp only[JU,a2,this,if_true]
 ·refine cx (λl=>k l om) ?_
  rw[List.map_id',HB,aY];clear e a1 a2 iR nb
  have key:∀l:Gs,(∀p∈l,gs.lookup p.1=some p.2)->(l.map (Wv.int ∘ λp=>(off:Int)+p.1)).filter (λw=>match w with|.int i=>mvG gs (i-off).toNat|_=>false)=((l.filter λp=>We (some p.2)).map λp=>(off:Int)+p.1).map Wv.int:=by
   intro l
   induction l with
   |nil=>intro _;rfl
   |cons p l ih=>
    intro hp;have h1:=hp p (.head _)
    have e1:mvG gs ((off:Int)+p.1-off).toNat=We (some p.2):=by
     rw[pj];unfold mvG;rw[h1];rfl
    rw[aU,cJ,cJ];show(if mvG gs ((off:Int)+p.1-off).toNat=true then _ else _)=_;rw[e1,ih λq hq=>hp q (.tail _ hq)];cases We (some p.2) <;> rfl
  exact key gs λp hp=>VJ nd hp
def GS{T:Nat->Option Od}{n:Nat}(S:Os c om ho hb hg off gs)(t:Tell gs T)(hn:∀k o,T k=some o->k<n)(im:gs.length<=60):ZZ c [.o ho] om=some (.ok (.lst ((WB off T n).map Wv.int)),om)∧RH c [.o ho] om=some (.ok (.o om.length),om++[.lst ((WB off T n).map Wv.int)]):=by
 have iw:=ZS;have hE:∀(w:Wv) (ig:iM),(Za 0) [some w,some (.o ho)] ig=some (.ok w,ig):=λw ig=>Zb rfl
 have hT:∀(ig:iM) (w:Wv),∀j:Nat,w=.int ((off:Int)+j)->ig[ho]?=some (YV c hb hg)->ig[hg]?=some (.dz (Y7 c off gs))->(fB (f1 UZ (Zn c.Orders "goal_of" 2 (Zo c) (Za 1) (Zc (Za 0) Zi)))) [some w,some (.o ho)] ig=some (.ok (mvG gs j),ig):=λig w j hw h1 h2=>by
  subst hw;exact ZO ((Wl ((Zy (Zb rfl) (Zz h1) (Ye _ _ _ (by decide) (by decide)) (Ze (Zb rfl) Zk) rfl).trans (LW h1 (.inr h2) j))).trans (K1 _ _ _))
 generalize hL:((gs.filter λp=>We (some p.2)).map λp=>(off:Int)+p.1)=L;have hLl:L.length<=gs.length:=by rw[← hL,aA];exact aF _ _
 have es:Yt L=WB off T n:=by rw[← hL];exact LX t off n hn
 have hml:((WB off T n).map Wv.int).length<=gs.length:=by rw[aA,← es,(ZT L).length_eq];exact hLl
 have srt:∀k:iI->Mw Wv,YT k [.lst (L.map Wv.int)] om=k ((WB off T n).map Wv.int) om:=λk=>by
  show(match X3 (L.map Wv.int) with|some ns=>if ns.length<64 then k ((Yt ns).map Wv.int) om else none|none=>none)=_;rw[Vz];show(if L.length<64 then k ((Yt L).map Wv.int) om else none)=_;rw[aC (by omega),es]
 have lay:ZQ (L.map Wv.int) om=some (.ok (.lst (L.map Wv.int)),om):=by
  unfold ZQ;rw[aC (by rw[aA];omega)];rfl
 refine⟨ZH (Zu ((ZB (Ze ((Qu hT hE S t.nd (by omega)).trans (by rw[hL];exact lay)) Zk)).trans ((srt ZQ).trans ?_))),ZH (Zu ((ZB (Ze ((Qu hT hE S t.nd (by omega)).trans (by rw[hL];exact lay)) Zk)).trans ((srt Xm).trans ?_)))⟩
 ·unfold ZQ
  rw[aC (by omega)];rfl
 ·unfold Xm
  rw[aC (by omega)];rfl
end
def FG:∀(n:Nat) (l:iC),l.Nodup->(∀x∈l,x<n)->l.length<=n
 |0,[],_,_=>aM _
 |0,x::_,_,h=>absurd (h x (.head _)) (by omega)
 |n+1,l,nd,h=>by
  have h1:=FG n (l.erase n) (nd.erase n) λx hx=>by
   have q:=(List.Nodup.mem_erase_iff nd).mp hx;have:=h x q.2;have:=q.1;omega
  have h2:l.length<=(l.erase n).length+1:=by rw[List.length_erase];split <;> omega
  omega
def Tell.len{gs:Gs}{T:Nat->Option Od}{n:Nat}(h:Tell gs T)(hn:∀k o,T k=some o->k<n):gs.length<=n:=by
 rw[← aA (f:=(·.1))];refine FG n _ h.nd λx hx=>?_
 obtain⟨p,hp,rfl⟩:=aO.mp hx;exact hn _ _ (h.key p.1 p.2 (VJ h.nd hp))
def L0{om:iM}{i:Nat}{x:Ob}(h:om[i]?=some x):om.set i x=om:=cX λj=>by
 by_cases e:i=j
 ·subst e;rw[bV (aG.mp h).1,h]
 ·rw[bN e]
section
variable{c:CA}{om:iM}{ho hb hm hu hl hg size off:Nat}{f:hX}{kvs:iK}{gs:Gs}{rows:Mx}
def Os.at(S:Os c om ho hb hg off gs)(jA:Gs):Os c (om.set hg (.dk (Y7 c off jA))) ho hb hg off jA:=by
 have nb:hg≠ho:=λz=>by have h:=S.g;subst z;rw[S.o]at h;cases h
 exact⟨by rw[bN nb];exact S.o,by rw[bV (aG.mp S.g).1]⟩
def gvn(gs:Gs)(k:Nat):Option Od->Gs
 |none=>gs
 |some o=>Rt gs k o
def Ey(o:Od)(om:iM):Wn false (.str (odN o)) (.str "stand") om=some (.ok (.bl (decide (odN o="stand"))),om):=P4 _ _ (NI o) K8 _
def Cc{tw:Wv}{told:iN}(W:Wd c om hb hm hu hl size off f kvs)(S:Os c om ho hb hg off gs)(mo:NU rows off kvs)(G:Givn rows f told)(ht:Xe om tw=some (told.map odW)){k:Nat}(hk:k<f.length)(im:gs.length<100):VI c [.o ho,.int off,tw,.int k] om=some (.ok .non,om.set hg (.dk (Y7 c off (gvn gs k (at' told k))))):=by
 have hkt:k<told.length:=by rw[G.len];exact hk
 have ok:=G.ok k hk
 have e0:∀{o:Option Od},at' told k=o->ZC 4 (f2 kIx (Za 2) (Za 3)) [some (.o ho),some (.int off),some tw,some (.int k),none] om=some (.ok (.nx,[some (.o ho),some (.int off),some tw,some (.int k),some (odW o)]),om):=λ{o} ho=>by
  have e:=SR (k:=k) ht hkt none;rw[show told.getD k none=o from ho]at e;exact Zv (i:=4) ((v2 rfl rfl).trans e)
 have hl2:∀{i j:Nat},X8 rows i j=true->Uo kvs ((off:Int)+i) ((off:Int)+j)=true:=λ{i j} h=>(mo _ _).mpr ⟨i,j,rfl,rfl,h⟩
 match kA:at' told k,ok with
 |none,ok=>
  have t:fB (f1 VE (Za 4)) [some (.o ho),some (.int off),some tw,some (.int k),some (odW none)] om=some (.ok true,om):=ZO ((Wl (Zb rfl)).trans rfl);rw[show gvn gs k none=gs from rfl,L0 S.g];exact ZH ((Zh (e0 kA)).trans (YJ ((YC t).trans rfl)))
 |some o,ok=>
  have t:fB (f1 VE (Za 4)) [some (.o ho),some (.int off),some tw,some (.int k),some (odW (some o))] om=some (.ok false,om):=ZO ((Wl (Zb rfl)).trans (isN_od _ _));have t1:fB (f2 kEq (f2 kIx (Za 4) (fC (.int 0))) (fC (.str "stand"))) [some (.o ho),some (.int off),some tw,some (.int k),some (odW (some o))] om=some (.ok (decide (odN o="stand")),om):=ZO ((Zt ((Zt (Zb rfl) Zs).trans (od_0 o _)) Zs).trans (Ey _ _));have t2:fB (f2 kEq (f2 kIx (Za 4) (fC (.int 0))) (fC (.str "move"))) [some (.o ho),some (.int off),some tw,some (.int k),some (odW (some o))] om=some (.ok (decide (odN o="move")),om):=ZO ((Zt ((Zt (Zb rfl) Zs).trans (od_0 o _)) Zs).trans (P4 _ _ (NI o) N8 _));have ak:f2 WJ (Za 1) (Za 3) [some (.o ho),some (.int off),some tw,some (.int k),some (odW (some o))] om=some (.ok (.int ((off:Int)+k)),om):=(v2 rfl rfl).trans rfl;refine Wq (sl1:=[some (.o ho),some (.int off),some tw,some (.int k),some (odW (some o))]) ((Zh (e0 kA)).trans ((Zh (ZP t)).trans ?_))
  match o,ok with
  |.stand,ok=>
   obtain⟨s,hs⟩:=aV.mp ok;exact(YC t1).trans (Z9 ((Zy (Zb rfl) (Zz S.o) (Ye _ _ _ (by decide) (by decide)) (Ze ak Zk) rfl).trans (Dx W S hs im)))
  |.move g,ok=>
   obtain⟨s,hs⟩:=aV.mp ok.1;have ag:f2 WJ (Za 1) (f2 kIx (Za 4) (fC (.int 1))) [some (.o ho),some (.int off),some tw,some (.int k),some (odW (some (.move g)))] om=some (.ok (.int ((off:Int)+g)),om):=(Zt (Zb rfl) ((Zt (Zb rfl) Zs).trans (od_m g _))).trans rfl;exact(Qq t1).trans ((YC t2).trans (Z9 ((Zy (Zb rfl) (Zz S.o) (Ye _ _ _ (by decide) (by decide)) (Ze ak (Ze ag Zk)) rfl).trans (Co W S hs ok.2.1 (hl2 ok.2.2) im))))
  |.help h g,ok=>
   obtain⟨s,hs⟩:=aV.mp ok.1;obtain⟨_,hh,jz,jb,jV,l1,l2⟩:=ok;obtain⟨s2,kW⟩:=aV.mp jV;have ah:f2 WJ (Za 1) (f2 kIx (Za 4) (fC (.int 1))) [some (.o ho),some (.int off),some tw,some (.int k),some (odW (some (.help h g)))] om=some (.ok (.int ((off:Int)+h)),om):=(Zt (Zb rfl) ((Zt (Zb rfl) Zs).trans (od_h h g _))).trans rfl;have ag:f2 WJ (Za 1) (f2 kIx (Za 4) (fC (.int 2))) [some (.o ho),some (.int off),some tw,some (.int k),some (odW (some (.help h g)))] om=some (.ok (.int ((off:Int)+g)),om):=(Zt (Zb rfl) ((Zt (Zb rfl) Zs).trans (od_g h g _))).trans rfl;exact(Qq t1).trans ((Qq t2).trans (Z9 ((Zy (Zb rfl) (Zz S.o) (Ye _ _ _ (by decide) (by decide)) (Ze ak (Ze ah (Ze ag Zk))) rfl).trans (aid_in W S hs kW jz jb (hl2 l1) (l2.imp id hl2) im))))
def Sf(told:iN)(T:Nat->Option Od)(k j:Nat):Option Od:=if j<k then at' told j else T j
def Fa(told:iN)(T:Nat->Option Od):Sf told T 0=T:=by funext j;unfold Sf;rw[aE (by omega)]
def Gu(told:iN)(T:Nat->Option Od)(k:Nat):Sf told T (k+1)=λj=>if j=k then at' told k else Sf told T k j:=by
 funext j;unfold Sf;by_cases h:j=k
 ·subst h;rw[aC (by omega),aC rfl]
 ·rw[aE h]
  by_cases h2:j<k
  ·rw[aC h2,aC (by omega)]
  ·rw[aE h2,aE (by omega)]
def Same'(f:hX)(T:Nat->Option Od):Prop:=∀j,(T j).isSome=(at' f j).isSome
def Givn.same{told:iN}(G:Givn rows f told):Same' f (at' told):=λj=>by
 by_cases h:j<f.length
 ·have:=G.okT.both j (by rw[G.len];exact h)
  exact eO.mpr this
 ·rw[UA h,UA (by rw[G.len];exact h)];rfl
def Same'.lt{T:Nat->Option Od}(h:Same' f T):∀k o,T k=some o->k<f.length:=λk o e=>by
 have q:=h k;rw[e]at q;obtain⟨s,hs⟩:=aV.mp q.symm;exact S5 hs
def Same'.mix{told:iN}{T:Nat->Option Od}(G:Givn rows f told)(h:Same' f T)(k:Nat):Same' f (Sf told T k):=λj=>by
 unfold Sf;by_cases hj:j<k
 ·rw[aC hj];exact G.same j
 ·rw[aE hj];exact h j
def Tell.give{told:iN}{T:Nat->Option Od}{k:Nat}(G:Givn rows f told)(hs:Same' f T)(t:Tell gs (Sf told T k)):Tell (gvn gs k (at' told k)) (Sf told T (k+1)):=by
 rw[Gu]
 match h:at' told k with
 |none=>
  have e:(λj=>if j=k then (none:Option Od) else Sf told T k j)=Sf told T k:=by
   funext j;by_cases hj:j=k
   ·subst hj
    rw[aC rfl];have a:=G.same j;have b:=hs j;unfold Sf;rw[aE (by omega)];rw[h]at a;rw[← a]at b;cases q:T j with
    |none=>rfl
    |some o=>rw[q]at b;cases b
   ·rw[aE hj]
  rw[e];exact t
 |some o=>exact t.put k o
def GU{tw:Wv}{told:iN}{T:Nat->Option Od}{B:FS}{i:Nat}{sl:Sl}(W:Wd c om hb hm hu hl size off f kvs)(S:Os c om ho hb hg off gs)(jb:hg≠hu)(mo:NU rows off kvs)(G:Givn rows f told)(t:Tell gs T)(hs:Same' f T)(ht:∀ig,(∀j,j≠hg->ig[j]?=om[j]?)->Xe ig tw=some (told.map odW)) (hB:∀(k:Nat) om1 om2,VI c [.o ho,.int off,tw,.int k] om1=some (.ok .non,om2)->(∀j,j≠hg->om1[j]?=om[j]?)->B (sl.set i (some (.int k))) om1=some (.ok (.nx,sl.set i (some (.int k))),om2)):∃jA x,VF (tgN i) B (W0 f.length) sl om=some (.ok (.nx,sl.set i x),om.set hg (.dk (Y7 c off jA)))∧Tell jA (at' told):=by
 have j7:∀l:Sl,l=l.set i ((l[i]?).getD none):=λl=>cX λj=>by
  by_cases h:i=j
  ·subst h
   by_cases iR:i<l.length
   ·rw[bV iR];simp[iR]
   ·rw[bR (by omega),bR (by simp;omega)]
  ·rw[bN h]
 obtain⟨iz,ig,hf,jA,x,rfl,rfl,t'⟩:=WP (T:=tgN i) (S:=B) (n:=f.length) (λk iz ig=>∃jA x,iz=sl.set i x∧ig=om.set hg (.dk (Y7 c off jA))∧Tell jA (Sf told T k)) (sl:=sl) (om:=om) (λk hk iz ig ⟨jA,x,e1,e2,t'⟩=>by
  subst e1 e2;have hg1:jA.length<=f.length:=t'.len (Same'.mix G hs k).lt;have hf:=W.few;have mZ:=W.fit;have oth:∀j,j≠hg->(om.set hg (.dk (Y7 c off jA)))[j]?=om[j]?:=λj hj=>by rw[bN (cF hj)]
  have e:=Cc (W.set (x:=.dk (Y7 c off jA)) S.g jb) (S.at jA) mo G (ht _ oth) hk (by omega);rw[eR]at e;refine⟨sl.set i (some (.int k)),.nx,_,_,?_,hB k _ _ e oth,.inl rfl,_,_,rfl,rfl,t'.give G hs⟩;unfold tgN;rw[eR]) ⟨gs,(sl[i]?).getD none,j7 sl,(L0 S.g).symm,by rw[Fa];exact t⟩
 refine⟨jA,x,hf,?_⟩
 have e:Sf told T f.length=at' told:=by
  funext j;unfold Sf;by_cases h:j<f.length
  ·rw[aC h]
  ·rw[aE h,UA (by rw[G.len];exact h)]
   have:=hs j;rw[UA h]at this;cases q:T j with
   |none=>rfl
   |some o=>rw[q]at this;cases this
 rw[← e];exact t'
def Ma(c:CA)(om:iM)(hb:Nat):XN c.Orders 2 (XZ c) [.o hb] om=some (.ok (.o om.length),om++[YV c hb (om.length+1),.dk []]):=by
 simp[XZ,TU,XN,bnd,kN,chk,L2.ret,Yj,Zr,Xu,Za,Vl,NT,Wk,La,newO,WC,Ie]
def new_Os(c:CA)(om:iM)(hb off:Nat):Os c (om++[YV c hb (om.length+1),.dk []]) om.length hb (om.length+1) off []:=⟨by simp,by simp[Y7]⟩
def bd_Wd{ia:Nat}(hf:f.length=ia)(h1:off+ia<=size)(h2:size<=60):Wd c (Wj c om size kvs (Xi off f ia)) (om.length+2) om.length (om.length+3) (om.length+1) size off f kvs:=by
 subst hf;exact⟨by simp[Wj],by simp[Wj],⟨_,by simp[Wj],.refl _⟩,by simp[Wj],h1,h2⟩
end
end MP
namespace MP
noncomputable section
open PySem L2
def Nw(c:CA):FT:=
 (VW (fB (f2 kEq (Zn c.Orders "goal_of" 2 (Zo c) (Za 1) (Zc (Za 0) Zi)) (Za 2))) (fB (f2 kNe (Zn c.Board "side_at" 2 (Zw c) (f1 (ZI c.Orders "board") (Za 1)) (Zc (Za 0) Zi)) (Za 3))))
def NE(c:CA):FE:=
 (Za 0)
def RX(c:CA):FE:=
 (f2 kNe (Za 0) (f2 (V4 c.STAND) (Za 1) (fC (.int 2))))
def FW(c:CA):FS:=
 (Zr (ZC 2 (Zn c.Orders "told" 2 (YK c) (Za 0) (Zc (Za 1) Zi)))
  (Zr (sIf (fB (f2 kNe (f2 (V4 c.STAND) (Za 2) (fC (.int 0))) (fC (.str "help")))) (Yc (fC (.bl false))) Yy)
  (Zr (ZC 3 (Zn c.Board "side_at" 2 (Zw c) (f1 (ZI c.Orders "board") (Za 0)) (Zc (Za 1) Zi)))
  (Zr (ZC 4 (Z8 ZQ [0,1,3] (λsl=>bnd ((Zn c.Orders "movers" 1 (ZZ c) (Za 0) Zi) sl) ZE) (Nw c) (NE c)))
  (Yc (fA Ba (Zc (Z8 ZQ [2] (λsl=>bnd ((Za 4) sl) ZE) Xg (RX c)) Zi)))))))
def Oe(c:CA):iI->Mw Wv:=Yj 5 (FW c)
def S_fits(c:CA):FS:=
 (Zr (sIf (fB (f2 kEq (Za 2) (Za 1))) (Yc (f1 VE (Zn c.Orders "goal_of" 2 (Zo c) (Za 0) (Zc (Za 1) Zi)))) Yy)
  (Yc (f2 kEq (Zn c.Orders "goal_of" 2 (Zo c) (Za 0) (Zc (Za 1) Zi)) (Za 2))))
def Jw(c:CA):iI->Mw Wv:=Yj 3 (S_fits c)
def Db(c:CA):FS:=
 (Zr (ZC 2 (Zn c.Orders "told" 2 (YK c) (Za 0) (Zc (Za 1) Zi)))
  (Yc (Uf (f2 kEq (f2 (V4 c.STAND) (Za 2) (fC (.int 0))) (fC (.str "help"))) (Uf (fA (kN 3 (Jw c)) (Zc (Za 0) (Zc (f2 (V4 c.STAND) (Za 2) (fC (.int 1))) (Zc (f2 (V4 c.STAND) (Za 2) (fC (.int 2))) Zi)))) (f1 B3 (fA (kN 2 (Oe c)) (Zc (Za 0) (Zc (Za 1) Zi))))))))
def PH(c:CA):iI->Mw Wv:=Yj 3 (Db c)
def BU(c:CA):FS:=
 (Zr (ZC 3 (Zn c.Orders "told" 2 (YK c) (Za 0) (Zc (Za 1) Zi)))
  (Yc (Uf (f2 kEq (f2 (V4 c.STAND) (Za 3) (fC (.int 0))) (fC (.str "help"))) (Uf (f2 kEq (f2 (V4 c.STAND) (Za 3) (fC (.int 1))) (Za 2)) (fA (kN 2 (PH c)) (Zc (Za 0) (Zc (Za 1) Zi)))))))
def Mm(c:CA):iI->Mw Wv:=Yj 4 (BU c)
def Iu(c:CA):FT:=
 (Xb (fA (kN 3 (Mm c)) (Zc (Za 2) (Zc (Za 0) (Zc (Za 3) Zi)))))
def J1(c:CA):FE:=
 (Za 1)
def Gc(c:CA):FS:=
 (Yc (XE ZQ 2 [0,1] (λsl=>bnd ((Zn c.Board "roll" 1 (ZM c) (f1 (ZI c.Orders "board") (Za 0)) Zi) sl) ZE) (Iu c) (J1 c)))
def Ue(c:CA):iI->Mw Wv:=Yj 2 (Gc c)
def C5(c:CA):FS:=
 (Zr (sIf (fB (f1 VE (Zn c.Orders "goal_of" 2 (Zo c) (Za 0) (Zc (Za 1) Zi)))) (Yc (fC (.int 0))) Yy)
  (Yc (f2 WJ (fC (.int 1)) (fA XW (Zc (fA (kN 2 (Ue c)) (Zc (Za 0) (Zc (Za 1) Zi))) Zi)))))
def Mq(c:CA):iI->Mw Wv:=Yj 2 (C5 c)
def Rv(c:CA):FT:=
 (fB (f2 kNe (Za 0) (Za 1)))
def RZ(c:CA):FE:=
 (Za 0)
def Qy(c:CA):FS:=
 (Zr (sIf (fB (f1 VE (Zn c.Orders "goal_of" 2 (Zo c) (Za 0) (Zc (Za 1) Zi)))) (Yc (fC (.int 0))) Yy)
  (Yc (f2 WJ (fC (.int 1)) (fA XW (Zc (Z8 ZQ [2] (λsl=>bnd ((fA (kN 2 (Ue c)) (Zc (Za 0) (Zc (Za 1) Zi))) sl) ZE) (Rv c) (RZ c)) Zi)))))
def WS(c:CA):iI->Mw Wv:=Yj 3 (Qy c)
def J2(c:CA):FS:=
 (Zr (sIf (fB (f1 UZ (Zn c.Orders "goal_of" 2 (Zo c) (Za 0) (Zc (Za 1) Zi)))) (Yc (fC (.int 1))) Yy)
  (Yc (f2 WJ (fC (.int 1)) (fA XW (Zc (fA (kN 2 (Ue c)) (Zc (Za 0) (Zc (Za 1) Zi))) Zi)))))
def UF(c:CA):iI->Mw Wv:=Yj 2 (J2 c)
end
open PySem L2
def Yb{α:Type}{cT:FT}{f:FE}{mk:Wv->Sl}{om:iM}(φ:α->Wv)(p:α->Bool)(g:α->Wv):∀{l:List α},(∀a∈l,cT (mk (φ a)) om=some (.ok (p a),om))->(∀a∈l,p a=true->f (mk (φ a)) om=some (.ok (g a),om))->Xo cT f mk (l.map φ) om=some (.ok ((l.filter p).map g),om)
 |[],_,_=>rfl
 |a::l,h1,h2=>by
  have ih:=Yb φ p g (l:=l) (λb hb=>h1 b (.tail _ hb)) (λb hb=>h2 b (.tail _ hb));have c1:Yn (cT (mk (φ a))) om=some (.ok (p a),om):=by simp[Yn,h1 a (.head _)]
  rw[aU];show bnd (Yn (cT (mk (φ a)))) (Ms (Xo cT f mk (l.map φ)) (f (mk (φ a)))) om=_;rw[Zm c1,cJ];cases hp:p a with
  |false=>exact ih
  |true=>
   have c2:Yn (f (mk (φ a))) om=some (.ok (g a),om):=by simp[Yn,h2 a (.head _) hp]
   show bnd (Yn (f (mk (φ a)))) (λx=>bnd (Xo cT f mk (l.map φ)) λxs=>L2.ret (x::xs)) om=_;rw[Zm c2,Zm ih];rfl
def Sd{α:Type}(b:α->Bool):∀l:List α,V9 (l.map λa=>Wv.bl (b a))=some (l.map b)
 |[]=>rfl
 |a::l=>by
  show(match V9 (l.map λa=>Wv.bl (b a)) with|some bs=>some (b a::bs)|none=>none)=_;rw[Sd b l];rfl
def Fu(c:CA)(off:Nat)(o:Od)(om:iM):V4 c.STAND (odG c off o) (.int 0) om=some (.ok (.str (odN o)),om):=by
 unfold V4;cases o with
 |stand=>rw[show odG c off .stand=.g c.STAND from rfl,EJ];exact ZW (k:=0) rfl rfl
 |move g=>exact ZW (k:=0) rfl rfl
 |help h g=>exact ZW (k:=0) rfl rfl
def A5(c:CA)(off h g:Nat)(om:iM):V4 c.STAND (odG c off (.help h g)) (.int 1) om=some (.ok (.int ((off:Int)+h)),om):=ZW (k:=1) rfl rfl
def B2(c:CA)(off h g:Nat)(om:iM):V4 c.STAND (odG c off (.help h g)) (.int 2) om=some (.ok (.int ((off:Int)+g)),om):=ZW (k:=2) rfl rfl
def S8{fa fb:FE}{sl:Sl}{om om1:iM}(h:fa sl om=some (.ok (.bl false),om1)):Uf fa fb sl om=some (.ok (.bl false),om1):=by simp[Uf,bnd,h,kB,L2.ret]
def QM{fa fb:FE}{sl:Sl}{om:iM}{a b:Bool}(h:fa sl om=some (.ok (.bl a),om))(h2:a=true->fb sl om=some (.ok (.bl b),om)):Uf fa fb sl om=some (.ok (.bl (a&&b)),om):=by
 cases a with
 |false=>exact S8 h
 |true=>exact(Lo h).trans (h2 rfl)
def Pj(off a b:Nat):decide ((off:Int)+a=(off:Int)+b)=decide (a=b):=by
 by_cases h:a=b
 ·rw[bJ h,bJ (by omega)]
 ·rw[aJ h,aJ (by omega)]
def QK(off:Nat)(o:Od)(g:Nat)(om:iM):Wn false (U6 off o) (.int ((off:Int)+g)) om=some (.ok (.bl (decide (o=.move g))),om):=by
 cases o with
 |stand=>simp[U6,Wn,Xd,VG,Wp,PyData.canLay0,PyData.depth,PyData.eqv]
 |help a b=>simp[U6,Wn,Xd,VG,Wp,PyData.canLay0,PyData.depth,PyData.eqv]
 |move a=>
  refine(Wi _ _ _).trans ?_;rw[Pj];by_cases h:a=g
  ·subst h;simp
  ·rw[aJ h,aJ (λz=>h (Od.move.inj z))]
def Q8(off:Nat)(o:Od)(om:iM):VE (U6 off o) om=some (.ok (.bl (!We (some o))),om):=by cases o <;> rfl
section
variable{c:CA}{om:iM}{ho hb hm hu hl hg size off:Nat}{f:hX}{kvs:iK}{gs:Gs}{rows:Mx}{told:iN}
def CN(told:iN)(f:hX)(k:Nat):Bool:=match at' told k with
 |some (.help _ g)=>Iq told f k g
 |_=>false
def JE(W:Wd c om hb hm hu hl size off f kvs)(S:Os c om ho hb hg off gs)(G:Givn rows f told)(t:Tell gs (at' told)){k:Nat}{o:Od}(h:at' told k=some o):YK c [.o ho,.int ((off:Int)+k)] om=some (.ok (odG c off o),om):=by
 have hs:=G.same k;rw[h]at hs;obtain⟨s,e⟩:=aV.mp hs.symm;rw[D8 W S e,t.get k o h]
def MH(S:Os c om ho hb hg off gs)(t:Tell gs (at' told)){k:Nat}{o:Od}(h:at' told k=some o):Zo c [.o ho,.int ((off:Int)+k)] om=some (.ok (U6 off o),om):=by
 rw[D6 S k,t.get k o h]
def KB(W:Wd c om hb hm hu hl size off f kvs)(S:Os c om ho hb hg off gs)(G:Givn rows f told)(t:Tell gs (at' told)):ZZ c [.o ho] om=some (.ok (.lst (((List.range f.length).filter λk=>We (at' told k)).map λ(k:Nat)=>Wv.int ((off:Int)+k))),om):=by
 have h1:=t.len G.same.lt;have h2:=W.fit;have h3:=W.few;rw[(GS (n:=f.length) S t G.same.lt (by omega)).1];unfold WB;rw[aY];rfl
def BJ(G:Givn rows f told)(k g:Nat):(((List.range f.length).filter λm=>We (at' told m)).filter λm=>decide (at' told m=some (.move k))&&!decide (at' f m=at' f k)).any (λm=>!decide (m=g))=Iq told f k g:=by
 unfold Iq;rw[G.len];refine eO.mpr ?_;rw[dS,dS];constructor
 ·rintro⟨m,hm,h⟩
  obtain⟨kZ,jH⟩:=aL.mp hm;obtain⟨nZ,_⟩:=aL.mp kZ;obtain⟨a,b⟩:=bH.mp jH;exact⟨m,nZ,by rw[a,h,b];rfl⟩
 ·rintro⟨m,hm,h⟩
  obtain⟨a,h2⟩:=bH.mp h;obtain⟨b,d⟩:=bH.mp h2;refine⟨m,aL.mpr ⟨aL.mpr ⟨hm,?_⟩,by rw[a,d];rfl⟩,b⟩;rw[bD a];rfl
def G7(W:Wd c om hb hm hu hl size off f kvs)(S:Os c om ho hb hg off gs)(G:Givn rows f told)(t:Tell gs (at' told)){k:Nat}{o:Od}(h:at' told k=some o):Oe c [.o ho,.int ((off:Int)+k)] om=some (.ok (.bl (CN told f k)),om):=by
 have iw:=ZS;have hk:k<f.length:=G.same.lt k o h;have h2:=W.fit;have h3:=W.few
 have e1:ZC 2 (Zn c.Orders "told" 2 (YK c) (Za 0) (Zc (Za 1) Zi)) [some (.o ho),some (.int ((off:Int)+k)),none,none,none] om=some (.ok (.nx,[some (.o ho),some (.int ((off:Int)+k)),some (odG c off o),none,none]),om):=
  Zv (i:=2) ((Zy (Zb rfl) (Zz S.o) (Ye _ _ _ (by decide) (by decide)) (Ze (Zb rfl) Zk) rfl).trans (JE W S G t h))
 have t1:fB (f2 kNe (f2 (V4 c.STAND) (Za 2) (fC (.int 0))) (fC (.str "help"))) [some (.o ho),some (.int ((off:Int)+k)),some (odG c off o),none,none] om=some (.ok (!decide (odN o="help")),om):=ZO ((Zt ((Zt (Zb rfl) Zs).trans (Fu c off o _)) Zs).trans (ne_str _ _ (NI o) QV _));unfold CN;rw[h]
 match o,h with
 |.stand,h=>exact ZH ((Zh e1).trans (YJ ((YC t1).trans (Zu Zs))))
 |.move g,h=>exact ZH ((Zh e1).trans (YJ ((YC t1).trans (Zu Zs))))
 |.help q g,h=>
  have e3:ZC 3 (Zn c.Board "side_at" 2 (Zw c) (f1 (ZI c.Orders "board") (Za 0)) (Zc (Za 1) Zi)) [some (.o ho),some (.int ((off:Int)+k)),some (odG c off (.help q g)),none,none] om=some (.ok (.nx,[some (.o ho),some (.int ((off:Int)+k)),some (odG c off (.help q g)),some (ZJ (at' f k)),none]),om):=
   Zv (i:=3) ((Zy (X6 S rfl) (Zz W.b) (Yh _ _ _ (by decide) (by decide)) (Ze (Zb rfl) Zk) rfl).trans (Ox W hk))
  generalize hA:((List.range f.length).filter λm=>We (at' told m))=A
  have hAm:∀m∈A,m<f.length∧∃g',at' told m=some (.move g'):=λm hm=>by
   rw[← hA]at hm;obtain⟨a,b⟩:=aL.mp hm;refine⟨bO.mp a,?_⟩
   match e:at' told m,b with
   |some (.move g'),_=>exact⟨g',rfl⟩
  have hAl:A.length<=f.length:=by rw[← hA];exact bF (aF _ _) (by simp)
  have mv:=KB W S G t;rw[hA]at mv;generalize hp:(λm=>decide (at' told m=some (.move k))&&!decide (at' f m=at' f k))=p
  have e4:ZC 4 (Z8 ZQ [0,1,3] (λsl=>bnd ((Zn c.Orders "movers" 1 (ZZ c) (Za 0) Zi) sl) ZE) (Nw c) (NE c)) [some (.o ho),some (.int ((off:Int)+k)),some (odG c off (.help q g)),some (ZJ (at' f k)),none] om=some (.ok (.nx,[some (.o ho),some (.int ((off:Int)+k)),some (odG c off (.help q g)),some (ZJ (at' f k)),some (.lst ((A.filter p).map λ(m:Nat)=>Wv.int ((off:Int)+m)))]),om):=by
   refine Zv (i:=4) ((Xv (ws:=A.map λ(m:Nat)=>Wv.int ((off:Int)+m)) (om1:=om) ((Zm ((Zy (Zb rfl) (Zz S.o) (Ye _ _ _ (by decide) (by decide)) Zk rfl).trans mv)).trans rfl) (by rw[aA];omega) (Yb (λ(m:Nat)=>Wv.int ((off:Int)+m)) p (λ(m:Nat)=>Wv.int ((off:Int)+m)) (λm hm=>?_) (λm hm _=>Zb rfl))).trans ?_)
   ·obtain⟨kZ,g',jH⟩:=hAm m hm
    rw[← hp];refine Uy (ZO ((Zt ((Zy (Zb rfl) (Zz S.o) (Ye _ _ _ (by decide) (by decide)) (Ze (Zb rfl) Zk) rfl).trans (MH S t jH)) (Zb rfl)).trans ((QK _ _ _ _).trans ?_))) λ_=>?_
    ·rw[jH]
     simp
    ·exact ZO ((Zt ((Zy (X6 S rfl) (Zz W.b) (Yh _ _ _ (by decide) (by decide)) (Ze (Zb rfl) Zk) rfl).trans (Ox W kZ)) (Zb rfl)).trans (KD _ _ _))
   ·unfold ZQ
    have:=aF p A;rw[aC (by rw[aA];omega)];rfl
  have hfl:=aF p A
  have e5:fA Ba (Zc (Z8 ZQ [2] (λsl=>bnd ((Za 4) sl) ZE) Xg (RX c)) Zi) [some (.o ho),some (.int ((off:Int)+k)),some (odG c off (.help q g)),some (ZJ (at' f k)),some (.lst ((A.filter p).map λ(m:Nat)=>Wv.int ((off:Int)+m)))] om=some (.ok (.bl (Iq told f k g)),om):=by
   have c1:Z8 ZQ [2] (λsl=>bnd ((Za 4) sl) ZE) Xg (RX c) [some (.o ho),some (.int ((off:Int)+k)),some (odG c off (.help q g)),some (ZJ (at' f k)),some (.lst ((A.filter p).map λ(m:Nat)=>Wv.int ((off:Int)+m)))] om=some (.ok (.lst ((A.filter p).map λm=>Wv.bl (!decide (m=g)))),om):=by
    refine(Xv (ws:=(A.filter p).map λ(m:Nat)=>Wv.int ((off:Int)+m)) (om1:=om) ((Zm (a:=.lst ((A.filter p).map λ(m:Nat)=>Wv.int ((off:Int)+m))) (om1:=om) (Zb rfl)).trans rfl) (by rw[aA];omega) (Yb (λ(m:Nat)=>Wv.int ((off:Int)+m)) (λ_=>true) (λm=>Wv.bl (!decide (m=g))) (λm hm=>rfl) (λm hm _=>?_))).trans ?_
    ·refine((Zt (Zb rfl) ((Zt (Zb rfl) Zs).trans (B2 c off q g _))).trans (Vk _ _ _)).trans ?_
     rw[Pj]
    ·rw[bS.mpr (λ_ _=>rfl)]
     unfold ZQ;rw[aC (by rw[aA];omega)];rfl
   refine(ZB (Ze c1 Zk)).trans ?_;show(match V9 ((A.filter p).map λm=>Wv.bl (!decide (m=g))) with|some bs=>some (Except.ok (Wv.bl (bs.any id)),om)|none=>none)=_;rw[Sd];show some (Except.ok (Wv.bl (((A.filter p).map λm=>!decide (m=g)).any id)),om)=_;rw[List.any_map,← BJ G k g,hA,hp];rfl
  exact ZH ((Zh e1).trans ((Zh (ZP t1)).trans ((Zh e3).trans ((Zh e4).trans (Zu e5)))))
def By(S:Os c om ho hb hg off gs)(t:Tell gs (at' told)){h g:Nat}{o:Od}(e:at' told h=some o):Jw c [.o ho,.int ((off:Int)+h),.int ((off:Int)+g)] om=some (.ok (.bl (if h=g then !We (at' told h) else decide (at' told h=some (.move g)))),om):=by
 have t1:fB (f2 kEq (Za 2) (Za 1)) [some (.o ho),some (.int ((off:Int)+h)),some (.int ((off:Int)+g))] om=some (.ok (decide (g=h)),om):=ZO ((v2 rfl rfl).trans ((Wi _ _ _).trans (by rw[Pj])));have gl:Zn c.Orders "goal_of" 2 (Zo c) (Za 0) (Zc (Za 1) Zi) [some (.o ho),some (.int ((off:Int)+h)),some (.int ((off:Int)+g))] om=some (.ok (U6 off o),om):=(Zy (Zb rfl) (Zz S.o) (Ye _ _ _ (by decide) (by decide)) (Ze (Zb rfl) Zk) rfl).trans (MH S t e);rw[e];by_cases hq:h=g
 ·rw[bJ hq.symm]at t1
  rw[aC hq];exact ZH (YJ ((YC t1).trans (Zu ((Wl gl).trans (Q8 _ _ _)))))
 ·rw[aJ (cF hq)]at t1
  rw[aE hq];refine ZH ((Zh (ZP t1)).trans (Zu ((Zt gl (Zb rfl)).trans ((QK _ _ _ _).trans ?_))));simp
def Gb(W:Wd c om hb hm hu hl size off f kvs)(S:Os c om ho hb hg off gs)(G:Givn rows f told)(t:Tell gs (at' told)){k:Nat}{o:Od}(h:at' told k=some o):PH c [.o ho,.int ((off:Int)+k)] om=some (.ok (.bl (WG told f k)),om):=by
 have e1:ZC 2 (Zn c.Orders "told" 2 (YK c) (Za 0) (Zc (Za 1) Zi)) [some (.o ho),some (.int ((off:Int)+k)),none] om=some (.ok (.nx,[some (.o ho),some (.int ((off:Int)+k)),some (odG c off o)]),om):=
  Zv (i:=2) ((Zy (Zb rfl) (Zz S.o) (Ye _ _ _ (by decide) (by decide)) (Ze (Zb rfl) Zk) rfl).trans (JE W S G t h))
 have t1:f2 kEq (f2 (V4 c.STAND) (Za 2) (fC (.int 0))) (fC (.str "help")) [some (.o ho),some (.int ((off:Int)+k)),some (odG c off o)] om=some (.ok (.bl (decide (odN o="help"))),om):=(Zt ((Zt (Zb rfl) Zs).trans (Fu c off o _)) Zs).trans (P4 _ _ (NI o) QV _);refine ZH ((Zh e1).trans (Zu ?_)) (sl1:=[some (.o ho),some (.int ((off:Int)+k)),some (odG c off o)]);unfold WG;rw[h]
 match o,h with
 |.stand,h=>exact S8 t1
 |.move g,h=>exact S8 t1
 |.help q g,h=>
  have hq:=(G.okT.hl k q g h);obtain⟨o2,e2⟩:=aV.mp ((G.same q).trans hq.2.2.2.2);have ic:=G7 W S G t h;have ei:CN told f k=Iq told f k g:=by unfold CN;rw[h]
  rw[ei]at ic;refine((Lo t1).trans (QM (a:=if q=g then !We (at' told q) else decide (at' told q=some (.move g))) (b:=!Iq told f k g) ((ZB (Ze (Zb rfl) (Ze ((Zt (Zb rfl) Zs).trans (A5 c off q g _)) (Ze ((Zt (Zb rfl) Zs).trans (B2 c off q g _)) Zk)))).trans ((YD rfl).trans (By S t e2))) λ_=>?_)).trans ?_
  ·refine(Wl ((ZB (Ze (Zb rfl) (Ze (Zb rfl) Zk))).trans ((YD rfl).trans ic))).trans ?_
   rfl
  ·rw[Bool.and_comm]
end
def VL(told:iN)(f:hX)(h k:Nat):Bool:=match at' told h with
 |some (.help q _)=>decide (q=k)&&WG told f h
 |_=>false
def ZL(f:hX)(n:Nat):iC:=(List.range n).filter λh=>(at' f h).isSome
def F7(off:Nat)(f:hX)(n:Nat):Xi off f n=(ZL f n).map λ(h:Nat)=>((off:Int)+h,(at' f h).getD 0):=by
 unfold Xi ZL;generalize List.range n=l
 induction l with
 |nil=>rfl
 |cons h l ih=>
  rw[cD,cJ];cases hh:at' f h with
  |none=>simpa using ih
  |some s=>
   simp only[eL,gz,if_true,aU,hh,gG];rw[ih]
def Qg{α:Type}(p:α->Bool):∀(l:List α) (a:Int),l.foldl (λa h=>bif p h then a+1 else a) a=a+(l.filter p).length
 |[],a=>by simp
 |h::l,a=>by
  rw[gP,Qg p l,cJ];cases p h with
  |false=>simp
  |true=>simp;omega
section
variable{c:CA}{om:iM}{ho hb hm hu hl hg size off:Nat}{f:hX}{kvs:iK}{gs:Gs}{rows:Mx}{told:iN}
def TM(told:iN)(f:hX)(k:Nat):iC:=(ZL f f.length).filter λh=>VL told f h k
def GH(G:Givn rows f told){h k:Nat}(e:VL told f h k=true):∃s,at' f h=some s:=by
 unfold VL at e;have q:=G.same h
 match kA:at' told h,e with
 |some (.help a b),_=>rw[kA]at q;exact aV.mp q.symm
def LA(G:Givn rows f told)(k:Nat):TM told f k=(List.range f.length).filter λh=>VL told f h k:=by
 unfold TM ZL;rw[d5];refine dy λh _=>?_
 cases e:VL told f h k with
 |false=>simp
 |true=>
  obtain⟨s,hs⟩:=GH G e;rw[hs];rfl
def Hk(h k iP:Nat)(e:at' told k=some (.move iP)):VL told f h k=(decide (at' told h=some (.help k iP))&&WG told f h):=by
 unfold VL WG
 match e2:at' told h with
 |none=>simp
 |some .stand=>simp
 |some (.move g)=>simp
 |some (.help q g)=>
  dsimp only;by_cases hq:q=k
  ·subst hq
   rw[e];by_cases hg:q=g
   ·subst hg
    simp[We]
   ·by_cases hgg:iP=g
    ·subst hgg;simp[hg]
    ·rw[aE hg]
     have:¬ (some (Od.move iP)=some (Od.move g)):=λz=>hgg (by cases z;rfl)
     rw[aJ this];simp
  ·have h1:¬ (some (Od.help q g)=some (Od.help k iP)):=λz=>hq (by cases z;rfl)
   rw[aJ hq,aJ h1]
def Bk(h k:Nat)(e:We (at' told k)=false):VL told f h k=(decide (at' told h=some (.help k k))&&WG told f h):=by
 unfold VL WG
 match e2:at' told h with
 |none=>simp
 |some .stand=>simp
 |some (.move g)=>simp
 |some (.help q g)=>
  dsimp only;by_cases hq:q=k
  ·subst hq
   by_cases hg:q=g
   ·subst hg;simp
   ·rw[aE hg]
    have h2:¬ (at' told q=some (.move g)):=λz=>by rw[z]at e;cases e
    have h1:¬ (some (Od.help q g)=some (Od.help q q)):=λz=>hg (by cases z;rfl)
    rw[aJ h1,aJ h2];simp
  ·have h1:¬ (some (Od.help q g)=some (Od.help k k)):=λz=>hq (by cases z;rfl)
   rw[aJ hq,aJ h1]
def QZ(G:Givn rows f told)(k iP:Nat)(sd:Option Int)(p:Nat->Bool)(hp:∀h,h<f.length->Ce told f k iP sd h=p h):W5 told f k iP sd=1+((List.range f.length).filter p).length:=by
 unfold W5;rw[Qg,G.len]
 congr 3
 exact dy λh hh=>hp h (bO.mp hh)
def Qa(G:Givn rows f told)(lB:∀k s,at' f k=some s->0<=s∧s<=7){k iP:Nat}(hb:∀h,VL told f h k=(decide (at' told h=some (.help k iP))&&WG told f h)):W5 told f k iP (some (-1))=1+(TM told f k).length:=by
 rw[LA G];refine QZ G k iP _ _ λh hh=>?_
 rw[hb h];unfold Ce;cases e:decide (at' told h=some (.help k iP)) with
 |false=>rfl
 |true=>
  have e:=bD e;have q:=G.same h;rw[e]at q;obtain⟨s,hs⟩:=aV.mp q.symm;have:=lB h s hs;rw[hs,aJ (λz=>by cases z;omega)];simp
def LH(G:Givn rows f told){k iP:Nat}(sd:Int)(hb:∀h,VL told f h k=(decide (at' told h=some (.help k iP))&&WG told f h)):W5 told f k iP (some sd)=1+((TM told f k).filter λh=>!decide ((at' f h).getD 0=sd)).length:=by
 rw[LA G,d5];refine QZ G k iP _ _ λh hh=>?_
 rw[hb h];unfold Ce;cases e:decide (at' told h=some (.help k iP)) with
 |false=>simp
 |true=>
  have e:=bD e;have q:=G.same h;rw[e]at q;obtain⟨s,hs⟩:=aV.mp q.symm;rw[hs];by_cases hh:s=sd
  ·subst hh;simp
  ·rw[aJ (λz=>hh (by cases z;rfl))]
   simp[hh]
def Dh(W:Wd c om hb hm hu hl size off f kvs)(S:Os c om ho hb hg off gs)(G:Givn rows f told)(t:Tell gs (at' told)){h k:Nat}{o:Od}(e:at' told h=some o):Mm c [.o ho,.int ((off:Int)+h),.int ((off:Int)+k)] om=some (.ok (.bl (VL told f h k)),om):=by
 have e1:ZC 3 (Zn c.Orders "told" 2 (YK c) (Za 0) (Zc (Za 1) Zi)) [some (.o ho),some (.int ((off:Int)+h)),some (.int ((off:Int)+k)),none] om=some (.ok (.nx,[some (.o ho),some (.int ((off:Int)+h)),some (.int ((off:Int)+k)),some (odG c off o)]),om):=
  Zv (i:=3) ((Zy (Zb rfl) (Zz S.o) (Ye _ _ _ (by decide) (by decide)) (Ze (Zb rfl) Zk) rfl).trans (JE W S G t e))
 have t1:f2 kEq (f2 (V4 c.STAND) (Za 3) (fC (.int 0))) (fC (.str "help")) [some (.o ho),some (.int ((off:Int)+h)),some (.int ((off:Int)+k)),some (odG c off o)] om=some (.ok (.bl (decide (odN o="help"))),om):=(Zt ((Zt (Zb rfl) Zs).trans (Fu c off o _)) Zs).trans (P4 _ _ (NI o) QV _);refine ZH ((Zh e1).trans (Zu ?_)) (sl1:=[some (.o ho),some (.int ((off:Int)+h)),some (.int ((off:Int)+k)),some (odG c off o)]);unfold VL;rw[e]
 match o,e with
 |.stand,e=>exact S8 t1
 |.move g,e=>exact S8 t1
 |.help q g,e=>
  refine(Lo t1).trans (QM (a:=decide (q=k)) ?_ λ_=>(ZB (Ze (Zb rfl) (Ze (Zb rfl) Zk))).trans ((YD rfl).trans (Gb W S G t e)));refine((Zt ((Zt (Zb rfl) Zs).trans (A5 c off q g _)) (Zb rfl)).trans (Wi _ _ _)).trans ?_;rw[Pj]
def JB(W:Wd c om hb hm hu hl size off f kvs):ZM c [.o hb] om=some (.ok (.lst ((ZL f f.length).map λ(h:Nat)=>Wv.tup [.int ((off:Int)+h),.int ((at' f h).getD 0)])),om):=by
 have h1:=W.fit;have h2:=W.few;have h3:=KN off f f.length;obtain⟨us,eu,pu⟩:=W.u;have h4:=pu.length_eq;rw[Lh c W.b eu (by omega),RT ((ZV us).trans (pu.trans (ZV _).symm)) (Uw us) (Uw _),Ig (R6 off f f.length),F7,aY];rfl
def XF(f:hX)(n:Nat):(ZL f n).length<=n:=by
 unfold ZL;exact bF (aF _ _) (by simp)
def Sw(W:Wd c om hb hm hu hl size off f kvs)(S:Os c om ho hb hg off gs)(G:Givn rows f told)(t:Tell gs (at' told))(k:Nat):Ue c [.o ho,.int ((off:Int)+k)] om=some (.ok (.lst ((TM told f k).map λ(h:Nat)=>Wv.int ((at' f h).getD 0))),om):=by
 have iw:=ZS;have h1:=W.fit;have h2:=W.few;have h3:=XF f f.length;have hfl:(TM told f k).length<=(ZL f f.length).length:=aF _ _;refine ZH (Zu ?_);unfold XE;refine(Zm (a:=(ZL f f.length).map λ(h:Nat)=>Wv.tup [.int ((off:Int)+h),.int ((at' f h).getD 0)]) (om1:=om) ((Zm ((Zy (X6 S rfl) (Zz W.b) (Yh _ _ _ (by decide) (by decide)) Zk rfl).trans (JB W))).trans rfl)).trans ?_;refine(Zm (a:=()) (om1:=om) (M6 ?_)).trans ?_
 ·rw[bJ (by rw[aA];omega)]
  simp[Go]
 refine(Zm (Yb (λ(h:Nat)=>Wv.tup [.int ((off:Int)+h),.int ((at' f h).getD 0)]) (λh=>VL told f h k) (λ(h:Nat)=>Wv.int ((at' f h).getD 0)) (λh hh=>?_) (λh hh _=>Zb rfl))).trans ?_
 ·have jV:=(aL.mp hh).2
  obtain⟨o,kA⟩:=aV.mp ((G.same h).trans jV);exact Xy ((ZB (Ze (Zb rfl) (Ze (Zb rfl) (Ze (Zb rfl) Zk)))).trans ((YD rfl).trans (Dh W S G t kA)))
 ·show ZQ ((TM told f k).map λ(h:Nat)=>Wv.int ((at' f h).getD 0)) om=_
  unfold ZQ;rw[aC (by rw[aA];omega)];rfl
def JF{α:Type}{φ:α->Wv}{l:List α}{fe:FE}{sl:Sl}(h:fe sl om=some (.ok (.lst (l.map φ)),om)):f2 WJ (fC (.int 1)) (fA XW (Zc fe Zi)) sl om=some (.ok (.int (1+l.length)),om):=by
 refine(Zt Zs ((ZB (Ze h Zk)).trans (Vr rfl))).trans ?_;rw[aA];rfl
def Sk(told:iN)(f:hX)(k:Nat)(sd:Int):Int:=match at' told k with
 |some (.move g)=>W5 told f k g (some sd)
 |_=>0
def JK(S:Os c om ho hb hg off gs)(t:Tell gs (at' told)){k:Nat}{o:Od}(e:at' told k=some o){sl:Sl}(s0:sl[0]?=some (some (.o ho)))(s1:sl[1]?=some (some (.int ((off:Int)+k)))):Zn c.Orders "goal_of" 2 (Zo c) (Za 0) (Zc (Za 1) Zi) sl om=some (.ok (U6 off o),om):=(Zy (Zb s0) (Zz S.o) (Ye _ _ _ (by decide) (by decide)) (Ze (Zb s1) Zk) rfl).trans (MH S t e)
def FR(W:Wd c om hb hm hu hl size off f kvs)(S:Os c om ho hb hg off gs)(G:Givn rows f told)(t:Tell gs (at' told))(lB:∀k s,at' f k=some s->0<=s∧s<=7){k:Nat}{o:Od}(e:at' told k=some o):Mq c [.o ho,.int ((off:Int)+k)] om=some (.ok (.int (Sk told f k (-1))),om):=by
 have t1:fB (f1 VE (Zn c.Orders "goal_of" 2 (Zo c) (Za 0) (Zc (Za 1) Zi))) [some (.o ho),some (.int ((off:Int)+k))] om=some (.ok (!We (some o)),om):=ZO ((Wl (JK S t e rfl rfl)).trans (Q8 _ _ _));unfold Sk;rw[e]
 match o,e with
 |.stand,e=>exact ZH (YJ ((YC t1).trans (Zu Zs)))
 |.help a b,e=>exact ZH (YJ ((YC t1).trans (Zu Zs)))
 |.move g,e=>
  dsimp only;rw[Qa G lB (λh=>Hk h k g e)];exact ZH ((Zh (ZP t1)).trans (Zu (JF ((ZB (Ze (Zb rfl) (Ze (Zb rfl) Zk))).trans ((YD rfl).trans (Sw W S G t k))))))
def J6(W:Wd c om hb hm hu hl size off f kvs)(S:Os c om ho hb hg off gs)(G:Givn rows f told)(t:Tell gs (at' told)){k:Nat}{o:Od}(e:at' told k=some o)(sd:Int):WS c [.o ho,.int ((off:Int)+k),.int sd] om=some (.ok (.int (Sk told f k sd)),om):=by
 have iw:=ZS;have h1:=W.fit;have h2:=W.few;have h3:=XF f f.length;have hfl:(TM told f k).length<=(ZL f f.length).length:=aF _ _;have t1:fB (f1 VE (Zn c.Orders "goal_of" 2 (Zo c) (Za 0) (Zc (Za 1) Zi))) [some (.o ho),some (.int ((off:Int)+k)),some (.int sd)] om=some (.ok (!We (some o)),om):=ZO ((Wl (JK S t e rfl rfl)).trans (Q8 _ _ _));unfold Sk;rw[e]
 match o,e with
 |.stand,e=>exact ZH (YJ ((YC t1).trans (Zu Zs)))
 |.help a b,e=>exact ZH (YJ ((YC t1).trans (Zu Zs)))
 |.move g,e=>
  dsimp only;rw[LH G sd (λh=>Hk h k g e)];have hfl2:=aF (λh=>!decide ((at' f h).getD 0=sd)) (TM told f k);refine ZH ((Zh (ZP t1)).trans (Zu (JF (φ:=λ(h:Nat)=>Wv.int ((at' f h).getD 0)) ((Xv (ws:=(TM told f k).map λ(h:Nat)=>Wv.int ((at' f h).getD 0)) (om1:=om) ((Zm ((ZB (Ze (Zb rfl) (Ze (Zb rfl) Zk))).trans ((YD rfl).trans (Sw W S G t k)))).trans rfl) (by rw[aA];omega) (Yb (λ(h:Nat)=>Wv.int ((at' f h).getD 0)) (λh=>!decide ((at' f h).getD 0=sd)) (λ(h:Nat)=>Wv.int ((at' f h).getD 0)) (λh hh=>ZO ((v2 rfl rfl).trans (Vk _ _ _))) (λh hh _=>Zb rfl))).trans ?_))));unfold ZQ;rw[aC (by rw[aA];omega)];rfl
def Ko(W:Wd c om hb hm hu hl size off f kvs)(S:Os c om ho hb hg off gs)(G:Givn rows f told)(t:Tell gs (at' told))(lB:∀k s,at' f k=some s->0<=s∧s<=7){k:Nat}{o:Od}(e:at' told k=some o):UF c [.o ho,.int ((off:Int)+k)] om=some (.ok (.int (DO told f k)),om):=by
 have t1:fB (f1 UZ (Zn c.Orders "goal_of" 2 (Zo c) (Za 0) (Zc (Za 1) Zi))) [some (.o ho),some (.int ((off:Int)+k))] om=some (.ok (We (some o)),om):=ZO ((Wl (JK S t e rfl rfl)).trans (K1 _ _ _));unfold DO;rw[e];cases hmv:We (some o) with
 |true=>
  rw[hmv]at t1;exact ZH (YJ ((YC t1).trans (Zu Zs)))
 |false=>
  rw[hmv]at t1;have hmv2:We (at' told k)=false:=by rw[e];exact hmv
  show _=some (Except.ok (Wv.int (W5 told f k k (some (-1)))),om);rw[Qa G lB (λh=>Bk h k hmv2)];exact ZH ((Zh (ZP t1)).trans (Zu (JF ((ZB (Ze (Zb rfl) (Ze (Zb rfl) Zk))).trans ((YD rfl).trans (Sw W S G t k))))))
end
section
variable{c:CA}{om:iM}{ho hb hm hu hl hg size off:Nat}{f:hX}{kvs:iK}{gs:Gs}{rows:Mx}{told:iN}
def Ij(c:CA)(ns:iB){rows:Mx}{f:hX}(L:Lk f.length rows)(hn:f.length<=60)(om:iM){sw:Wv}(hw:Xe om sw=some (f.map ZJ):=by rfl):Wf c [Yu ns,.lst (rows.map Yg),sw] om=some (.ok (.o om.length),om++[.lst ((Vg 10 ns rows f).map odW)]):=by
 have iw:=ZS;refine ZH (Zu ((Xv (ws:=W0 f.length) (om1:=om) (us:=(Vg 10 ns rows f).map odW) (om2:=om) ?_ (by rw[WN];omega) ?_).trans ?_))
 ·have:=Mn (sl:=[some (Yu ns),some (.lst (rows.map Yg)),some sw]) (i:=2) (om:=om) (w:=sw) (xs:=f.map ZJ) rfl hw (by rw[aA];omega)
  rw[aA]at this;exact this
 ·have e:=Us (cT:=Xg) (f:=UT c) (mk:=λw=>Xq [0,1,2] w [some (Yu ns),some (.lst (rows.map Yg)),some sw]) (om:=om) (n:=f.length) (λ_=>true) (λk=>odW (UB (ns.getD (10+k) 0) k rows f)) (λk hk=>rfl) (λk hk _=>(ZB (Ze (Rz c (k:=10+k) rfl ((M0 (Zb rfl)).trans (by simp))) (Ze (Zb rfl) (Ze (Zb rfl) (Ze (Zb rfl) Zk))))).trans ((YD rfl).trans (KJ c _ L hk hn om hw)))
  refine e.trans ?_;rw[bS.mpr (λ_ _=>rfl)];unfold Vg;rw[aY];rfl
 ·unfold Xm
  rw[aC (by rw[aA];simp[Vg];omega)];rfl
def D3{ia:Nat}{tw:Wv}(lk:Lk ia rows)(hf:f.length=ia)(h1:off+ia<=size)(h2:size<=60)(n0:ia<=7)(hs:∀k s,at' f k=some s->0<=s∧s<=7)(G:Givn rows f told)(om:iM)(ht:∀ig,(∀j,j<om.length->ig[j]?=om[j]?)->Xe ig tw=some (told.map odW)){sw:Wv}(hw:∀ig,(∀j,j<om.length->ig[j]?=om[j]?)->Xe ig sw=some (f.map ZJ):=by intro _ _;rfl):∃kvs gs,XJ c [ZF ia off size,.lst (rows.map Yg),sw,tw] om=some (.ok (.o (om.length+4)),om++[Y9 c size (om.length+1),.dt kvs,Yr c om.length (om.length+3),.dk (Zx (Xi off f ia)),YV c (om.length+2) (om.length+5),.dk (Y7 c off gs)])∧NU rows off kvs∧Tell gs (at' told):=by
 have iw:=ZS;obtain⟨kvs,eb,mo,hk⟩:=EH c lk hf h1 n0 hs om hw;have W:=bd_Wd (c:=c) (om:=om) (kvs:=kvs) hf h1 h2;have hl:(Wj c om size kvs (Xi off f ia)).length=om.length+4:=by simp[Wj]
 have S:=new_Os c (Wj c om size kvs (Xi off f ia)) (om.length+2) off;have W2:=W.grow [YV c (om.length+2) ((Wj c om size kvs (Xi off f ia)).length+1),.dk []]
 have s1:ZC 4 (fA (XN c.Orders 2 (XZ c)) (Zc (fA (kN 3 (W6 c)) (Zc (Za 0) (Zc (Za 1) (Zc (Za 2) Zi)))) Zi)) [some (ZF ia off size),some (.lst (rows.map Yg)),some sw,some tw,none,none] om=some (.ok (.nx,[some (ZF ia off size),some (.lst (rows.map Yg)),some sw,some tw,some (.o (Wj c om size kvs (Xi off f ia)).length),none]),Wj c om size kvs (Xi off f ia)++[YV c (om.length+2) ((Wj c om size kvs (Xi off f ia)).length+1),.dk []]):=
  Zv (i:=4) ((ZB (Ze ((ZB (Ze (Zb rfl) (Ze (Zb rfl) (Ze (Zb rfl) Zk)))).trans ((YD rfl).trans eb)) Zk)).trans (Ma c _ _))
 obtain⟨gs,x,el,t⟩:=GU (tw:=tw) (told:=told) (T:=λk=>(at' f k).map λ_=>Od.stand) (B:=T8 c) (i:=5) (sl:=[some (ZF ia off size),some (.lst (rows.map Yg)),some sw,some tw,some (.o (Wj c om size kvs (Xi off f ia)).length),none]) W2 S (by rw[hl];omega) mo G
  (Tell.start0 λk o e=>by
   obtain⟨_,_,rfl⟩:=cQ.mp e;rfl) (λj=>by simp) (λig h=>ht ig λj hj=>by
   rw[h j (by rw[hl];omega),bA (by rw[hl];omega)];unfold Wj;rw[bA hj]) (λk om1 om2 e _=>Z9 ((ZB (Ze (Zb rfl) (Ze ((Zt (Zb rfl) Zs).trans (ZW (k:=1) (v:=.int off) rfl rfl)) (Ze (Zb rfl) (Ze (Zb rfl) Zk))))).trans ((YD rfl).trans e)))
 refine⟨kvs,gs,?_,mo,t⟩;rw[hf]at el;have e4:=YI (sl1:=[]) (fi:=λsl=>bnd ((f2 kIx (Za 0) (fC (.int 0))) sl) YL) (sl:=[some (ZF ia off size),some (.lst (rows.map Yg)),some sw,some tw,some (.o (Wj c om size kvs (Xi off f ia)).length),none]) ((Zm ((Zt (Zb rfl) Zs).trans (ZW (k:=0) (v:=.int ia) rfl rfl))).trans (Wa _ _ (by omega))) el;have r:XJ c [ZF ia off size,.lst (rows.map Yg),sw,tw] om=_:=ZH ((Zh s1).trans ((Zh e4).trans (Zu (Zb (i:=4) rfl))));refine r.trans ?_
 have e:(Wj c om size kvs (Xi off f ia)++[YV c (om.length+2) ((Wj c om size kvs (Xi off f ia)).length+1),.dk []]).set ((Wj c om size kvs (Xi off f ia)).length+1) (.dk (Y7 c off gs))=om++[Y9 c size (om.length+1),.dt kvs,Yr c om.length (om.length+3),.dk (Zx (Xi off f ia)),YV c (om.length+2) (om.length+5),.dk (Y7 c off gs)]:=by
  rw[cp _ _ (by omega),d8,hl];unfold Wj;rw[bP];rfl
 rw[e,hl]
end
end MP
namespace MP
noncomputable section
open PySem L2
def UV(c:CA):FS:=
 (YU (fA (kN 2 (Mq c)) (Zc (Za 0) (Zc (Za 2) Zi))) (Za 1) (Za 2))
def Pd(c:CA):FS:=
 (Zr (ZC 1 (λ_=>newO (.dk [])))
  (Zr (XH (λsl=>bnd ((Zn c.Orders "movers" 1 (ZZ c) (Za 0) Zi) sl) ZE) (tgN 2) (UV c))
  (Yc (Za 1))))
def Wg(c:CA):iI->Mw Wv:=Yj 3 (Pd c)
def TV(c:CA):FT:=
 (VW (fB (f2 kNe (Za 0) (Za 2))) (fB (f2 kEq (Zn c.Orders "goal_of" 2 (Zo c) (Za 1) (Zc (Za 0) Zi)) (Za 3))))
def TY(c:CA):FE:=
 (Za 0)
def T6(c:CA):FE:=
 (f2 kGe (f2 Wb (Za 1) (Za 0)) (f2 Wb (Za 1) (Za 2)))
def Lj(c:CA):FS:=
 (Zr (ZC 3 (Zn c.Orders "goal_of" 2 (Zo c) (Za 0) (Zc (Za 2) Zi)))
  (Zr (ZC 4 (Vo ZQ [0,2,3] (Za 1) (TV c) (TY c)))
  (Yc (fA Ba (Zc (Z8 ZQ [1,2] (λsl=>bnd ((Za 4) sl) ZE) Xg (T6 c)) Zi)))))
def W3(c:CA):iI->Mw Wv:=Yj 5 (Lj c)
def L7(c:CA):FS:=
 (Zr (ZC 4 (Zn c.Board "side_at" 2 (Zw c) (f1 (ZI c.Orders "board") (Za 0)) (Zc (Za 2) Zi)))
  (Yc (Uf (f2 kNe (Za 4) (Zn c.Board "side_at" 2 (Zw c) (f1 (ZI c.Orders "board") (Za 0)) (Zc (Za 1) Zi))) (f2 kGt (fA (kN 3 (WS c)) (Zc (Za 0) (Zc (Za 1) (Zc (Za 4) Zi)))) (Za 3)))))
def WL(c:CA):iI->Mw Wv:=Yj 5 (L7 c)
def Kb(c:CA):FS:=
 (Zr (ZC 3 (Zn c.Orders "goal_of" 2 (Zo c) (Za 0) (Zc (Za 2) Zi)))
  (Zr (sIf (Xb (fA (kN 3 (W3 c)) (Zc (Za 0) (Zc (Za 1) (Zc (Za 2) Zi))))) (Yc (fC (.int 1))) Yy)
  (Zr (sIf (fB (f1 VE (Zn c.Board "side_at" 2 (Zw c) (f1 (ZI c.Orders "board") (Za 0)) (Zc (Za 3) Zi)))) (Yc (fC (.int 0))) Yy)
  (Zr (sIf (fB (f2 kEq (Zn c.Orders "goal_of" 2 (Zo c) (Za 0) (Zc (Za 3) Zi)) (Za 2))) (Yc (Dt (Xb (fA (kN 4 (WL c)) (Zc (Za 0) (Zc (Za 2) (Zc (Za 3) (Zc (f2 Wb (Za 1) (Za 3)) Zi)))))) (fC (.int 0)) (fC (.int 2)))) Yy)
  (Yc (Dt (Xb (fA (kN 4 (WL c)) (Zc (Za 0) (Zc (Za 2) (Zc (Za 3) (Zc (fA (kN 2 (UF c)) (Zc (Za 0) (Zc (Za 3) Zi))) Zi)))))) (fC (.int 0)) (fC (.int 3))))))))
def Tm(c:CA):iI->Mw Wv:=Yj 4 (Kb c)
def V3(c:CA):FS:=
 (YU (fA (kN 3 (Tm c)) (Zc (Za 0) (Zc (Za 1) (Zc (Za 3) Zi)))) (Za 2) (Za 3))
def Lv(c:CA):FS:=
 (Zr (ZC 1 (fA (kN 1 (Wg c)) (Zc (Za 0) Zi)))
  (Zr (ZC 2 (λ_=>newO (.dk [])))
  (Zr (Ix (Za 1) (tgN 3) (V3 c))
  (Yc (Za 2)))))
def W8(c:CA):iI->Mw Wv:=Yj 4 (Lv c)
def BW(c:CA):FS:=
 (Zr (sIf (VW (fB (f2 kEq (f2 Wb (Za 1) (Za 2)) (fC (.int 3)))) (fB (f2 (Tj false) (Zn c.Orders "goal_of" 2 (Zo c) (Za 0) (Zc (Za 2) Zi)) (Za 3)))) (Yc (fC (.int 0))) Yy)
  (Yc (f2 Wb (Za 1) (Za 2))))
def M9(c:CA):iI->Mw Wv:=Yj 4 (BW c)
def Q0(c:CA):FE:=
 (fA YW (Zc (Za 4) (Zc (Za 0) (Zc (fA (kN 4 (M9 c)) (Zc (Za 1) (Zc (Za 2) (Zc (Za 0) (Zc (Za 3) Zi))))) Zi))))
def PQ(c:CA):FT:=
 (fB (f2 kNe (f2 kIx (Za 0) (fC (.int 2))) (fC (.int 0))))
def PR(c:CA):FE:=
 (Za 0)
def Po(c:CA):FT:=
 (fB (f2 kEq (f2 kIx (Za 0) (fC (.int 2))) (fC (.int 0))))
def Oo(c:CA):FE:=
 (f2 kIx (Za 0) (fC (.int 1)))
def Wt(c:CA):FS:=
 (Zr (ZC 5 (Z8 ZQ [0,1,2,4] (λsl=>bnd ((Za 2) sl) ZE) Xg (Q0 c)))
  (Zr (ZC 6 (Z8 ZQ [] (λsl=>bnd ((Za 5) sl) ZE) (PQ c) (PR c)))
  (Zr (sIf (fB (f2 kEq (Za 6) (fA ZQ Zi))) (Yc (Za 3)) Yy)
  (Zr (Z4 (Ci (Za 3) (Za 6)))
  (Zr (ZC 2 (Z8 ZQ [] (λsl=>bnd ((Za 5) sl) ZE) (Po c) (Oo c)))
  (ZC 4 (f2 WJ (Za 4) (fC (.int 1)))))))))
def HS(c:CA):FS:=
 (Zr (ZC 1 (fA (kN 1 (W8 c)) (Zc (Za 0) Zi)))
  (Zr (ZC 2 (Zn c.Orders "movers" 1 (ZZ c) (Za 0) Zi))
  (Zr (ZC 3 (fA Xm Zi))
  (Zr (ZC 4 (fC (.int 1)))
  (V6 (Xb (fC (.bl true))) (Wt c) 100)))))
def Rq(c:CA):iI->Mw Wv:=Yj 7 (HS c)
def UP(c:CA):iI->Mw Wv:=tidyG (Rq c)
def Oq(c:CA):FE:=
 (f2 kIx (Za 0) (fC (.int 1)))
def JT(c:CA):FT:=
 (fB (f2 (Tj true) (Za 0) (Za 1)))
def J5(c:CA):FE:=
 (Za 0)
def Fc(c:CA):FS:=
 (Zr (ZC 1 (Z8 ZQ [] (λsl=>bnd ((fA (kN 1 (UP c)) (Zc (Za 0) Zi)) sl) ZE) Xg (Oq c)))
  (Yc (Z8 ZQ [1] (λsl=>bnd ((Zn c.Orders "movers" 1 (ZZ c) (Za 0) Zi) sl) ZE) (JT c) (J5 c))))
def TB(c:CA):iI->Mw Wv:=Yj 2 (Fc c)
end
open PySem L2
def Yx(off:Nat)(l:iC)(v:Nat->Int):iL:=l.map λ(k:Nat)=>(.inl ((off:Int)+k),.int (v k))
def PM(off:Nat)(l:iC)(v:Nat->Int):(Yx off l v).length=l.length:=by simp[Yx]
def K3{off:Nat}{v:Nat->Int}{k:Nat}:∀{l:iC},k∈l->Ut (Yx off l v) (.inl ((off:Int)+k))=some (.int (v k))
 |[],h=>nomatch h
 |j::l,h=>by
  unfold Ut Yx;rw[aU,cB];dsimp only;rw[ML];by_cases e:j=k
  ·subst e;simp
  ·rw[aJ e]
   rcases aT.mp h with z|z
   ·exact absurd z.symm e
   ·exact K3 z
def F5{off:Nat}{v:Nat->Int}{k:Nat}{l:iC}(h:k ∉ l):WW (Yx off l v) (.inl ((off:Int)+k)) (.int (v k))=Yx off (l++[k]) v:=by
 have e:((Yx off l v).any λkv=>decide (kv.1=(.inl ((off:Int)+k):Key)))=false:=by
  rw[ff];intro p hp;obtain⟨j,hj,rfl⟩:=aO.mp hp;dsimp only;rw[ML];have:j≠k:=λz=>h (z ▸ hj)
  simp[this]
 unfold WW;rw[e,aE aH];unfold Yx;rw[bK];rfl
def Nx(off:Nat)(l:iC)(v:Nat->Int):((Yx off l v).map λp=>Sq p.1)=l.map λ(k:Nat)=>Wv.int ((off:Int)+k):=by
 unfold Yx;rw[aY];rfl
def mvL(told:iN)(f:hX):iC:=(List.range f.length).filter λk=>We (at' told k)
def N2(told:iN)(f:hX):(mvL told f).Nodup:=List.Nodup.sublist bW fu
def WV{told:iN}{f:hX}{k:Nat}:k∈mvL told f ↔ k<f.length∧∃g,at' told k=some (.move g):=by
 unfold mvL;rw[aL,bO];refine and_congr_right λ_=>?_
 match e:at' told k with
 |none=>simp[We]
 |some .stand=>simp[We]
 |some (.move g)=>simp[We]
 |some (.help a b)=>simp[We]
def VS(told:iN)(f:hX):(mvL told f).length<=f.length:=bF (aF _ _) (by simp)
def XX{α:Type}{T:TgW}{S:FS}(φ:α->Wv)(J:List α->Sl->List Ob->Prop):∀(l pre:List α) {sl:Sl} {om:iM},(∀p a q,pre++l=p++a::q->∀sl om,J p sl om->∃sl1 iy om2,T (φ a) sl=some sl1∧S sl1 om=some (.ok (.nx,iy),om2)∧J (p++[a]) iy om2)->J pre sl om->∃iz ig,VF T S (l.map φ) sl om=some (.ok (.nx,iz),ig)∧J (pre++l) iz ig
 |[],pre,sl,om,_,j=>⟨sl,om,rfl,by rw[ce];exact j⟩
 |a::l,pre,sl,om,h,j=>by
  obtain⟨sl1,iy,om2,e1,e2,j2⟩:=h pre a l rfl sl om j;have ee:pre++[a]++l=pre++a::l:=by simp
  obtain⟨iz,ig,e3,j3⟩:=XX φ J l (pre++[a]) (λp b q hq=>h p b q (by rw[← hq,ee])) j2;refine⟨iz,ig,?_,by rw[← ee];exact j3⟩;rw[aU];show(match T (φ a) sl with|none=>WM|some sl1=>bnd (S sl1) (QA λiy=>VF T S (l.map φ) iy)) om=_;rw[e1];dsimp only;rw[Zm e2];exact e3
def Ft{k:iI->Mw Wv}{js:iC}{fd:FE}{cT:FT}{fE:FE}{sl:Sl}{om:iM}{h:Nat}{kvs:iL}{us:iI}(hd:fd sl om=some (.ok (.o h),om))(hx:om[h]?=some (.dz kvs))(hl:kvs.length<=lim)(hc:Xo cT fE (λw=>Xq js w sl) (kvs.map λp=>Sq p.1) om=some (.ok us,om)):Vo k js fd cT fE sl om=k us om:=by
 unfold Vo;rw[Zm hd];refine(Zm (a:=(false,h,kvs.map λp=>Sq p.1)) (om1:=om) (by simp[JV,hx,hl])).trans ?_;rw[Zm hc];exact(Zm (a:=()) (om1:=om) rfl).trans rfl
def Yk{ws:iI}{om:iM}(h:ws.length<=100):ZQ ws om=some (.ok (.lst ws),om):=by
 have:=ZS;unfold ZQ;rw[aC (by omega)];rfl
structure Sit(c:CA)(om:iM)(ho hb hm hu hl hg size off:Nat)(f:hX)(kvs:iK)(gs:Gs)(rows:Mx)(told:iN):Prop where
 W:Wd c om hb hm hu hl size off f kvs
 S:Os c om ho hb hg off gs
 G:Givn rows f told
 t:Tell gs (at' told)
 s7:∀k s,at' f k=some s->0<=s∧s<=7
section
variable{c:CA}{om:iM}{ho hb hm hu hl hg size off:Nat}{f:hX}{kvs:iK}{gs:Gs}{rows:Mx}{told:iN}
def Sit.grow(A:Sit c om ho hb hm hu hl hg size off f kvs gs rows told)(l:iM):Sit c (om++l) ho hb hm hu hl hg size off f kvs gs rows told:=⟨A.W.grow l,A.S.grow l,A.G,A.t,A.s7⟩
def Sit.few(A:Sit c om ho hb hm hu hl hg size off f kvs gs rows told):f.length<=60:=by have:=A.W.fit;have:=A.W.few;omega
def Rm(A:Sit c om ho hb hm hu hl hg size off f kvs gs rows told):ZZ c [.o ho] om=some (.ok (.lst ((mvL told f).map λ(k:Nat)=>Wv.int ((off:Int)+k))),om):=KB A.W A.S A.G A.t
def RF(A:Sit c om ho hb hm hu hl hg size off f kvs gs rows told){k:Nat}{o:Od}(e:at' told k=some o){sl:Sl}{i j:Nat}(s0:sl[i]?=some (some (.o ho)))(s1:sl[j]?=some (some (.int ((off:Int)+k)))):Zn c.Orders "goal_of" 2 (Zo c) (Za i) (Zc (Za j) Zi) sl om=some (.ok (U6 off o),om):=(Zy (Zb s0) (Zz A.S.o) (Ye _ _ _ (by decide) (by decide)) (Ze (Zb s1) Zk) rfl).trans (MH A.S A.t e)
def Js(A:Sit c om ho hb hm hu hl hg size off f kvs gs rows told){k:Nat}(hk:k<f.length){sl:Sl}{i j:Nat}(s0:sl[i]?=some (some (.o ho)))(s1:sl[j]?=some (some (.int ((off:Int)+k)))):Zn c.Board "side_at" 2 (Zw c) (f1 (ZI c.Orders "board") (Za i)) (Zc (Za j) Zi) sl om=some (.ok (ZJ (at' f k)),om):=(Zy (X6 A.S s0) (Zz A.W.b) (Yh _ _ _ (by decide) (by decide)) (Ze (Zb s1) Zk) rfl).trans (Ox A.W hk)
abbrev fN(told:iN)(f:hX)(k:Nat):Int:=Sk told f k (-1)
def NQ{om:iM}{l:iC}{v:Nat->Int}{k:Nat}{sl:Sl}{fv:FE}{i j:Nat}(n:Nat)(om0:iM)(n4:om=om0++[.dk (Yx off l v)])(hn:n=om0.length)(hv:fv sl om=some (.ok (.int (v k)),om))(hi:sl[i]?=some (some (.o n)))(hj:sl[j]?=some (some (.int ((off:Int)+k))))(hk:k ∉ l)(im:l.length<=60):YU fv (Za i) (Za j) sl om=some (.ok (.nx,sl),om0++[.dk (Yx off (l++[k]) v)]):=by
 have iw:=ZS;subst n4 hn;unfold YU;rw[Zm hv,Zm (Zb hi),Zm (Zb hj)];refine(Zm (a:=()) (om1:=om0++[.dk (Yx off (l++[k]) v)]) ?_).trans rfl;have h1:(Yx off l v).length<lim:=by rw[PM];omega
 have h2:(om0++[Ob.dk (Yx off l v)])[om0.length]?=some (.dk (Yx off l v)):=by simp
 have h3:(om0++[Ob.dk (Yx off l v)]).set om0.length (.dk (Yx off (l++[k]) v))=om0++[.dk (Yx off (l++[k]) v)]:=by
  rw[cp _ _ (aM _),eQ];rfl
 simp only[PO,OP,h2,Xa];rw[aC h1,F5 hk,h3]
def Du(A:Sit c om ho hb hm hu hl hg size off f kvs gs rows told):Wg c [.o ho] om=some (.ok (.o om.length),om++[.dk (Yx off (mvL told f) (fN told f))]):=by
 have iw:=ZS;have je:=A.few;have hml:=VS told f;have e1:ZC 1 (λ_=>newO (.dk [])) [some (.o ho),none,none] om=some (.ok (.nx,[some (.o ho),some (.o om.length),none]),om++[.dk []]):=Zv (i:=1) rfl;have A1:=A.grow [.dk []]
 obtain⟨iz,ig,ef,iY,x,rfl⟩:=XX (T:=tgN 2) (S:=UV c) (λ(k:Nat)=>Wv.int ((off:Int)+k)) (λp sl ig=>ig=om++[.dk (Yx off p (fN told f))]∧∃x,sl=[some (.o ho),some (.o om.length),x]) (mvL told f) [] (sl:=[some (.o ho),some (.o om.length),none]) (om:=om++[.dk []]) (λp a q hq sl ig ⟨h1,x,h2⟩=>by
  subst h2;have hq:mvL told f=p++a::q:=hq;have ha:a∈mvL told f:=by rw[hq];simp
  obtain⟨_,g,lQ⟩:=WV.mp ha;have nd:=N2 told f;rw[hq]at nd;have hap:a ∉ p:=λhp=>(cj.mp nd).2.2 a hp a (.head _) rfl
  have iO:p.length<=60:=by
   have:p.length<=(mvL told f).length:=by rw[hq];simp
   omega
  have A2:Sit c ig ho hb hm hu hl hg size off f kvs gs rows told:=by rw[h1];exact A.grow _
  refine⟨[some (.o ho),some (.o om.length),some (.int ((off:Int)+a))],_,_,rfl,NQ (i:=1) (j:=2) (k:=a) om.length om h1 rfl ((ZB (Ze (Zb rfl) (Ze (Zb rfl) Zk))).trans ((YD rfl).trans (FR A2.W A2.S A2.G A2.t A2.s7 lQ))) rfl rfl hap iO,rfl,_,rfl⟩) ⟨rfl,_,rfl⟩
 have e2:=YI (sl1:=[]) (fi:=λsl=>bnd ((Zn c.Orders "movers" 1 (ZZ c) (Za 0) Zi) sl) ZE) (sl:=[some (.o ho),some (.o om.length),none]) ((Zm ((Zy (Zb rfl) (Zz A1.S.o) (Ye _ _ _ (by decide) (by decide)) Zk rfl).trans (Rm A1))).trans rfl) ef;rw[iY]at e2;exact ZH ((Zh e1).trans ((Zh e2).trans (Zu (Zb rfl))))
def Kz(told:iN)(f:hX)(k g:Nat):Bool:=((mvL told f).filter λm=>!decide (m=k)&&decide (at' told m=some (.move g))).any λm=>decide (fN told f k<=fN told f m)
def N1{h:Nat}{l:iC}{v:Nat->Int}(hx:om[h]?=some (.dk (Yx off l v))∨om[h]?=some (.dz (Yx off l v))){k:Nat}(hk:k∈l){sl:Sl}{i j:Nat}(hi:sl[i]?=some (some (.o h)))(hj:sl[j]?=some (some (.int ((off:Int)+k)))):f2 Wb (Za i) (Za j) sl om=some (.ok (.int (v k)),om):=by
 refine(v2 hi hj).trans ?_;have e:=K3 (off:=off) (v:=v) hk;rcases hx with hx|hx
 ·simp only[Wb,Wr,hx,Xa,e]
 ·simp only[Wb,Wr,hx,Xa,e]
def Ip(A:Sit c om ho hb hm hu hl hg size off f kvs gs rows told){hF k g:Nat}(hx:om[hF]?=some (.dz (Yx off (mvL told f) (fN told f))))(e:at' told k=some (.move g))(hk:k<f.length):W3 c [.o ho,.o hF,.int ((off:Int)+k)] om=some (.ok (.bl (Kz told f k g)),om):=by
 have iw:=ZS;have je:=A.few;have hml:=VS told f;have hkm:k∈mvL told f:=WV.mpr ⟨hk,g,e⟩;have e1:ZC 3 (Zn c.Orders "goal_of" 2 (Zo c) (Za 0) (Zc (Za 2) Zi)) [some (.o ho),some (.o hF),some (.int ((off:Int)+k)),none,none] om=some (.ok (.nx,[some (.o ho),some (.o hF),some (.int ((off:Int)+k)),some (.int ((off:Int)+g)),none]),om):=Zv (i:=3) (RF A e rfl rfl);generalize hp:(λm=>!decide (m=k)&&decide (at' told m=some (.move g)))=p;have hfl:=aF p (mvL told f)
 have e2:ZC 4 (Vo ZQ [0,2,3] (Za 1) (TV c) (TY c)) [some (.o ho),some (.o hF),some (.int ((off:Int)+k)),some (.int ((off:Int)+g)),none] om=some (.ok (.nx,[some (.o ho),some (.o hF),some (.int ((off:Int)+k)),some (.int ((off:Int)+g)),some (.lst (((mvL told f).filter p).map λ(m:Nat)=>Wv.int ((off:Int)+m)))]),om):=by
  refine Zv (i:=4) ((Ft (us:=((mvL told f).filter p).map λ(m:Nat)=>Wv.int ((off:Int)+m)) (Zb rfl) hx (by rw[PM];omega) ?_).trans (Yk (by rw[aA];omega)));rw[Nx];refine Yb (λ(m:Nat)=>Wv.int ((off:Int)+m)) p (λ(m:Nat)=>Wv.int ((off:Int)+m)) (λm hm=>?_) (λm hm _=>Zb rfl);obtain⟨kZ,g',jH⟩:=WV.mp hm;rw[← hp];refine Uy (ZO ((v2 rfl rfl).trans ((Vk _ _ _).trans (by rw[Pj])))) λ_=>ZO ((Zt (RF A jH rfl rfl) (Zb rfl)).trans ((QK _ _ _ _).trans ?_))
  rw[jH];simp
 have e3:Z8 ZQ [1,2] (λsl=>bnd ((Za 4) sl) ZE) Xg (T6 c) [some (.o ho),some (.o hF),some (.int ((off:Int)+k)),some (.int ((off:Int)+g)),some (.lst (((mvL told f).filter p).map λ(m:Nat)=>Wv.int ((off:Int)+m)))] om=some (.ok (.lst (((mvL told f).filter p).map λm=>Wv.bl (decide (fN told f k<=fN told f m)))),om):=by
  refine(Xv (ws:=((mvL told f).filter p).map λ(m:Nat)=>Wv.int ((off:Int)+m)) (om1:=om) ((Zm (a:=.lst (((mvL told f).filter p).map λ(m:Nat)=>Wv.int ((off:Int)+m))) (om1:=om) (Zb rfl)).trans rfl) (by rw[aA];omega) (Yb (λ(m:Nat)=>Wv.int ((off:Int)+m)) (λ_=>true) (λm=>Wv.bl (decide (fN told f k<=fN told f m))) (λm hm=>rfl) (λm hm _=>?_))).trans ?_
  ·have hmm:=(aL.mp hm).1
   exact(Zt (N1 (.inr hx) hmm rfl rfl) (N1 (.inr hx) hkm rfl rfl)).trans rfl
  ·rw[bS.mpr (λ_ _=>rfl)]
   exact Yk (by rw[aA];omega)
 refine ZH ((Zh e1).trans ((Zh e2).trans (Zu ((ZB (Ze e3 Zk)).trans ?_))));show(match V9 (((mvL told f).filter p).map λm=>Wv.bl (decide (fN told f k<=fN told f m))) with|some bs=>some (Except.ok (Wv.bl (bs.any id)),om)|none=>none)=_;rw[Sd];show some (Except.ok (Wv.bl ((((mvL told f).filter p).map λm=>decide (fN told f k<=fN told f m)).any id)),om)=_;unfold Kz;rw[List.any_map,hp];rfl
def Og(told:iN)(f:hX)(k g:Nat)(st:Int):Bool:=!decide (at' f g=at' f k)&&decide (st<W5 told f k g (at' f g))
def Cw(A:Sit c om ho hb hm hu hl hg size off f kvs gs rows told){k g:Nat}{s:Int}(e:at' told k=some (.move g))(hk:k<f.length)(mw:at' f g=some s)(st:Int):WL c [.o ho,.int ((off:Int)+k),.int ((off:Int)+g),.int st] om=some (.ok (.bl (Og told f k g st)),om):=by
 have e1:ZC 4 (Zn c.Board "side_at" 2 (Zw c) (f1 (ZI c.Orders "board") (Za 0)) (Zc (Za 2) Zi)) [some (.o ho),some (.int ((off:Int)+k)),some (.int ((off:Int)+g)),some (.int st),none] om=some (.ok (.nx,[some (.o ho),some (.int ((off:Int)+k)),some (.int ((off:Int)+g)),some (.int st),some (.int s)]),om):=by
  have q:=Js A (S5 mw) (sl:=[some (.o ho),some (.int ((off:Int)+k)),some (.int ((off:Int)+g)),some (.int st),none]) (i:=0) (j:=2) rfl rfl;rw[mw]at q;exact Zv (i:=4) q
 refine ZH ((Zh e1).trans (Zu ?_)) (sl1:=[some (.o ho),some (.int ((off:Int)+k)),some (.int ((off:Int)+g)),some (.int st),some (.int s)]);unfold Og;rw[mw];refine QM ((Zt (Zb rfl) (Js A hk rfl rfl)).trans (KD (some s) (at' f k) om)) λ_=>?_
 have ag:=J6 A.W A.S A.G A.t e s;rw[show Sk told f k s=W5 told f k g (some s) by unfold Sk;rw[e]]at ag;exact(Zt ((ZB (Ze (Zb rfl) (Ze (Zb rfl) (Ze (Zb rfl) Zk)))).trans ((YD rfl).trans ag)) (Zb rfl)).trans rfl
def VH(told:iN)(f:hX)(k g:Nat):Int:=
 bif Kz told f k g then 1
 else bif (at' f g).isNone then 0
 else bif decide (at' told g=some (.move k)) then (bif Og told f k g (fN told f g) then 0 else 2)
 else (bif Og told f k g (DO told f g) then 0 else 3)
def ifE_e{cT:FT}{a b:FE}{sl:Sl}{x:Bool}{m n:Int}(h:cT sl om=some (.ok x,om))(ha:a sl om=some (.ok (.int m),om))(hb:b sl om=some (.ok (.int n),om)):Dt cT a b sl om=some (.ok (.int (bif x then m else n)),om):=by
 unfold Dt;rw[Zm h];cases x with
 |true=>rw[aC rfl];exact ha
 |false=>rw[aE aH];exact hb
def Cq(A:Sit c om ho hb hm hu hl hg size off f kvs gs rows told){hF k g:Nat}(hx:om[hF]?=some (.dz (Yx off (mvL told f) (fN told f))))(e:at' told k=some (.move g)):Tm c [.o ho,.o hF,.int ((off:Int)+k)] om=some (.ok (.int (VH told f k g)),om):=by
 have hk:k<f.length:=A.G.same.lt k _ e;have jz:g<f.length:=by have:=(A.G.okT.mv k g e).1;rw[A.G.len]at this;exact this
 have e1:ZC 3 (Zn c.Orders "goal_of" 2 (Zo c) (Za 0) (Zc (Za 2) Zi)) [some (.o ho),some (.o hF),some (.int ((off:Int)+k)),none] om=some (.ok (.nx,[some (.o ho),some (.o hF),some (.int ((off:Int)+k)),some (.int ((off:Int)+g))]),om):=Zv (i:=3) (RF A e rfl rfl);have t1:Xb (fA (kN 3 (W3 c)) (Zc (Za 0) (Zc (Za 1) (Zc (Za 2) Zi)))) [some (.o ho),some (.o hF),some (.int ((off:Int)+k)),some (.int ((off:Int)+g))] om=some (.ok (Kz told f k g),om):=Xy ((ZB (Ze (Zb rfl) (Ze (Zb rfl) (Ze (Zb rfl) Zk)))).trans ((YD rfl).trans (Ip A hx e hk)));have t2:fB (f1 VE (Zn c.Board "side_at" 2 (Zw c) (f1 (ZI c.Orders "board") (Za 0)) (Zc (Za 3) Zi))) [some (.o ho),some (.o hF),some (.int ((off:Int)+k)),some (.int ((off:Int)+g))] om=some (.ok (at' f g).isNone,om):=ZO ((Wl (Js A jz rfl rfl)).trans (Ti _ _));unfold VH;cases h1:Kz told f k g with
 |true=>
  rw[h1]at t1;exact ZH ((Zh e1).trans (YJ ((YC t1).trans (Zu Zs))))
 |false=>
  rw[h1]at t1
  match h2:at' f g with
  |none=>
   rw[h2]at t2;exact ZH ((Zh e1).trans ((Zh (ZP t1)).trans (YJ ((YC t2).trans (Zu Zs)))))
  |some s=>
   rw[h2]at t2;obtain⟨o,mx⟩:=aV.mp ((A.G.same g).trans (by rw[h2];rfl))
   have t3:fB (f2 kEq (Zn c.Orders "goal_of" 2 (Zo c) (Za 0) (Zc (Za 3) Zi)) (Za 2)) [some (.o ho),some (.o hF),some (.int ((off:Int)+k)),some (.int ((off:Int)+g))] om=some (.ok (decide (at' told g=some (.move k))),om):=by
    refine ZO ((Zt (RF A mx rfl rfl) (Zb rfl)).trans ((QK _ _ _ _).trans ?_));rw[mx];simp
   have rest:∀(st:Int) (fe:FE),fe [some (.o ho),some (.o hF),some (.int ((off:Int)+k)),some (.int ((off:Int)+g))] om=some (.ok (.int st),om)->Xb (fA (kN 4 (WL c)) (Zc (Za 0) (Zc (Za 2) (Zc (Za 3) (Zc fe Zi))))) [some (.o ho),some (.o hF),some (.int ((off:Int)+k)),some (.int ((off:Int)+g))] om=some (.ok (Og told f k g st),om):=λst fe he=>Xy ((ZB (Ze (Zb rfl) (Ze (Zb rfl) (Ze (Zb rfl) (Ze he Zk))))).trans ((YD rfl).trans (Cw A e hk h2 st)))
   by_cases h3:at' told g=some (.move k)
   ·rw[bJ h3]at t3 ⊢
    have hgm:g∈mvL told f:=WV.mpr ⟨jz,k,h3⟩;have q:=ifE_e (a:=fC (.int 0)) (b:=fC (.int 2)) (m:=0) (n:=2) (rest _ (f2 Wb (Za 1) (Za 3)) (N1 (i:=1) (j:=3) (.inr hx) hgm rfl rfl)) Zs Zs;exact ZH ((Zh e1).trans ((Zh (ZP t1)).trans ((Zh (ZP t2)).trans (YJ ((YC t3).trans (Zu q))))))
   ·rw[aJ h3]at t3 ⊢
    have q:=ifE_e (a:=fC (.int 0)) (b:=fC (.int 3)) (m:=0) (n:=3) (rest _ (fA (kN 2 (UF c)) (Zc (Za 0) (Zc (Za 3) Zi))) ((ZB (Ze (Zb rfl) (Ze (Zb rfl) Zk))).trans ((YD rfl).trans (Ko A.W A.S A.G A.t A.s7 mx)))) Zs Zs;exact ZH ((Zh e1).trans ((Zh (ZP t1)).trans ((Zh (ZP t2)).trans ((Zh (ZP t3)).trans (Zu q)))))
def hN(told:iN)(f:hX)(k:Nat):Int:=match at' told k with
 |some (.move g)=>VH told f k g
 |_=>0
def Ew(A:Sit c om ho hb hm hu hl hg size off f kvs gs rows told):W8 c [.o ho] om=some (.ok (.o (om.length+1)),om++[.dk (Yx off (mvL told f) (fN told f)),.dk (Yx off (mvL told f) (hN told f))]):=by
 have iw:=ZS;have je:=A.few;have hml:=VS told f;generalize hD:Yx off (mvL told f) (fN told f)=D;have hDl:D.length<=lim:=by rw[← hD,PM];omega
 have e1:ZC 1 (fA (kN 1 (Wg c)) (Zc (Za 0) Zi)) [some (.o ho),none,none,none] om=some (.ok (.nx,[some (.o ho),some (.o om.length),none,none]),om++[.dk D]):=by
  rw[← hD];exact Zv (i:=1) ((ZB (Ze (Zb rfl) Zk)).trans ((YD rfl).trans (Du A)))
 have hl1:(om++[Ob.dk D]).length=om.length+1:=by simp
 have e2:ZC 2 (λ_=>newO (.dk [])) [some (.o ho),some (.o om.length),none,none] (om++[.dk D])=some (.ok (.nx,[some (.o ho),some (.o om.length),some (.o (om.length+1)),none]),om++[.dk D,.dk []]):=by
  refine(Zv (i:=2) (w:=.o (om++[Ob.dk D]).length) (om1:=om++[.dk D]++[.dk []]) rfl).trans ?_;rw[hl1,bP];rfl
 obtain⟨iz,ig,ef,iY,x,rfl⟩:=XX (T:=tgN 3) (S:=V3 c) (λ(k:Nat)=>Wv.int ((off:Int)+k)) (λp sl ig=>ig=om++[.dz D]++[.dk (Yx off p (hN told f))]∧∃x,sl=[some (.o ho),some (.o om.length),some (.o (om.length+1)),x]) (mvL told f) [] (sl:=[some (.o ho),some (.o om.length),some (.o (om.length+1)),none]) (om:=om++[.dz D]++[.dk []]) (λp a q hq sl ig ⟨h1,x,h2⟩=>by
  subst h2;have hq:mvL told f=p++a::q:=hq;have ha:a∈mvL told f:=by rw[hq];simp
  obtain⟨_,g,lQ⟩:=WV.mp ha;have nd:=N2 told f;rw[hq]at nd;have hap:a ∉ p:=λhp=>(cj.mp nd).2.2 a hp a (.head _) rfl
  have iO:p.length<=60:=by
   have:p.length<=(mvL told f).length:=by rw[hq];simp
   omega
  have A2:Sit c ig ho hb hm hu hl hg size off f kvs gs rows told:=by rw[h1,bP];exact A.grow _
  have hx:ig[om.length]?=some (.dz (Yx off (mvL told f) (fN told f))):=by rw[h1,hD];simp
  have hv:=Cq A2 hx lQ;rw[show VH told f a g=hN told f a by unfold hN;rw[lQ]]at hv;exact⟨[some (.o ho),some (.o om.length),some (.o (om.length+1)),some (.int ((off:Int)+a))],_,_,rfl,NQ (i:=2) (j:=3) (k:=a) (om.length+1) (om++[.dz D]) h1 (by simp) ((ZB (Ze (Zb rfl) (Ze (Zb rfl) (Ze (Zb rfl) Zk)))).trans ((YD rfl).trans hv)) rfl rfl hap iO,rfl,_,rfl⟩) ⟨rfl,_,rfl⟩
 have e3:Ix (Za 1) (tgN 3) (V3 c) [some (.o ho),some (.o om.length),some (.o (om.length+1)),none] (om++[.dk D,.dk []])=some (.ok (.nx,[some (.o ho),some (.o om.length),some (.o (om.length+1)),x]),om++[.dk D,.dk (Yx off (mvL told f) (hN told f))]):=by
  unfold Ix;rw[Zm (Zb rfl)];have g0:(om++[Ob.dk D,.dk []])[om.length]?=some (.dk D):=by simp
  have g1:(om++[Ob.dk D,.dk []]).set om.length (.dz D)=om++[.dz D]++[.dk []]:=by
   rw[cp _ _ (aM _),eQ,bP];rfl
  refine(Zm (a:=(true,om.length,D.map λp=>Sq p.1)) (om1:=om++[.dz D]++[.dk []]) (by simp only[JV,g0,aC hDl,g1])).trans ?_;dsimp only;have hk:(D.map λp=>Sq p.1)=(mvL told f).map λ(k:Nat)=>Wv.int ((off:Int)+k):=by rw[← hD,Nx]
  rw[hk];refine(Zm (a:=(.nx,[some (.o ho),some (.o om.length),some (.o (om.length+1)),x])) (om1:=ig) (by unfold Yn;rw[ef])).trans ?_;rw[iY];have g2:(om++[Ob.dz D]++[Ob.dk (Yx off ([]++mvL told f) (hN told f))])[om.length]?=some (.dz D):=by simp
  have g3:(om++[Ob.dz D]++[Ob.dk (Yx off ([]++mvL told f) (hN told f))]).set om.length (.dk D)=om++[.dk D,.dk (Yx off (mvL told f) (hN told f))]:=by
   rw[bP,cp _ _ (aM _),eQ];rfl
  have g4:JU true om.length (om++[Ob.dz D]++[Ob.dk (Yx off ([]++mvL told f) (hN told f))])=some (.ok (),om++[.dk D,.dk (Yx off (mvL told f) (hN told f))]):=by
   unfold JU;rw[aC rfl,g2];dsimp only;rw[g3]
  exact(Zm g4).trans rfl
 exact ZH ((Zh e1).trans ((Zh e2).trans ((Zh e3).trans (Zu (Zb rfl)))))
end
def Jc(off a:Nat):∀l:iC,inV (.int ((off:Int)+a)) (l.map λ(k:Nat)=>V.int ((off:Int)+k))=l.contains a
 |[]=>rfl
 |k::l=>by
  have ih:=Jc off a l;unfold inV at ih ⊢;rw[aU,dc,ih,eU]
  congr 1
  show((off:Int)+k == (off:Int)+a)=(a == k);by_cases h:a=k
  ·subst h;simp
  ·rw[aW.mpr h,aW.mpr (by omega)]
def O7{off a:Nat}{l:iC}{om:iM}{pw:Wv}(hp:Xe om pw=some (l.map λ(k:Nat)=>Wv.int ((off:Int)+k)))(neg:Bool):Tj neg (.int ((off:Int)+a)) pw om=some (.ok (.bl (if neg then !l.contains a else l.contains a)),om):=by
 unfold Tj;rw[hp];dsimp only
 have h1:(UW (.int ((off:Int)+a))&&(l.map λ(k:Nat)=>Wv.int ((off:Int)+k)).all UW)=true:=by
  rw[List.all_map];simp[UW]
 rw[aC h1,aY];have h2:(l.map (toV ∘ λ(k:Nat)=>Wv.int ((off:Int)+k)))=l.map λ(k:Nat)=>V.int ((off:Int)+k):=rfl
 rw[h2];show some (Except.ok (Wv.bl (if neg=true then !inV (.int ((off:Int)+a)) (l.map λ(k:Nat)=>V.int ((off:Int)+k)) else inV (.int ((off:Int)+a)) (l.map λ(k:Nat)=>V.int ((off:Int)+k)))),om)=_;rw[Jc]
section
variable{c:CA}{om:iM}{ho hb hm hu hl hg size off:Nat}{f:hX}{kvs:iK}{gs:Gs}{rows:Mx}{told:iN}
def Yo(told:iN)(f:hX)(ps:iC)(k:Nat):Int:=match at' told k with
 |some (.move g)=>bif decide (VH told f k g=3)&&ps.contains g then 0 else VH told f k g
 |_=>0
def DS(A:Sit c om ho hb hm hu hl hg size off f kvs gs rows told){lR k:Nat}{pw:Wv}{ps:iC}(hx:om[lR]?=some (.dk (Yx off (mvL told f) (hN told f))))(hk:k∈mvL told f)(hp:Xe om pw=some (ps.map λ(k:Nat)=>Wv.int ((off:Int)+k))):M9 c [.o ho,.o lR,.int ((off:Int)+k),pw] om=some (.ok (.int (Yo told f ps k)),om):=by
 obtain⟨oW,g,e⟩:=WV.mp hk;have eh:hN told f k=VH told f k g:=by unfold hN;rw[e]
 have d1:f2 Wb (Za 1) (Za 2) [some (.o ho),some (.o lR),some (.int ((off:Int)+k)),some pw] om=some (.ok (.int (VH told f k g)),om):=by
  rw[← eh];exact N1 (.inl hx) hk rfl rfl
 have t1:VW (fB (f2 kEq (f2 Wb (Za 1) (Za 2)) (fC (.int 3)))) (fB (f2 (Tj false) (Zn c.Orders "goal_of" 2 (Zo c) (Za 0) (Zc (Za 2) Zi)) (Za 3))) [some (.o ho),some (.o lR),some (.int ((off:Int)+k)),some pw] om=some (.ok (decide (VH told f k g=3)&&ps.contains g),om):=
  Uy (ZO ((Zt d1 Zs).trans (Wi _ _ _))) λ_=>ZO ((Zt (RF A e rfl rfl) (Zb rfl)).trans (O7 hp false))
 unfold Yo;rw[e];dsimp only;cases h:(decide (VH told f k g=3)&&ps.contains g) with
 |true=>
  rw[h]at t1;exact ZH (YJ ((YC t1).trans (Zu Zs)))
 |false=>
  rw[h]at t1;exact ZH ((Zh (ZP t1)).trans (Zu d1))
end
def Ht{om:iM}{x y:Wv}{d:PyData}(hx:Xd om x=some d)(hy:Xd om y=some d)(hl:Wp d=true)(neg:Bool):Wn neg x y om=some (.ok (.bl (!neg)),om):=by
 have hc:d.canLay0=true:=(bH.mp hl).1;have he:PyData.eqv d d=true:=PySem.SeqAt.eqv_refl d hc;unfold Wn;rw[hx,hy];dsimp only;rw[hl];cases neg <;> simp[he]
def L9(om:iM):∀ns:iB,pysOf om (ns.map Wv.int)=some (ns.map PyData.int)
 |[]=>rfl
 |n::r=>by
  show(match VG om (.int n),pysOf om (r.map Wv.int) with|some d,some ds=>some (d::ds)|_,_=>none)=_;rw[L9 om r];rfl
def TD(ns:iB):Wp (.list (ns.map PyData.int))=true:=by
 have a:PyData.canLayAll0 (ns.map PyData.int)=true:=by
  induction ns with
  |nil=>rfl
  |cons n r ih=>simp[PyData.canLayAll0,PyData.canLay0,ih]
 have b:PyData.depthAll (ns.map PyData.int)=0:=by
  induction ns with
  |nil=>rfl
  |cons n r ih=>
   have ih:=ih (by simp[PyData.canLayAll0,PyData.canLay0]at a;simpa using a);simp[PyData.depthAll,PyData.depth,ih]
 simp[Wp,PyData.canLay0,PyData.depth,a,b]
def FD(om:iM)(ns:iB):Xd om (.lst (ns.map Wv.int))=some (.list (ns.map PyData.int)):=by
 show(pysOf om (ns.map Wv.int)).map PyData.list=_;rw[L9];rfl
def Ho(om:iM):∀l:hY,pysOf om (l.map prW)=some (l.map λp=>PyData.tuple [.int p.1,.int p.2])
 |[]=>rfl
 |p::r=>by
  show(match VG om (prW p),pysOf om (r.map prW) with|some d,some ds=>some (d::ds)|_,_=>none)=_;rw[Ho om r];rfl
def Kd(l:hY):Wp (.list (l.map λp=>PyData.tuple [.int p.1,.int p.2]))=true:=by
 have a:PyData.canLayAll0 (l.map λp=>PyData.tuple [.int p.1,.int p.2])=true∧PyData.depthAll (l.map λp=>PyData.tuple [.int p.1,.int p.2])<=1:=by
  induction l with
  |nil=>exact⟨rfl,by simp[PyData.depthAll]⟩
  |cons n r ih=>exact⟨by simp[PyData.canLayAll0,PyData.canLay0];exact ih.1,by have:=ih.2;simp[PyData.depthAll,PyData.depth];omega⟩
 have:=a.2;simp[Wp,PyData.canLay0,PyData.depth,a.1];omega
def py_prs(om:iM)(l:hY):Xd om (.lst (l.map prW))=some (.list (l.map λp=>PyData.tuple [.int p.1,.int p.2])):=by
 show(pysOf om (l.map prW)).map PyData.list=_;rw[Ho];rfl
abbrev R3:Type:=Int × Nat × Int
def r3W(off:Nat)(r:R3):Wv:=.tup [.int r.1,.int ((off:Int)+r.2.1),.int r.2.2]
def r3P(off:Nat)(r:R3):PyData:=.tuple [.int r.1,.int ((off:Int)+r.2.1),.int r.2.2]
def DJ(off:Nat)(om:iM):∀l:List R3,pysOf om (l.map (r3W off))=some (l.map (r3P off))
 |[]=>rfl
 |p::r=>by
  show(match VG om (r3W off p),pysOf om (r.map (r3W off)) with|some d,some ds=>some (d::ds)|_,_=>none)=_;rw[DJ off om r];rfl
def He(off:Nat)(l:List R3):Wp (.list (l.map (r3P off)))=true:=by
 have a:PyData.canLayAll0 (l.map (r3P off))=true∧PyData.depthAll (l.map (r3P off))<=1:=by
  induction l with
  |nil=>exact⟨rfl,by simp[PyData.depthAll]⟩
  |cons n r ih=>exact⟨by simp[PyData.canLayAll0,PyData.canLay0,r3P];exact ih.1,by have:=ih.2;simp[PyData.depthAll,PyData.depth,r3P];omega⟩
 have:=a.2;simp[Wp,PyData.canLay0,PyData.depth,a.1];omega
def eq_r3n(off:Nat)(l:List R3)(om:iM):Wn false (.lst (l.map (r3W off))) (.lst []) om=some (.ok (.bl l.isEmpty),om):=by
 have h1:Xd om (.lst (l.map (r3W off)))=some (.list (l.map (r3P off))):=by
  show(pysOf om (l.map (r3W off))).map PyData.list=_;rw[DJ];rfl
 have h2:Xd om (.lst [])=some (.list []):=rfl;have h3:Wp (.list [])=true:=He off [];unfold Wn;rw[h1,h2];dsimp only;rw[He off l,h3];cases l <;> rfl
def fallen(told:iN)(f:hX)(l:iC):iC:=l.filter λk=>!decide (Yo told f l k=0)
def X1(told:iN)(f:hX)(l:iC):iC:=l.filter λk=>decide (Yo told f l k=0)
def Oz(told:iN)(f:hX):Nat->Int->List Nat->List R3
 |0,_,_=>[]
 |n+1,i,l=>((fallen told f l).map λk=>(i,k,Yo told f l k))++Oz told f n (i+1) (X1 told f l)
def Kl{told:iN}{f:hX}{l:iC}(h:fallen told f l=[]):X1 told f l=l:=by
 refine bS.mpr λk hk=>?_
 have:=List.filter_eq_nil_iff.mp h k hk;simpa using this
def Q6{told:iN}{f:hX}{l:iC}(h:fallen told f l=[]):∀(n:Nat) (i:Int),Oz told f n i l=[]
 |0,_=>rfl
 |n+1,i=>by unfold Oz;rw[h,Kl h,Q6 h n];rfl
def RY(told:iN)(f:hX)(l:iC):(fallen told f l).length+(X1 told f l).length=l.length:=by
 unfold fallen X1
 have h:∀(p:Nat->Bool) (l:iC),(l.filter λk=>!p k).length+(l.filter p).length=l.length:=λp l=>by
  induction l with
  |nil=>rfl
  |cons k r ih=>cases h:p k <;> simp[h] <;> omega
 exact h (λk=>decide (Yo told f l k=0)) l
section
variable{c:CA}{om:iM}{ho hb hm hu hl hg size off:Nat}{f:hX}{kvs:iK}{gs:Gs}{rows:Mx}{told:iN}
abbrev pW(off:Nat)(k:Nat):Wv:=Wv.int ((off:Int)+k)
def EO(A:Sit c om ho hb hm hu hl hg size off f kvs gs rows told){hF hS:Nat}(hx:om[hF]?=some (.dk (Yx off (mvL told f) (hN told f)))){l:iC}(kz:∀k∈l,k∈mvL told f)(k4:l.length<=60)(i:Int)(x5 x6:Option Wv):ZC 5 (Z8 ZQ [0,1,2,4] (λsl=>bnd ((Za 2) sl) ZE) Xg (Q0 c)) [some (.o ho),some (.o hF),some (.lst (l.map (pW off))),some (.o hS),some (.int i),x5,x6] om=some (.ok (.nx,[some (.o ho),some (.o hF),some (.lst (l.map (pW off))),some (.o hS),some (.int i),some (.lst (l.map λk=>r3W off (i,k,Yo told f l k))),x6]),om):=by
 have iw:=ZS;refine Zv (i:=5) ((Xv (ws:=l.map (pW off)) (om1:=om) ((Zm (a:=.lst (l.map (pW off))) (om1:=om) (Zb rfl)).trans rfl) (by rw[aA];omega) (Yb (pW off) (λ_=>true) (λk=>r3W off (i,k,Yo told f l k)) (λk hk=>rfl) (λk hk _=>?_))).trans ?_)
 ·refine(ZB (Ze (Zb rfl) (Ze (Zb rfl) (Ze ((ZB (Ze (Zb rfl) (Ze (Zb rfl) (Ze (Zb rfl) (Ze (Zb rfl) Zk))))).trans ((YD rfl).trans (DS A hx (kz k hk) rfl))) Zk)))).trans ?_
  unfold YW;rw[aC (by simp;omega)];rfl
 ·rw[bS.mpr (λ_ _=>rfl)]
  exact Yk (by rw[aA];omega)
def BF{sl:Sl}{off:Nat}{i:Int}{l:iC}{v:Nat->Int}(h5:sl[5]?=some (some (.lst (l.map λk=>r3W off (i,k,v k)))))(k4:l.length<=60):Z8 ZQ [] (λsl=>bnd ((Za 5) sl) ZE) (PQ c) (PR c) sl om=some (.ok (.lst ((l.filter λk=>!decide (v k=0)).map λk=>r3W off (i,k,v k))),om):=by
 have iw:=ZS;have hf:=aF (λk=>!decide (v k=0)) l;exact(Xv (ws:=l.map λk=>r3W off (i,k,v k)) (om1:=om) ((Zm (Zb h5)).trans rfl) (by rw[aA];omega) (Yb (λk=>r3W off (i,k,v k)) (λk=>!decide (v k=0)) (λk=>r3W off (i,k,v k)) (λk hk=>ZO ((Zt ((Zt (Zb rfl) Zs).trans (ZW (k:=2) rfl rfl)) Zs).trans (Vk _ _ _))) (λk hk _=>Zb rfl))).trans (Yk (by rw[aA];omega))
def Ch{sl:Sl}{off:Nat}{i:Int}{l:iC}{v:Nat->Int}(h5:sl[5]?=some (some (.lst (l.map λk=>r3W off (i,k,v k)))))(k4:l.length<=60):Z8 ZQ [] (λsl=>bnd ((Za 5) sl) ZE) (Po c) (Oo c) sl om=some (.ok (.lst ((l.filter λk=>decide (v k=0)).map (pW off))),om):=by
 have iw:=ZS;have hf:=aF (λk=>decide (v k=0)) l;exact(Xv (ws:=l.map λk=>r3W off (i,k,v k)) (om1:=om) ((Zm (Zb h5)).trans rfl) (by rw[aA];omega) (Yb (λk=>r3W off (i,k,v k)) (λk=>decide (v k=0)) (pW off) (λk hk=>ZO ((Zt ((Zt (Zb rfl) Zs).trans (ZW (k:=2) rfl rfl)) Zs).trans (Wi _ _ _))) (λk hk _=>(Zt (Zb rfl) Zs).trans (ZW (k:=1) rfl rfl)))).trans (Yk (by rw[aA];omega))
def DA{om0:iM}{ws us:iI}{sl:Sl}(h3:sl[3]?=some (some (.o om0.length)))(h6:sl[6]?=some (some (.lst us)))(h:ws.length+us.length<=lim):Z4 (Ci (Za 3) (Za 6)) sl (om0++[.lst ws])=some (.ok (.nx,sl),om0++[.lst (ws++us)]):=by
 have e:(om0++[Ob.lst ws])[om0.length]?=some (.lst ws):=by simp
 refine Z9 (w:=.non) ?_;unfold Ci;rw[Zm (Zb h3)];refine(Zm (a:=()) (om1:=om0++[.lst ws]) (by simp[HF,VB,e,L2.ret])).trans ?_;rw[Zm (Zb h6)];simp[kExt,VB,e,h,cp]
def L6{om0:iM}(A:Sit c om0 ho hb hm hu hl hg size off f kvs gs rows told){hF:Nat}(hx:om0[hF]?=some (.dk (Yx off (mvL told f) (hN told f)))):∀(n:Nat) (i:Int) (l:iC) (iu:List R3) (x5 x6:Option Wv),l.length<n->iu.length+l.length<=60->(∀k∈l,k∈mvL told f) -> ∃iz,V6 (Xb (fC (.bl true))) (Wt c) n [some (.o ho),some (.o hF),some (.lst (l.map (pW off))),some (.o om0.length),some (.int i),x5,x6] (om0++[.lst (iu.map (r3W off))])=some (.ok (.rt (.o om0.length),iz),om0++[.lst ((iu++Oz told f n i l).map (r3W off))])
 |0,_,_,_,_,_,h,_,_=>by omega
 |n+1,i,l,iu,x5,x6,h,k4,kz=>by
  have iw:=ZS;have im:=RY told f l;have A1:=A.grow [.lst (iu.map (r3W off))]
  have hx1:(om0++[Ob.lst (iu.map (r3W off))])[hF]?=some (.dk (Yx off (mvL told f) (hN told f))):=by
   have:hF<om0.length:=by
    by_cases h:hF<om0.length
    ·exact h
    ·rw[bR (by omega)]at hx;cases hx
   rw[bA this];exact hx
  have e1:=EO (hS:=om0.length) A1 hx1 kz (by omega) i x5 x6;have e2:=Zv (i:=6) (BF (c:=c) (om:=om0++[.lst (iu.map (r3W off))]) (sl:=[some (.o ho),some (.o hF),some (.lst (l.map (pW off))),some (.o om0.length),some (.int i),some (.lst (l.map λk=>r3W off (i,k,Yo told f l k))),x6]) rfl (by omega));have em:(l.filter λk=>!decide (Yo told f l k=0)).map (λk=>r3W off (i,k,Yo told f l k))=((fallen told f l).map λk=>(i,k,Yo told f l k)).map (r3W off):=by rw[aY];rfl
  rw[em]at e2
  have e3:fB (f2 kEq (Za 6) (fA ZQ Zi)) [some (.o ho),some (.o hF),some (.lst (l.map (pW off))),some (.o om0.length),some (.int i),some (.lst (l.map λk=>r3W off (i,k,Yo told f l k))),some (.lst (((fallen told f l).map λk=>(i,k,Yo told f l k)).map (r3W off)))] (om0++[.lst (iu.map (r3W off))])=some (.ok ((fallen told f l).map λk=>(i,k,Yo told f l k)).isEmpty,om0++[.lst (iu.map (r3W off))]):=
   ZO ((Zt (Zb rfl) ((ZB Zk).trans (Q1 (by simp)))).trans (eq_r3n off _ _))
  show ∃iz,bnd _ (kWh (λiy=>V6 (Xb (fC (.bl true))) (Wt c) n iy) (Wt c) _) _=_
  rw[Zm (Xy (b:=true) Zs)];show ∃iz,bnd (Wt c _) (QA λiy=>V6 (Xb (fC (.bl true))) (Wt c) n iy) _=_
  by_cases hf:fallen told f l=[]
  ·rw[hf]at e2 e3
   refine⟨[some (.o ho),some (.o hF),some (.lst (l.map (pW off))),some (.o om0.length),some (.int i),some (.lst (l.map λk=>r3W off (i,k,Yo told f l k))),some (.lst ((([]:iC).map λk=>(i,k,Yo told f l k)).map (r3W off)))],(Zm ((Zh e1).trans ((Zh e2).trans (YJ ((YC e3).trans (Zu (Zb rfl))))))).trans ?_⟩;rw[Q6 hf,ce];rfl
  ·have jb:(fallen told f l).length≠0:=λz=>hf (gL z)
   have hie:((fallen told f l).map λk=>(i,k,Yo told f l k)).isEmpty=false:=by
    cases hq:fallen told f l with
    |nil=>exact absurd hq hf
    |cons _ _=>rfl
   rw[hie]at e3;have e4:=DA (om0:=om0) (ws:=iu.map (r3W off)) (us:=((fallen told f l).map λk=>(i,k,Yo told f l k)).map (r3W off)) (sl:=[some (.o ho),some (.o hF),some (.lst (l.map (pW off))),some (.o om0.length),some (.int i),some (.lst (l.map λk=>r3W off (i,k,Yo told f l k))),some (.lst (((fallen told f l).map λk=>(i,k,Yo told f l k)).map (r3W off)))]) rfl rfl (by simp only[aA];omega);rw[← bK]at e4;have e5:=Zv (i:=2) (Ch (c:=c) (om:=om0++[.lst ((iu++(fallen told f l).map λk=>(i,k,Yo told f l k)).map (r3W off))]) (sl:=[some (.o ho),some (.o hF),some (.lst (l.map (pW off))),some (.o om0.length),some (.int i),some (.lst (l.map λk=>r3W off (i,k,Yo told f l k))),some (.lst (((fallen told f l).map λk=>(i,k,Yo told f l k)).map (r3W off)))]) rfl (by omega));obtain⟨iz,e7⟩:=L6 A hx n (i+1) (X1 told f l) (iu++(fallen told f l).map λk=>(i,k,Yo told f l k)) (some (.lst (l.map λk=>r3W off (i,k,Yo told f l k)))) (some (.lst (((fallen told f l).map λk=>(i,k,Yo told f l k)).map (r3W off)))) (by omega) (by simp only[aS,aA];omega) (λk hk=>kz k (aL.mp hk).1);refine⟨iz,(Zm ((Zh e1).trans ((Zh e2).trans ((Zh (ZP e3)).trans ((Zh e4).trans ((Zh e5).trans (Zv (i:=4) ((Zt (Zb rfl) Zs).trans rfl)))))))).trans (e7.trans ?_)⟩;rw[bP];rfl
abbrev Xc(told:iN)(f:hX):List R3:=Oz told f 100 1 (mvL told f)
def JA(A:Sit c om ho hb hm hu hl hg size off f kvs gs rows told):Rq c [.o ho] om=some (.ok (.o (om.length+2)),om++[.dk (Yx off (mvL told f) (fN told f)),.dk (Yx off (mvL told f) (hN told f)),.lst ((Xc told f).map (r3W off))]):=by
 have iw:=ZS;have je:=A.few;have hml:=VS told f;have A2:=A.grow [.dk (Yx off (mvL told f) (fN told f)),.dk (Yx off (mvL told f) (hN told f))];have hx:(om++[Ob.dk (Yx off (mvL told f) (fN told f)),.dk (Yx off (mvL told f) (hN told f))])[om.length+1]?=some (.dk (Yx off (mvL told f) (hN told f))):=by simp
 have hi:=Ew A;have hn:(om++[Ob.dk (Yx off (mvL told f) (fN told f)),.dk (Yx off (mvL told f) (hN told f))]).length=om.length+2:=by simp
 have hc:om++[Ob.dk (Yx off (mvL told f) (fN told f)),.dk (Yx off (mvL told f) (hN told f)),.lst ((Xc told f).map (r3W off))]=(om++[Ob.dk (Yx off (mvL told f) (fN told f)),.dk (Yx off (mvL told f) (hN told f))])++[.lst ((Xc told f).map (r3W off))]:=by simp
 rw[hc];generalize om++[Ob.dk (Yx off (mvL told f) (fN told f)),.dk (Yx off (mvL told f) (hN told f))]=om2 at A2 hx hi hn;have e1:ZC 1 (fA (kN 1 (W8 c)) (Zc (Za 0) Zi)) [some (.o ho),none,none,none,none,none,none] om=some (.ok (.nx,[some (.o ho),some (.o (om.length+1)),none,none,none,none,none]),om2):=Zv (i:=1) ((ZB (Ze (Zb rfl) Zk)).trans ((YD rfl).trans hi));have e2:ZC 2 (Zn c.Orders "movers" 1 (ZZ c) (Za 0) Zi) [some (.o ho),some (.o (om.length+1)),none,none,none,none,none] om2=some (.ok (.nx,[some (.o ho),some (.o (om.length+1)),some (.lst ((mvL told f).map (pW off))),none,none,none,none]),om2):=Zv (i:=2) ((Zy (Zb rfl) (Zz A2.S.o) (Ye _ _ _ (by decide) (by decide)) Zk rfl).trans (Rm A2))
 have e3:ZC 3 (fA Xm Zi) [some (.o ho),some (.o (om.length+1)),some (.lst ((mvL told f).map (pW off))),none,none,none,none] om2=some (.ok (.nx,[some (.o ho),some (.o (om.length+1)),some (.lst ((mvL told f).map (pW off))),some (.o om2.length),none,none,none]),om2++[.lst []]):=Zv (i:=3) ((ZB Zk).trans (by
  show Xm [] om2=_;unfold Xm;rw[aC (by simp)];rfl))
 obtain⟨iz,e5⟩:=L6 A2 hx 100 1 (mvL told f) [] none none (by omega) (by simp;omega) (λ_ h=>h);rw[fV]at e5;rw[← hn];exact ZH ((Zh e1).trans ((Zh e2).trans ((Zh e3).trans ((Zh (Zv (i:=4) Zs)).trans e5))))
def sm_r3(off n:Nat):∀l:List R3,smalls n (l.map (r3W off))
 |[]=>trivial
 |_::r=>⟨⟨trivial,trivial,trivial,trivial⟩,sm_r3 off n r⟩
def fz_r3(off n:Nat)(om:iM)(l:List R3):(l.map (r3W off)).map (fzW om n 3)=l.map (r3W off):=by
 rw[aY];rfl
def HL(A:Sit c om ho hb hm hu hl hg size off f kvs gs rows told):UP c [.o ho] om=some (.ok (.lst ((Xc told f).map (r3W off))),om):=by
 refine tidyG_ok (JA A) (.own (by omega) (by simp) (FzWs.of_smalls (sm_r3 _ _ _))) ?_;have e:(om++[Ob.dk (Yx off (mvL told f) (fN told f)),.dk (Yx off (mvL told f) (hN told f)),.lst ((Xc told f).map (r3W off))])[om.length+2]?=some (.lst ((Xc told f).map (r3W off))):=by simp
 generalize om++[Ob.dk (Yx off (mvL told f) (fN told f)),.dk (Yx off (mvL told f) (hN told f)),.lst ((Xc told f).map (r3W off))]=om2 at e;show(if om.length<=om.length+2 then (match om2[om.length+2]? with|some (.lst xs)=>Wv.lst (xs.map (fzW om2 om.length 3))|_=>.o (om.length+2)) else .o (om.length+2))=_;rw[aC (by omega),e];show Wv.lst (((Xc told f).map (r3W off)).map (fzW om2 om.length 3))=_;rw[fz_r3]
def VZ(told:iN)(f:hX):Nat->List Nat->List Nat
 |0,l=>l
 |n+1,l=>VZ told f n (X1 told f l)
def Jh(told:iN)(f:hX):∀(n:Nat) (i:Int) (l:iC),(Oz told f n i l).length<=l.length
 |0,_,_=>by simp[Oz]
 |n+1,i,l=>by
  have:=RY told f l;have:=Jh told f n (i+1) (X1 told f l);unfold Oz;simp only[aS,aA];omega
def IB(told:iN)(f:hX):∀(n:Nat) (i:Int) (l:iC),l.Nodup->VZ told f n l=l.filter λk=>!((Oz told f n i l).map λr=>r.2.1).contains k
 |0,_,l,_=>(bS.mpr λ_ _=>rfl).symm
 |n+1,i,l,nd=>by
  have ih:=IB told f n (i+1) (X1 told f l) (nd.sublist bW);unfold VZ Oz;rw[ih,bK,aY]
  have hm:(fallen told f l).map ((λr:R3=>r.2.1) ∘ λk=>(i,k,Yo told f l k))=fallen told f l:=by
   conv=>rhs;rw[← List.map_id (fallen told f l)]
   rfl
  rw[hm];generalize (Oz told f n (i+1) (X1 told f l)).map (λr=>r.2.1)=R;unfold X1;rw[d5];refine dy λk hk=>?_
  have hc:(fallen told f l++R).contains k=((fallen told f l).contains k || R.contains k):=by
   refine eO.mpr ?_;rw[eN,aX,aX,aX,cZ]
  have hf:(fallen told f l).contains k=!decide (Yo told f l k=0):=by
   refine eO.mpr ?_;rw[aX];unfold fallen;rw[aL];exact⟨λh=>h.2,λh=>⟨hk,h⟩⟩
  rw[hc,hf];cases decide (Yo told f l k=0) <;> cases R.contains k <;> rfl
def Jn(A:Sit c om ho hb hm hu hl hg size off f kvs gs rows told):TB c [.o ho] om=some (.ok (.lst ((VZ told f 100 (mvL told f)).map (pW off))),om):=by
 have iw:=ZS;have je:=A.few;have hml:=VS told f;have j7:(Xc told f).length<=(mvL told f).length:=Jh told f 100 1 (mvL told f)
 have e1:ZC 1 (Z8 ZQ [] (λsl=>bnd ((fA (kN 1 (UP c)) (Zc (Za 0) Zi)) sl) ZE) Xg (Oq c)) [some (.o ho),none] om=some (.ok (.nx,[some (.o ho),some (.lst (((Xc told f).map λr=>r.2.1).map (pW off)))]),om):=by
  refine Zv (i:=1) ((Xv (ws:=(Xc told f).map (r3W off)) (om1:=om) ((Zm ((ZB (Ze (Zb rfl) Zk)).trans ((YD rfl).trans (HL A)))).trans rfl) (by rw[aA];omega) (Yb (r3W off) (λ_=>true) (λr=>pW off r.2.1) (λk hk=>rfl) (λk hk _=>(Zt (Zb rfl) Zs).trans (ZW (k:=1) rfl rfl)))).trans ?_);rw[bS.mpr (λ_ _=>rfl)];have e:(Xc told f).map (λr=>pW off r.2.1)=((Xc told f).map λr=>r.2.1).map (pW off):=by rw[aY];rfl
  rw[e];exact Yk (by simp only[aA];omega)
 rw[IB told f 100 1 (mvL told f) (N2 told f)];have hfl:=aF (λk=>!((Xc told f).map λr=>r.2.1).contains k) (mvL told f);refine ZH ((Zh e1).trans (Zu ((Xv (ws:=(mvL told f).map (pW off)) (om1:=om) ((Zm ((Zy (Zb rfl) (Zz A.S.o) (Ye _ _ _ (by decide) (by decide)) Zk rfl).trans (Rm A))).trans rfl) (by rw[aA];omega) (Yb (pW off) (λk=>!((Xc told f).map λr=>r.2.1).contains k) (pW off) (λk hk=>?_) (λk hk _=>Zb rfl))).trans (Yk (by rw[aA];omega)))));exact ZO ((v2 rfl rfl).trans (O7 (l:=(Xc told f).map λr=>r.2.1) rfl true))
end
end MP
namespace L2
noncomputable section
open PySem PySem.Spec PyProof.Rows
section
variable{X:Cx}{E:XK}{e a b c o:Expr}{es:iE}{f fa fb fc fo:FE}{fs:FA}{pos p2 p p':Pos}
def rCount:V->List V->Hp->VK->Prop:=λx vs H Q=>∃(l:Addr) (ns:iB) (k:Int),x=.ref l∧vs=[.int k]∧Rd H l (.lst (ns.map V.int))∧Q (.int ((ns.count k:Nat):Int)) H
def FL:MtM X "list.count" rCount:=by
 intro gV s σ H x vs v us Q I rx rv h;obtain⟨l,ns,k,rfl,rfl,hB,q⟩:=h;cases rx;obtain⟨u,rfl,ru⟩:=rv.one;obtain⟨t,rfl⟩:=ru;obtain⟨_,ik,n,r,e⟩:=hB.ok I.hok;exact count_list_ints (vs:=ik) ⟨_,e,rfl,n,rfl⟩ (SF rfl r) ⟨.int _,H,I.tok _,⟨_,rfl⟩,q⟩
def kIsF(x:Wv):Mw Unit:=λom=>match x with
 |.lst _=>some (.ok (),om)
 |_=>none
def J9(x y:Wv):Mw Wv:=λom=>match x,y with
 |.lst ws,.int k=>match X3 ws with
  |some ns=>some (.ok (.int ((ns.count k:Nat):Int)),om)
  |none=>none
 |_,_=>none
def Q9(fo f:FE):FE:=λsl=>bnd (fo sl) λx=>bnd (kIsF x) λ_=>bnd (f sl) λy=>J9 x y
def Ez{ip io:Pos}(ho:PE X o (tE E fo))(he:PE X e (tE E f))(iZ:attributeBase o "count" X.env (eval o X.env)=eval o X.env:=by rfl)(je:((backTo io (starEach [e] X.env)).all (λx=>!x.1)&&(backToKw io (keywordEach [] X.env)).all (λx=>x.1.isSome)
     && decide (([e]:iE).length+([]:List Keyword).length+(if ([]:List Keyword).isEmpty then 0 else 1)<30))=true:=by rfl)
    (i4:(ip.endLine == io.line)=true:=by rfl) (hs:starEach [e] X.env=(false,eval e X.env)::starEach [] X.env:=by rfl) (ja:(backTo io (starEach [] X.env)).any (·.1)=false:=by rfl):
    PE X (.Call (.Attribute o "count" ip) [e] [] io) (tE E (Q9 fo f)):=(Di fI PySem.F.slot_list_count PySem.F.type_list_count FL ho (Wz he V8 hs) iZ je i4 hs ja).weak λσ H Q ⟨F,β,om,sl,M,V,R⟩=>by
 refine⟨F,β,om,sl,M,V,R.bind λx om1 F1 H1 ij g1 M1 R1 v rv=>?_⟩;cases rv with
 |@lst a xs ws q rs=>
  have R1:Res E (bnd (f sl) (λy=>J9 (.lst ws) y) om1) F1 H1 ij (PV Q):=R1;refine⟨.inl ⟨rfl,xs,.inl (Rd.same M1.sub q)⟩,F1,ij,om1,sl,M1,V.mono g1.toGr,R1.bind λy jd F3 H3 jq g3 M3 R3 u ru=>?_⟩;cases ru with
  |int k=>
   have R3:Res E (match X3 ws with|some ns=>some (Except.ok (Wv.int ((ns.count k:Nat):Int)),jd)|none=>none) F3 H3 jq (PV Q):=R3
   match hn:X3 ws,R3 with
   |none,R3=>exact R3.elim
   |some ns,R3=>
    have ex:=UM rs hn;subst ex;exact⟨a,ns,k,rfl,rfl,Rd.same M3.sub (Rd.same g3.toGr.same q),(show Res E (some (Except.ok (Wv.int ((ns.count k:Nat):Int)),jd)) F3 H3 jq (PV Q) from R3).now M3 _ (.int _)⟩
  |_=>exact R3.elim
 |_=>exact R1.elim
end
end
end L2
namespace MP
open PySem L2
def NL(told:iN)(f:hX):∀(n:Nat) (l:iC),l.length<n->fallen told f (VZ told f n l)=[]
 |0,_,h=>by omega
 |n+1,l,h=>by
  by_cases hf:fallen told f l=[]
  ·have:∀m,VZ told f m l=l:=λm=>by
    induction m with
    |zero=>rfl
    |succ m ih=>unfold VZ;rw[Kl hf];exact ih
   rw[this];exact hf
  ·have:=RY told f l
   have:(fallen told f l).length≠0:=λz=>hf (gL z)
   exact NL told f n (X1 told f l) (by omega)
def JP(told:iN)(f:hX):∀(n:Nat) (l:iC),(VZ told f n l).Sublist l
 |0,l=>List.Sublist.refl _
 |n+1,l=>(JP told f n (X1 told f l)).trans bW
def mO(m:Nat->Nat):Od->Od
 |.stand=>.stand
 |.move g=>.move (m g)
 |.help h g=>.help (m h) (m g)
structure Mr(n:Nat)(m:Nat->Nat)(told jC:iN)(f f':hX):Prop where
 lt:∀k,k<n->m k<n
 mm:∀k,k<n->m (m k)=k
 lT:told.length=n
 lT':jC.length=n
 lf:f.length=n
 lf':f'.length=n
 t:∀k,k<n->at' jC (m k)=(at' told k).map (mO m)
 s:∀k,k<n->at' f' (m k)=(at' f k).map λs=>7-s
 s7:∀k s,at' f k=some s->0<=s∧s<=7
 mv:∀k g,at' told k=some (.move g)->g<n
 hp:∀k h g,at' told k=some (.help h g)->h<n∧g<n
section
variable{n:Nat}{m:Nat->Nat}{told jC:iN}{f f':hX}(M:Mr n m told jC f f')
include M
end
end MP
namespace L2
open PySem
namespace Tb
def nx(m i:Nat):Nat:=(i * 5+1) % (m+1)
def it(m:Nat):Nat->Nat->Nat
 |0,i=>i
 |k+1,i=>it m k (nx m i)
def orb(m:Nat):Nat->Nat->List Nat
 |0,_=>[]
 |k+1,i=>i::orb m k (nx m i)
def Mh(m:Nat):∀(a b i:Nat),it m (a+b) i=it m b (it m a i)
 |0,b,i=>by rw[d9];rfl
 |a+1,b,i=>by rw[gA];exact Mh m a b (nx m i)
def IJ(m:Nat):∀(k i e:Nat),e∈orb m k i->∃a,a<k∧it m a i=e
 |0,i,e,h=>nomatch h
 |k+1,i,e,h=>by
  rcases aT.mp h with h|h
  ·exact⟨0,en _,h.symm⟩
  ·obtain⟨a,h1,h2⟩:=IJ m k (nx m i) e h
   exact⟨a+1,by omega,h2⟩
def Gm(m:Nat):Prop:=m=7∨m=15∨m=31∨m=63∨m=127
def whl(m:Nat):Bool:=((List.range (m+1)).all λe=>(orb m (m+1) 0).contains e)&&it m (m+1) 0 == 0
def whl_of{m:Nat}(h:Gm m):whl m=true:=by
 rcases h with rfl|rfl|rfl|rfl|rfl <;> decide +kernel
def reach{m i e:Nat}(g:Gm m)(hi:i<=m)(he:e<=m):∃k,k<=m∧it m k i=e:=by
 have w:=whl_of g;unfold whl at w;rw[cf,de]at w;have z:it m (m+1) 0=0:=by simpa using w.2
 have f:∀e,e<=m->∃a,a<m+1∧it m a 0=e:=λe he=>IJ m _ _ _ (by simpa using w.1 e (bO.mpr (by omega)))
 obtain⟨a,ha,rfl⟩:=f i hi;obtain⟨b,hb,rfl⟩:=f e he;by_cases jw:a<=b
 ·exact⟨b-a,by omega,by rw[← Mh,Nat.add_sub_cancel' jw]⟩
 ·refine⟨b+(m+1)-a,by omega,?_⟩
  rw[← Mh,show a+(b+(m+1)-a)=(m+1)+b by omega,Mh,z]
def tr(m:Nat):Nat->Nat × Nat->Nat × Nat
 |0,x=>x
 |k+1,x=>tr m k (SetTable.leap m x.1 x.2)
def ED(m:Nat):∀(a b:Nat) (x:Nat × Nat),tr m (a+b) x=tr m b (tr m a x)
 |0,b,x=>by rw[d9];rfl
 |a+1,b,x=>by rw[gA];exact ED m a b _
def IG(m:Nat):∀(k i:Nat),tr m k (i,0)=(it m k i,0)
 |0,i=>rfl
 |k+1,i=>by
  have e:SetTable.leap m i 0=(nx m i,0):=by simp[SetTable.leap,nx]
  show tr m k (SetTable.leap m i 0)=_;rw[e,IG m k];rfl
def EM(m:Nat):∀(k:Nat) (x:Nat × Nat),(tr m k x).2=x.2 / 32 ^ k
 |0,x=>by simp[tr]
 |k+1,x=>by
  show(tr m k _).2=_;rw[EM m k];show x.2 / 32 / 32 ^ k=_;rw[Nat.div_div_eq_div_mul,Nat.pow_succ,Nat.mul_comm]
def AU(m:Nat):∀(k:Nat) (x:Nat × Nat),x.1<=m->(tr m k x).1<=m
 |0,x,h=>h
 |k+1,x,h=>AU m k _ (d3.mp (eS _ (en m)))
def LO{m i p e:Nat}(g:Gm m)(hi:i<=m)(hp:p<2 ^ 64)(he:e<=m):∃k,k<=m+13∧(tr m k (i,p)).1=e:=by
 have h2:(tr m 13 (i,p)).2=0:=by rw[EM];exact Nat.div_eq_of_lt (bI hp (by decide))
 obtain⟨k,hk,h⟩:=reach g (AU m 13 (i,p) hi) he;refine⟨13+k,by omega,?_⟩;rw[ED,show tr m 13 (i,p)=((tr m 13 (i,p)).1,0) from Prod.ext rfl h2,IG];exact h
def Hb(h:Int):SetTable.bits h<2 ^ 64:=by
 unfold SetTable.bits;have:h % (2 ^ 64:Int)<2 ^ 64:=dG _ (by decide);omega
def Nj{m:Nat}{ow:Array (Option Nat)}:∀(k fuel i p:Nat),k<fuel->(ow.getD (tr m k (i,p)).1 (some 0)).isNone=true->∃j,SetTable.layClean.free m ow fuel i p=some j∧(ow.getD j (some 0)).isNone=true
 |k,0,i,p,h,_=>absurd h (d0 _)
 |k,fuel+1,i,p,h,e=>by
  unfold SetTable.layClean.free;cases hf:(List.range (SetTable.runEnd m i+1-i)).find? λk=>(ow.getD (i+k) (some 0)).isNone with
  |some q=>exact⟨i+q,rfl,gQ (p:=λk=>(ow.getD (i+k) (some 0)).isNone) hf⟩
  |none=>
   cases k with
   |zero=>
    have hr:0∈List.range (SetTable.runEnd m i+1-i):=by
     unfold SetTable.runEnd;rw[bO];split <;> omega
    exact absurd e (eT.mp hf 0 hr)
   |succ k=>exact Nj k fuel _ _ (Nat.lt_of_succ_lt_succ h) e
def Um(m:Nat)(ow:Array (Option Nat)):iC:=(List.range (m+1)).filterMap λj=>ow.getD j none
def Fy{α γ:Type}{f:α->Option γ}:∀{l:List α},(∀x∈l,f x≠none)->(l.filterMap f).length=l.length
 |[],_=>rfl
 |x::l,h=>by
  cases hx:f x with
  |none=>exact absurd hx (h x (.head _))
  |some y=>rw[dZ hx,bG,bG,Fy λy hy=>h y (.tail _ hy)]
def SV{α γ:Type}{f g:α->Option γ}:∀{l:List α},(∀x∈l,f x=g x)->l.filterMap f=l.filterMap g
 |[],_=>rfl
 |x::l,h=>by
  have hx:=h x (.head _);have hl:=SV (l:=l) λy hy=>h y (.tail _ hy)
  cases hg:g x with
  |none=>rw[fm (hx.trans hg),fm hg,hl]
  |some y=>rw[dZ (hx.trans hg),dZ hg,hl]
def Gk{m:Nat}{ow:Array (Option Nat)}(h:(Um m ow).length<m+1):∃e,e<=m∧ow.getD e none=none:=by
 refine eY λn=>?_
 have:=Fy (l:=List.range (m+1)) (f:=λj=>ow.getD j none) λx hx z=>n ⟨x,by have:=bO.mp hx;omega,z⟩
 unfold Um at h;rw[this,cu]at h;exact cP _ h
def EC{m:Nat}{ow:Array (Option Nat)}{j k:Nat}(hs:ow.size=m+1)(hj:j<=m)(hn:ow.getD j none=none):(Um m (ow.setIfInBounds j (some k))).Perm (k::Um m ow):=by
 obtain⟨a,b,jw⟩:=List.append_of_mem (bO.mpr (show j<m+1 by omega));have nd:(a++j::b).Nodup:=jw ▸ fu
 have nd':=cj.mp nd;have ha:j ∉ a:=λh=>nd'.2.2 j h j (.head _) rfl
 have hb:j ∉ b:=(cH.mp nd'.2.1).1
 have oth:∀x,x≠j->(ow.setIfInBounds j (some k)).getD x none=ow.getD x none:=λx hx=>by
  rw[bQ,bQ,Array.getElem?_setIfInBounds_ne (cF hx)]
 have self:(ow.setIfInBounds j (some k)).getD j none=some k:=by
  rw[bQ,Array.getElem?_setIfInBounds_self_of_lt (by omega)];rfl
 unfold Um
 rw[jw,f6,f6,dZ (f:=λj_1=>(ow.setIfInBounds j (some k)).getD j_1 none) self,fm (f:=λj=>ow.getD j none) hn,
  SV (l:=a) (g:=λj=>ow.getD j none) (λx hx=>oth x λz=>ha (z ▸ hx)),SV (l:=b) (g:=λj=>ow.getD j none) (λx hx=>oth x λz=>hb (z ▸ hx))]
 exact List.perm_middle
abbrev layS(m:Nat)(iu:Option (Array (Option Nat) × Nat))(h:Int):Option (Array (Option Nat) × Nat):=do
 let (owner,k) ← iu
 let j ← SetTable.layClean.free m owner (SetTable.turns m) (SetTable.bits h % (m+1)) (SetTable.bits h)
 pure (owner.setIfInBounds j (some k),k+1)
def Hu{m:Nat}(g:Gm m):∀(hs:iB) (ow:Array (Option Nat)) (k:Nat),ow.size=m+1->(Um m ow).Perm (List.range k)->k+hs.length<=m -> ∃lC,hs.foldl (layS m) (some (ow,k))=some (lC,k+hs.length)∧lC.size=m+1∧(Um m lC).Perm (List.range (k+hs.length))
 |[],ow,k,h1,h2,_=>⟨ow,rfl,h1,h2⟩
 |h::hs,ow,k,h1,h2,h3=>by
  have hl:(Um m ow).length=k:=by rw[h2.length_eq,cu]
  obtain⟨e,he,hn⟩:=Gk (m:=m) (ow:=ow) (by rw[hl,bG]at *;omega);obtain⟨q,hq,hz⟩:=LO g (i:=SetTable.bits h % (m+1)) (d3.mp (eS _ (en m))) (Hb h) he
  have gd:∀x,(ow.getD x (some 0)).isNone=true->x<=m∧ow.getD x none=none:=λx hx=>by
   rw[bQ]at hx ⊢;cases ho:ow[x]? with
   |none=>rw[ho]at hx;cases hx
   |some y=>
    rw[ho]at hx;obtain⟨iR,_⟩:=dO.mp ho;refine⟨by omega,?_⟩;cases y with
    |none=>rfl
    |some y=>cases hx
  have lV:(ow.getD e (some 0)).isNone=true:=by
   rw[bQ]at hn ⊢;have iR:e<ow.size:=by omega
   rw[bZ iR]at hn ⊢;simp only[gG]at hn ⊢;rw[hn];rfl
  obtain⟨j,hj,n5⟩:=Nj q (SetTable.turns m) (SetTable.bits h % (m+1)) (SetTable.bits h) (by unfold SetTable.turns;omega) (by rw[hz];exact lV);obtain⟨ly,n6⟩:=gd j n5
  have st:layS m (some (ow,k)) h=some (ow.setIfInBounds j (some k),k+1):=by
   show(SetTable.layClean.free m ow (SetTable.turns m) (SetTable.bits h % (m+1)) (SetTable.bits h) >>= _)=_;rw[hj];rfl
  obtain⟨lC,e1,e2,e3⟩:=Hu g hs (ow.setIfInBounds j (some k)) (k+1) (by rw[Array.size_setIfInBounds,h1]) ((EC h1 ly n6).trans (by
   rw[cY];exact(h2.cons k).trans (List.perm_append_comm (l₁:=[k])))) (by rw[bG]at h3;omega)
  refine⟨lC,?_,e2,?_⟩
  ·rw[gP,st,e1,bG,gA,Nat.add_assoc]
  ·rw[bG,show k+(hs.length+1)=k+1+hs.length by omega];exact e3
def KK{m:Nat}(g:Gm m){hs:Array Int}(h:hs.size<=m):∃ow,SetTable.layClean m hs=some ow∧ow.size=m+1∧(Um m ow).Perm (List.range hs.size):=by
 have h0:Um m (Array.replicate (m+1) none)=[]:=by
  unfold Um;rw[List.filterMap_eq_nil_iff];intro x hx;rw[bQ,Array.getElem?_replicate];split <;> rfl
 obtain⟨ow,e1,e2,e3⟩:=Hu g hs.toList (Array.replicate (m+1) none) 0 (Array.size_replicate) (by rw[h0];exact dB _) (by rw[aQ];omega);refine⟨ow,?_,e2,by rw[d9,aQ]at e3;exact e3⟩;unfold SetTable.layClean;rw[← Array.foldl_toList];show Option.map _ (hs.toList.foldl (layS m) (some (Array.replicate (m+1) none,0)))=_;rw[e1];rfl
structure TG(t:SetTable)(n:Nat):Prop where
 gm:Gm t.mask
 size:t.place.size=n
 dum:t.dummies=#[]
 ris:t.place.toList.Pairwise (· < ·)
 le:∀x∈t.place.toList,x<=t.mask
 room:n * 5<t.mask * 3
 pl:t.plain=true
def Lr{m f mv:Nat}{led:Bool}(g:Gm m){hs:Array Int}(h:hs.size * 5<m * 3):∃t o,SetTable.laid m f mv led true hs=some (t,o)∧o.toList.Perm (List.range hs.size)∧TG t hs.size∧t.mask=m∧t.led=led:=by
 obtain⟨ow,e1,e2,e3⟩:=KK g (hs:=hs) (by omega)
 have e4:((List.range (m+1)).filterMap λj=>(ow.getD j none).map (j,·)).map (·.2)=Um m ow:=by
  unfold Um;rw[List.map_filterMap];exact SV λx _=>by cases ow.getD x none <;> rfl
 have sub:(((List.range (m+1)).filterMap λj=>(ow.getD j none).map (j,·)).map (·.1)).Sublist (List.range (m+1)):=by
  rw[List.map_filterMap];generalize List.range (m+1)=l
  induction l with
  |nil=>exact List.Sublist.refl _
  |cons x l ih=>
   rw[cD];cases ow.getD x none with
   |none=>exact ih.cons x
   |some y=>exact ih.cons₂ x
 have hl:((List.range (m+1)).filterMap λj=>(ow.getD j none).map (j,·)).length=hs.size:=by
  have:=cx List.length e4;rw[aA,e3.length_eq,cu]at this;exact this
 refine⟨_,_,by unfold SetTable.laid;rw[e1];rfl,?_,⟨g,?_,rfl,?_,?_,h,rfl⟩,rfl,rfl⟩
 ·show(List.map _ _).Perm _
  rw[e4];exact e3
 ·show(List.map _ _).length=_
  rw[aA,hl]
 ·exact List.Pairwise.sublist sub fP
 ·intro x hx
  have:=bO.mp (sub.subset hx);exact d3.mp this
end Tb
namespace Tb
def Pb{xs:Array Nat}{j:Nat}(hr:xs.toList.Pairwise (· < ·)):∀(fuel lo hi:Nat),hi<=xs.size->hi-lo<=fuel->lo<=hi->(∀q (h:q<xs.size),q<lo->xs[q]<j)->(∀q (h:q<xs.size),hi<=q->j<=xs[q]) -> (SetTable.below.go xs j fuel lo hi<=xs.size∧(∀q (h:q<xs.size),q<SetTable.below.go xs j fuel lo hi->xs[q]<j)∧∀q (h:q<xs.size),SetTable.below.go xs j fuel lo hi<=q->j<=xs[q])
 |0,lo,hi,h1,h2,h3,a,b=>by
  have:lo=hi:=by omega
  subst this;exact⟨h1,a,b⟩
 |fuel+1,lo,hi,h1,h2,h3,a,b=>by
  have inc:∀p q (hp:p<xs.size) (hq:q<xs.size),p<q->xs[p]<xs[q]:=λp q hp hq n8=>by
   have:=dr.mp hr p q (by simpa using hp) (by simpa using hq) n8;simpa using this
  unfold SetTable.below.go;split
  ·rename_i iR
   dsimp only;have hm:(lo+hi) / 2<xs.size:=by omega
   have e:xs.getD ((lo+hi) / 2) j=xs[(lo+hi) / 2]:=by rw[bQ,bZ hm];rfl
   rw[e];split
   ·rename_i hc
    exact Pb hr fuel _ _ h1 (by omega) (by omega) (λq hq hl=>by
     by_cases z:q=(lo+hi) / 2
     ·subst z;exact hc
     ·exact Nat.lt_trans (inc q _ hq hm (by omega)) hc) b
   ·rename_i hc
    exact Pb hr fuel _ _ (by omega) (by omega) (by omega) a (λq hq hl=>by
     by_cases z:q=(lo+hi) / 2
     ·subst z;omega
     ·have:=inc _ q hm hq (by omega);omega)
  ·have:lo=hi:=by omega
   subst this;exact⟨h1,a,b⟩
def Ki{xs:Array Nat}{j:Nat}(hr:xs.toList.Pairwise (· < ·)):SetTable.below xs j<=xs.size∧(∀q (h:q<xs.size),q<SetTable.below xs j->xs[q]<j)∧∀q (h:q<xs.size),SetTable.below xs j<=q->j<=xs[q]:=
 Pb hr xs.size 0 xs.size (aM _) (by omega) (cz _) (λq _ h=>absurd h (d0 _)) λq h h'=>absurd h (gw.mpr h')
def Hq:∀{l m:iC},l.Nodup->(∀x∈l,x∈m)->l.length<=m.length
 |[],m,_,_=>cz _
 |x::l,m,nd,h=>by
  obtain⟨a,b,rfl⟩:=List.append_of_mem (h x (.head _));have nd':=cH.mp nd
  have:=Hq (l:=l) (m:=a++b) nd'.2 λy hy=>by
   have hm:=h y (.tail _ hy);simp only[cZ,aT]at hm ⊢;rcases hm with z|z|z
   ·exact .inl z
   ·exact absurd (z ▸ hy) nd'.1
   ·exact .inr z
  simp only[aS,bG]at this ⊢;omega
def QO{t:SetTable}(hd:t.dummies=#[])(j:Nat):(t.slot j=.empty∧t.place[SetTable.below t.place j]?≠some j)∨(∃i,t.slot j=.live i)∧j∈t.place.toList:=by
 unfold SetTable.slot;dsimp only;by_cases h:t.place[SetTable.below t.place j]?=some j
 ·refine .inr ⟨⟨_,aC (by rw[h];exact beq_self_eq_true _)⟩,?_⟩
  exact Array.mem_toList_iff.mpr (Array.mem_of_getElem? h)
 ·refine .inl ⟨?_,h⟩
  rw[aE (by simpa using h),aE (by rw[hd];simp[SetTable.has])]
abbrev pgo(t:SetTable)(h:Int):=SetTable.probe.go t (λ_=>h+1) h
def LK{t:SetTable}(hd:t.dummies=#[]){h:Int}:∀(more fuel:Nat) (p:SetTable.Probe),p.more=more->p.dummy=none->more<fuel -> (∃j,pgo t h fuel p=some (.empty j none)∧t.slot j=.empty)∨(t.slot p.j≠.empty∧pgo t h fuel p=pgo t h (fuel-(more+1)) {j:=(SetTable.leap t.mask p.i p.perturb).1,more:=SetTable.runEnd t.mask (SetTable.leap t.mask p.i p.perturb).1-(SetTable.leap t.mask p.i p.perturb).1,i:=(SetTable.leap t.mask p.i p.perturb).1,perturb:=(SetTable.leap t.mask p.i p.perturb).2,dummy:=none})
 |more,0,p,_,_,h=>absurd h (d0 _)
 |more,fuel+1,p,hm,hn,hf=>by
  have jb:((h+1) == h)=false:=aW.mpr (by omega);rcases QO hd p.j with ⟨he,_⟩|⟨⟨i,he⟩,_⟩
  ·refine .inl ⟨p.j,?_,he⟩
   show SetTable.probe.go t (λ_=>h+1) h (fuel+1) p=_;unfold SetTable.probe.go;rw[he,hn]
  ·have st:pgo t h (fuel+1) p=pgo t h fuel (t.advance p):=by
    show SetTable.probe.go t (λ_=>h+1) h (fuel+1) p=SetTable.probe.go t (λ_=>h+1) h fuel (t.advance p)
    conv=>lhs;unfold SetTable.probe.go
    rw[he];show(if ((h+1) == h)=true then _ else SetTable.probe.go t (λ_=>h+1) h fuel (t.advance p))=_;rw[jb];rfl
   have nz:t.slot p.j≠.empty:=by rw[he];exact λz=>nomatch z
   cases more with
   |zero=>
    refine .inr ⟨nz,st.trans ?_⟩;unfold SetTable.advance;rw[aE (by omega),hn];rfl
   |succ more=>
    have ad:t.advance p={p with j:=p.j+1,more:=p.more-1}:=by unfold SetTable.advance;rw[aC (by omega)]
    rcases LK hd more fuel (t.advance p) (by rw[ad];show p.more-1=more;omega) (by rw[ad];exact hn) (by omega) with ⟨j,e1,e2⟩|⟨_,e⟩
    ·exact .inl ⟨j,st.trans e1,e2⟩
    ·refine .inr ⟨nz,st.trans (e.trans ?_)⟩
     rw[ad,show fuel+1-(more+1+1)=fuel-(more+1) by omega]
def pst(m i q:Nat):SetTable.Probe:={j:=i,more:=SetTable.runEnd m i-i,i:=i,perturb:=q,dummy:=none}
def Pn{t:SetTable}(hd:t.dummies=#[]){h:Int}:∀(k fuel i q:Nat),10 * k<fuel->10 * k+10<=fuel->t.slot (tr t.mask k (i,q)).1=.empty->∃j,pgo t h fuel (pst t.mask i q)=some (.empty j none)∧t.slot j=.empty
 |k,fuel,i,q,h1,h2,e=>by
  have hm:(pst t.mask i q).more<=9:=by
   show SetTable.runEnd t.mask i-i<=9;unfold SetTable.runEnd;split <;> omega
  rcases LK hd (h:=h) (pst t.mask i q).more fuel (pst t.mask i q) rfl rfl (by omega) with z|⟨nz,z⟩
  ·exact z
  ·cases k with
   |zero=>exact absurd e nz
   |succ k=>
    obtain⟨j,e1,e2⟩:=Pn hd (h:=h) k (fuel-((pst t.mask i q).more+1)) (SetTable.leap t.mask i q).1 (SetTable.leap t.mask i q).2 (by omega) (by omega) e;exact⟨j,z.trans e1,e2⟩
def Bb{t:SetTable}{n:Nat}(T:TG t n)(h:Int):∃j,t.freeSlot h=some (j,false)∧t.place[SetTable.below t.place j]?≠some j∧t.slot j=.empty:=by
 have:∃e,e<=t.mask∧e ∉ t.place.toList:=by
  refine eY λz=>?_
  have:=Hq (l:=List.range (t.mask+1)) (m:=t.place.toList) fu λx hx=>eY λnx=>z ⟨x,by have:=bO.mp hx;omega,nx⟩
  rw[cu,aQ,T.size]at this;have:=T.room;omega
 obtain⟨e,he,hn⟩:=this;obtain⟨k,hk,hz⟩:=LO T.gm (i:=SetTable.bits h % (t.mask+1)) (d3.mp (eS _ (en _))) (Hb h) he
 have hs:t.slot e=.empty:=by
  rcases QO T.dum e with z|z
  ·exact z.1
  ·exact absurd z.2 hn
 obtain⟨j,e1,e2⟩:=Pn T.dum (h:=h) k (10 * SetTable.turns t.mask) (SetTable.bits h % (t.mask+1)) (SetTable.bits h) (by unfold SetTable.turns;omega) (by unfold SetTable.turns;omega) (by rw[hz];exact hs);refine⟨j,?_,?_,e2⟩
 ·unfold SetTable.freeSlot
  show(match pgo t h (10 * SetTable.turns t.mask) (pst t.mask _ _) with|some (.empty j dummy)=>some (dummy.getD j,dummy.isSome)|_=>none)=_;rw[e1];rfl
 ·rcases QO T.dum j with z|⟨⟨i,z⟩,_⟩
  ·exact z.2
  ·rw[e2]at z;cases z
def Hr{t:SetTable}{n:Nat}(T:TG t n)(h:Int):∀(fuel:Nat) (p:SetTable.Probe) (j:Nat) (d:Option Nat),p.i<=t.mask->p.j+p.more<=t.mask->pgo t h fuel p=some (.empty j d)->j<=t.mask
 |0,p,j,d,_,_,e=>by cases e
 |fuel+1,p,j,d,h1,h2,e=>by
  have adv:(t.advance p).i<=t.mask∧(t.advance p).j+(t.advance p).more<=t.mask:=by
   unfold SetTable.advance;split
   ·exact⟨h1,by show p.j+1+(p.more-1)<=_;omega⟩
   ·have hl:(SetTable.leap t.mask p.i p.perturb).1<=t.mask:=d3.mp (eS _ (en _))
    refine⟨hl,?_⟩;show(SetTable.leap t.mask p.i p.perturb).1+(SetTable.runEnd t.mask (SetTable.leap t.mask p.i p.perturb).1-(SetTable.leap t.mask p.i p.perturb).1)<=t.mask;unfold SetTable.runEnd;split <;> omega
  have e:SetTable.probe.go t (λ_=>h+1) h (fuel+1) p=some (.empty j d):=e;unfold SetTable.probe.go at e;rcases QO T.dum p.j with ⟨he,_⟩|⟨⟨i,he⟩,_⟩
  ·rw[he]at e
   cases e;omega
  ·rw[he]at e
   have jb:((h+1) == h)=false:=aW.mpr (by omega);have e:(if ((h+1) == h)=true then _ else SetTable.probe.go t (λ_=>h+1) h fuel (t.advance p))=some (.empty j d):=e;rw[jb]at e;exact Hr T h fuel _ j d adv.1 adv.2 e
def CK{t:SetTable}{n:Nat}(T:TG t n){h:Int}{j:Nat}(e:t.freeSlot h=some (j,false)):j<=t.mask:=by
 unfold SetTable.freeSlot at e
 match hp:t.probe (λ_=>h+1) h (t.probeStart h),e with
 |some (.empty j' none),e=>
  have e:some ((none:Option Nat).getD j',(none:Option Nat).isSome)=some (j,false):=e;have:j'=j:=by injection e with e;injection e
  subst this;refine Hr T h _ _ j' none ?_ ?_ hp
  ·exact d3.mp (eS _ (en _))
  ·show SetTable.bits h % (t.mask+1)+(SetTable.runEnd t.mask (SetTable.bits h % (t.mask+1))-SetTable.bits h % (t.mask+1))<=t.mask
   have:SetTable.bits h % (t.mask+1)<t.mask+1:=eS _ (en t.mask);unfold SetTable.runEnd;split <;> omega
 |some (.empty j' (some d)),e=>exact nomatch e
 |some (.candidate _ _ _),e=>exact nomatch e
 |none,e=>exact nomatch e
structure TH(t:SetTable)(n:Nat):Prop where
 gm:Gm t.mask
 size:t.place.size=n
 dum:t.dummies=#[]
 ris:t.place.toList.Pairwise (· < ·)
 le:∀x∈t.place.toList,x<=t.mask
 fit:n<=t.mask
 pl:t.plain=true
def put_ok{t:SetTable}{n j:Nat}(T:TG t n)(hj:j<=t.mask)(hn:t.place[SetTable.below t.place j]?≠some j):TH (t.put j).1 (n+1)∧(t.put j).1.mask=t.mask∧(t.put j).1.led=t.led:=by
 obtain⟨b1,b2,b3⟩:=Ki (j:=j) T.ris
 have hl:(SetTable.insertAt t.place (SetTable.below t.place j) j).toList=t.place.toList.take (SetTable.below t.place j)++j::t.place.toList.drop (SetTable.below t.place j):=by
  rw[SetTable.toList_insertAt]
 have hd:(t.put j).1.dummies=#[]:=by
  show(if SetTable.has t.dummies j=true then _ else t.dummies)=_;rw[T.dum,aE (by simp[SetTable.has])]
 refine⟨⟨T.gm,?_,hd,?_,?_,?_,T.pl⟩,rfl,rfl⟩
 ·show(SetTable.insertAt t.place (SetTable.below t.place j) j).size=_
  rw[← aQ,hl,aS,bG,fw,List.length_drop,aQ,T.size];rw[T.size]at b1;omega
 ·show(SetTable.insertAt t.place (SetTable.below t.place j) j).toList.Pairwise _
  rw[hl,List.pairwise_append,bU]
  have hlow:∀x∈t.place.toList.take (SetTable.below t.place j),x<j:=λx hx=>by
   obtain⟨q,hq,rfl⟩:=List.mem_take_iff_getElem.mp hx;have j4:q<t.place.size:=by rw[aQ]at hq;omega
   have:=b2 q j4 (by omega);simpa using this
  have hhi:∀x∈t.place.toList.drop (SetTable.below t.place j),j<x:=λx hx=>by
   obtain⟨q,hq,rfl⟩:=List.mem_drop_iff_getElem.mp hx;have j4:SetTable.below t.place j+q<t.place.size:=by rw[aQ]at hq;omega
   have h1:=b3 _ j4 (by omega);rw[eK];refine Nat.lt_of_le_of_ne h1 λz=>?_
   by_cases hz:q=0
   ·subst hz
    exact hn (by rw[bZ (by omega)];exact cx some z.symm)
   ·have hb:SetTable.below t.place j<t.place.size:=by omega
    have h2:=b3 _ hb (aM _);have h3:=dr.mp T.ris (SetTable.below t.place j) (SetTable.below t.place j+q) (by simpa using hb) (by simpa using j4) (by omega);simp only[eK]at h3;omega
  exact⟨T.ris.sublist (List.take_sublist _ _),⟨hhi,T.ris.sublist (List.drop_sublist _ _)⟩,λx hx y hy=>by
   rcases aT.mp hy with rfl|hy
   ·exact hlow x hx
   ·exact Nat.lt_trans (hlow x hx) (hhi y hy)⟩
 ·intro x hx
  have hx:x∈(SetTable.insertAt t.place (SetTable.below t.place j) j).toList:=hx;rw[hl]at hx;rcases cZ.mp hx with hx|hx
  ·exact T.le x (List.mem_of_mem_take hx)
  ·rcases aT.mp hx with rfl|hx
   ·exact hj
   ·exact T.le x (List.mem_of_mem_drop hx)
 ·have:=T.room;show n+1<=t.mask;omega
def TH.fits{t:SetTable}{n:Nat}(T:TH t n):t.fits n=true:=by
 unfold SetTable.fits SetTable.fill;rw[T.size,T.dum];simp[T.fit]
def TG.th{t:SetTable}{n:Nat}(T:TG t n):TH t n:=⟨T.gm,T.size,T.dum,T.ris,T.le,by have:=T.room;omega,T.pl⟩
def TG.fits{t:SetTable}{n:Nat}(T:TG t n):t.fits n=true:=T.th.fits
def BE{n:Nat}(h:n<32):Gm (SetTable.sizeAbove (SetTable.grown n)-1)∧n * 5<(SetTable.sizeAbove (SetTable.grown n)-1) * 3:=by
 have:∀n,n<32->((λm=>m=7∨m=15∨m=31∨m=63∨m=127) (SetTable.sizeAbove (SetTable.grown n)-1))∧n * 5<(SetTable.sizeAbove (SetTable.grown n)-1) * 3:=by decide +kernel
 exact this n h
def D5{n:Nat}(h:n<32):Gm (SetTable.sizeAbove (n * 2)-1)∧n * 5<(SetTable.sizeAbove (n * 2)-1) * 3∧SetTable.sizeAbove (n * 2)<=sizeLine:=by
 have:∀n,n<32->((λm=>m=7∨m=15∨m=31∨m=63∨m=127) (SetTable.sizeAbove (n * 2)-1))∧n * 5<(SetTable.sizeAbove (n * 2)-1) * 3∧SetTable.sizeAbove (n * 2)<=128:=by decide +kernel
 obtain⟨a,b,c⟩:=this n h;exact⟨a,b,bF c (by rw[cA];decide)⟩
def HQ{t:SetTable}{es:Array (Int × Value)}(T:TG t es.size)(h:Int)(x:Value):∃jk t',layNew t es h x=(jk,t',false,false)∧TH t' jk.size∧jk.size=es.size+1∧t'.led=t.led∧t'.mask=t.mask:=by
 obtain⟨j,e1,e2,e3⟩:=Bb T h;obtain⟨p1,p2,p3⟩:=put_ok T (CK T e1) e2
 have hs:(SetTable.insertAt es (t.put j).2 (h,x)).size=es.size+1:=by
  have:=(SetTable.insertAt_perm es (t.put j).2 (h,x)).length_eq;rw[aQ,aQ,Array.size_push]at this;exact this
 have hf:=p1.fits;refine⟨SetTable.insertAt es (t.put j).2 (h,x),(t.put j).1,?_,by rw[hs];exact p1,hs,p3,p2⟩;unfold layNew;rw[e1];show(SetTable.insertAt es (t.put j).2 (h,x),(t.put j).1.orStandIn (SetTable.insertAt es (t.put j).2 (h,x)).size,false,!(t.put j).1.fits (SetTable.insertAt es (t.put j).2 (h,x)).size)=_;rw[hs,hf];unfold SetTable.orStandIn;rw[hf];rfl
def KW{t:SetTable}{es:Array (Int × Value)}(T:TH t es.size)(h:es.size<32):∃jk t',relayAll t es (SetTable.grown es.size)=(jk,t',false)∧TG t' jk.size∧jk.size=es.size∧t'.led=t.led:=by
 obtain⟨g1,g2⟩:=BE h;obtain⟨t',o,e1,e2,e3,e4,e5⟩:=Lr (f:=t.finger) (mv:=t.movedTo (SetTable.sizeAbove (SetTable.grown es.size)-1)) (led:=t.led) g1 (hs:=es.map (·.1)) (by rw[gc];exact g2);rw[gc]at e2 e3
 have hr:t.relaid (es.map (·.1)) (SetTable.grown es.size)=some (t',o):=by
  unfold SetTable.relaid;rw[T.pl];exact e1
 have hc:coversAll o es.size=true:=by
  unfold coversAll;exact List.isPerm_iff.mpr e2
 have hp:=relayAll_perm t es (SetTable.grown es.size)
 have hsz:(o.filterMap (es[·]?)).size=es.size:=by
  rw[← aQ,fQ];rw[(e2.filterMap _).length_eq,eD,aQ]
 refine⟨o.filterMap (es[·]?),t',?_,by rw[hsz];exact e3,hsz,e5⟩;unfold relayAll;rw[hr];dsimp only;rw[hsz,hc,e3.fits];rfl
end Tb
open PySem PyProof.Rows
namespace Tb
def EIn(e:Int × Value)(k:Int):Prop:=e.1=hashInt k∧∃t,e.2=.int k t
def SetL(bt:Bool)(h:Heap)(a:Addr)(ks:iB):Prop:=
 ∃o es ep t,h.get? a=some o∧o.ExactSet∧o.data=.set es ep t∧(∃js,Paired EIn es.toList js∧js.Perm ks)∧ks.Nodup∧TG t es.size∧(bt=false->t.led=true)
def SB{α γ:Type}{R:α->γ->Prop}:∀{xs:List α} {ys:List γ},Paired R xs ys->xs.length=ys.length
 |_,_,.nil=>rfl
 |_,_,.cons _ h=>cx (·+1) (SB h)
def Sx{α γ:Type}{R:α->γ->Prop}:∀{xs:List α} {ys:List γ} {x:α},Paired R xs ys->x∈xs->∃y∈ys,R x y
 |_,_,_,.nil,h=>nomatch h
 |_,_,_,.cons r p,h=>by
  rcases aT.mp h with rfl|h
  ·exact⟨_,.head _,r⟩
  ·obtain⟨y,h1,h2⟩:=Sx p h
   exact⟨y,.tail _ h1,h2⟩
def P8{α γ:Type}{R:α->γ->Prop}:∀{xs:List α} {ys:List γ} {y:γ},Paired R xs ys->y∈ys->∃x∈xs,R x y
 |_,_,_,.nil,h=>nomatch h
 |_,_,_,.cons r p,h=>by
  rcases aT.mp h with rfl|h
  ·exact⟨_,.head _,r⟩
  ·obtain⟨y,h1,h2⟩:=P8 p h
   exact⟨y,.tail _ h1,h2⟩
def WO{α γ:Type}{R:α->γ->Prop}{xs m3:List α}(p:m3.Perm xs):∀{ys:List γ},Paired R xs ys->∃my,Paired R m3 my∧my.Perm ys:=by
 induction p with
 |nil=>intro ys h;exact⟨ys,h,.refl _⟩
 |cons x _ ih=>
  intro ys h;cases h with
  |cons r h=>
   obtain⟨my,h1,h2⟩:=ih h;exact⟨_,.cons r h1,h2.cons _⟩
 |swap x y l=>
  intro ys h;cases h with
  |cons r1 h=>
   cases h with
   |cons r2 h=>exact⟨_,.cons r2 (.cons r1 h),List.Perm.swap _ _ _⟩
 |trans _ _ ih1 ih2=>
  intro ys h;obtain⟨y1,h1,h2⟩:=ih2 h;obtain⟨y2,h3,h4⟩:=ih1 h1;exact⟨y2,h3,h4.trans h2⟩
section
variable{prog:Program}{w:World}{A:Around}{E:g6}{s:Shared}{a:Addr}{bt:Bool}{ks:iB}
def A6{es:List (Int × Value)}{js:iB}(p:Paired EIn es js):ElemsOf (intKind prog w) es:=λe he=>by
 obtain⟨k,_,h1,t,h2⟩:=Sx p he;rw[h2];exact⟨⟨k,ge _ _ _ _,h1⟩,rfl⟩
def E4{es:List (Int × Value)}{js:iB}(p:Paired EIn es js)(k:Int):k∈js ↔ ∃e∈es,(intKind prog w).is k e.2=true:=by
 constructor
 ·intro h
  obtain⟨e,h1,_,t,h2⟩:=P8 p h;exact⟨e,h1,by rw[h2];exact ge _ _ _ _⟩
 ·rintro⟨e,h1,h2⟩
  obtain⟨j,hj,_,t,h3⟩:=Sx p h1;rw[h3]at h2;have:=(intKind prog w).inj _ k j h2 (ge _ _ _ _);rw[this];exact hj
def SetL.len{h:Heap}(S:SetL bt h a ks){o:Obj}{es:Array (Int × Value)}{ep:Nat}{t:SetTable}(ho:h.get? a=some o)(hd:o.data=.set es ep t):es.size=ks.length:=by
 obtain⟨o',jk,j0,t',h1,_,h2,⟨js,h3,h4⟩,_⟩:=S;rw[ho]at h1;cases h1;rw[hd]at h2;cases h2;rw[← aQ,SB h3,h4.length_eq]
def SetL.of{h:Heap}(S:SetL bt h a ks)(hb:ks.length<scanBound):h.SetOf (intKind prog w) a (λk=>ks.contains k) ks.length:=by
 obtain⟨o,es,ep,t,h1,h2,h3,⟨js,h4,h5⟩,nd,T,_⟩:=S;have hl:es.size=ks.length:=by rw[← aQ,SB h4,h5.length_eq]
 refine⟨o,es,ep,t,h1,h2,h3,A6 h4,λk=>?_,by rw[hl];exact hb,T.fits,hl⟩;rw[← E4 h4 k,h5.mem_iff];simp
def SetL.keep{h h':Heap}(S:SetL bt h a ks)(k:∀o,h.get? a=some o->h'.get? a=some o):SetL bt h' a ks:=
 let ⟨o,es,ep,t,h1,r⟩:=S;⟨o,es,ep,t,k o h1,r⟩
def Ux{h:Heap}{o:Obj}{es jk:Array (Int × Value)}{ep:Nat}{t t':SetTable}{js:iB}(ho:h.get? a=some o)(hx:o.ExactSet)(hd:o.data=.set es ep t)(p:Paired EIn jk.toList js) (q:js.Perm ks) (nd:ks.Nodup) (T:TG t' jk.size) (hl:bt=false->t'.led=true):SetL bt (h.update a (Obj.putSet jk t')) a ks:=by
 have e:=putSet_of jk t' hd;have g:=cv (Obj.putSet jk t') ho (by rw[e];rfl);rw[e]at g;exact⟨_,jk,ep+1,t',g,hx,rfl,⟨js,p,q⟩,nd,T,hl⟩
def Si(ks:iB)(k:Int):iB:=if ks.contains k=true then ks else ks++[k]
def Dj(ks:iB)(k:Int):(Si ks k).length<=ks.length+1:=by unfold Si;split <;> simp
def Sz{k:Int}{tk:Tok}{Q:Bool->Shared->Prop}(S:SetL bt s.heap a ks)(hr:ks.length+1<32)(q:∀h',Heap.SameBut a s.heap h'->SetL bt h' a (Si ks k)->Q (!ks.contains k) {s with heap:=h'}):wpAny (model prog w) A (setAddHashed a (.int k tk) (hashInt k)) Q E s:=by
 have S0:=S;obtain⟨o,es,ep,t,ho,hx,hd,⟨js,hp,hq⟩,nd,T,hl⟩:=S;have hsz:es.size=ks.length:=S0.len ho hd;have el:ElemsOf (intKind prog w) es.toList:=A6 hp;have hk:(intKind prog w).is k (.int k tk)=true:=ge _ _ _ _;unfold setAddHashed setAddHashedIn;refine cE (aB (cG ho hd T.fits ?_));dsimp only;rw[byScan_of (knd:=intKind prog w) rfl (by unfold scanBound;omega) el,aC rfl];unfold setAddByScan;refine aB (aB (wpAny_rule (aB ?_)));refine wpAny_setScan_of (knd:=intKind prog w) (k:=k) hk ho hd T.fits el ?_;cases hf:es.toList.findIdx? (λe=>(intKind prog w).is k e.2) with
 |some j=>
  obtain⟨hj,mz,_⟩:=List.findIdx?_eq_some_iff_getElem.mp hf;have hin:ks.contains k=true:=by simpa using hq.mem_iff.mp ((E4 (prog:=prog) (w:=w) hp k).mpr ⟨_,dR hj,mz⟩)
  have z:=q s.heap (Heap.SameBut.refl a s.heap) (by unfold Si;rw[aC hin];exact S0);rw[hin]at z;exact aD (aD z)
 |none=>
  have jp:ks.contains k=false:=by
   cases hc:ks.contains k with
   |false=>rfl
   |true=>
    obtain⟨e,he,hi⟩:=(E4 (prog:=prog) (w:=w) hp k).mp (hq.mem_iff.mpr (by simpa using hc));have:=List.findIdx?_eq_none_iff.mp hf e he;rw[hi]at this;cases this
  have hadd:Si ks k=ks++[k]:=by unfold Si;rw[jp];rfl
  obtain⟨jK,t1,e1,T1,e2,e3,e4⟩:=HQ T (hashInt k) (.int k tk);have pm:=layNew_perm t es (hashInt k) (.int k tk);rw[e1,Array.toList_push]at pm;have pm:jK.toList.Perm (es.toList++[(hashInt k,Value.int k tk)]):=pm;obtain⟨n9,p1,q1⟩:=WO pm (Paired.snoc hp (b:=k) ⟨rfl,tk,rfl⟩);have q2:n9.Perm (ks++[k]):=q1.trans (hq.append_right [k])
  have nd2:(ks++[k]).Nodup:=by
   rw[cj];refine⟨nd,by simp,λx hx y hy=>?_⟩;rw[cN]at hy;subst hy;intro z;subst z;rw[aX.mpr hx]at jp;cases jp
  rw[e1];dsimp only;refine aB (show wpAny (model prog w) A (pure ()) _ _ _ from aD ?_);rw[T1.pl,aC rfl,hashByValue_scannable 8 (x:=.int k tk) rfl];refine aB (aD ?_);rw[aC (show plainKind (Value.int k tk)=true from rfl)];have hsz1:jK.size<=sizeLine:=by rw[cA];omega
  refine aB (eG ho hd ?_ hsz1);have sb:=cw s.heap a (Obj.putSet jK t1);by_cases hfull:t1.tooFull=true
  ·rw[aC (by rw[hfull];rfl)]
   obtain⟨m4,t2,f1,T2,f2,f3⟩:=KW T1 (by omega);have pr:=relayAll_perm t1 jK (SetTable.grown jK.size);rw[f1]at pr ⊢;have pr:m4.toList.Perm jK.toList:=pr;obtain⟨kC,p2,q3⟩:=WO pr p1;dsimp only;refine aB (show wpAny (model prog w) A (pure ()) _ _ _ from aD ?_);have g1:=cv (Obj.putSet jK t1) ho (by rw[putSet_of jK t1 hd];rfl);rw[putSet_of jK t1 hd]at g1;refine aB (eG g1 rfl ?_ (by rw[f2];exact hsz1));refine aD (aD ?_);have z:=q _ (sb.trans (cw _ a (Obj.putSet m4 t2))) (by rw[hadd];exact Ux (o:={o with data:=.set jK (ep+1) t1}) g1 hx rfl p2 (q3.trans q2) nd2 T2 (λz=>by rw[f3,e3];exact hl z));rw[jp]at z;exact z
  ·rw[aE (by simpa using hfull)]
   have T2:TG t1 jK.size:=⟨T1.gm,T1.size,T1.dum,T1.ris,T1.le,by
    have hn:¬ (t1.fill * 5 ≥ t1.mask * 3):=λz=>hfull (by unfold SetTable.tooFull;exact bJ z)
    have hfl:t1.fill=jK.size:=by unfold SetTable.fill;rw[T1.size,T1.dum];rfl
    omega,T1.pl⟩
   refine aD (aD ?_);have z:=q _ sb (by rw[hadd];exact Ux ho hx hd p1 q2 nd2 T2 (λz=>by rw[e3];exact hl z));rw[jp]at z;exact z
def Mf(bt:Bool)(h:Heap):SetL bt (h.push {cls:=.type "set",dict:=none,data:=.set #[] 0 (.fresh 0 0 (!bt))}) h.objs.size []:=
 ⟨_,#[],0,_,aZ _ rfl,⟨rfl,rfl,rfl⟩,rfl,⟨[],.nil,.refl _⟩,f9,⟨.inl rfl,rfl,rfl,List.Pairwise.nil,λx hx=>(by simp[SetTable.fresh]at hx),(show 0 * 5<7 * 3 by decide),rfl⟩,λh=>by subst h;rfl⟩
abbrev XQ(bt:Bool):Obj:={cls:=.type "set",dict:=none,data:=.set #[] 0 (.fresh 0 0 (!bt))}
def Oc{Q:g6}(q:Q (.ref s.heap.objs.size) {s with heap:=s.heap.push (XQ (w.params.followText "set-order"))}):wpAny (model prog w) A (newSet (.type "set")) Q E s:=by
 unfold newSet setsByText;refine aB (aB (dq (aD ?_)));dsimp only;simp only[newObj];exact aB (wpAny_alloc (aD q))
def Qs{n:Nat}{Q:Unit->Shared->Prop}(S:SetL bt s.heap a [])(hn:n<32)(q:∀h',Heap.SameBut a s.heap h'->(∃o es ep t,h'.get? a=some o∧o.ExactSet∧o.data=.set es ep t∧es=#[]∧TG t 0∧n * 5<t.mask * 3∧(bt=false->t.led=true))->Q () {s with heap:=h'}):wpAny (model prog w) A (setRoomFor a n) Q E s:=by
 have S0:=S;obtain⟨o,es,ep,t,ho,hx,hd,⟨js,hp,hq⟩,nd,T,hl⟩:=S;have hsz:es.size=0:=S0.len ho hd;have hes:es=#[]:=dE hsz;subst hes;unfold setRoomFor;refine aB (cG ho hd T.fits ?_);dsimp only;have hfl:t.fill=0:=by unfold SetTable.fill;rw[T.size,T.dum];rfl
 unfold SetTable.roomFor;rw[hfl,T.size];by_cases hc:(0+n) * 5 ≥ t.mask * 3
 ·rw[aC hc]
  dsimp only;unfold setRelay;refine aB (cG ho hd T.fits ?_);dsimp only;have h0:(#[]:Array (Int × Value)).size+n=n:=d9 n;rw[h0];obtain⟨r1,r2,r3⟩:=D5 hn;rw[aE (gw.mpr r3)];obtain⟨t',o',e1,e2,e3,e4,e5⟩:=Lr (f:=t.finger) (mv:=t.movedTo (SetTable.sizeAbove (n * 2)-1)) (led:=t.led) r1 (hs:=#[]) (by show 0 * 5<_;omega);have hr:t.relaid ((#[]:Array (Int × Value)).map (·.1)) (n * 2)=some (t',o'):=by unfold SetTable.relaid;rw[T.pl,show(#[]:Array (Int × Value)).map (·.1)=#[] from by simp];exact e1
  rw[hr];have iY:o'=#[]:=dE (by rw[← aQ,e2.length_eq];rfl);subst iY;refine aB (show wpAny (model prog w) A (pure ((#[]:Array (Int × Value)),t')) _ _ _ from aD ?_);refine eG ho hd ?_ (by show 0<=sizeLine;exact cz _);have e:=putSet_of #[] t' hd;have g:=cv (Obj.putSet #[] t') ho (by rw[e];rfl);rw[e]at g;exact q _ (cw s.heap a _) ⟨_,#[],ep+1,t',g,hx,rfl,rfl,e3,by rw[e4];exact r2,λz=>by rw[e5];exact hl z⟩
 ·rw[aE hc]
  have z:=q s.heap (Heap.SameBut.refl a s.heap) ⟨o,#[],ep,t,ho,hx,hd,rfl,T,by omega,hl⟩;exact aD z
end
end Tb
namespace Tb
def Q2{α:Type}:∀(l:List α) (i:Nat) (h:i<l.length),(l[i]::l.eraseIdx i).Perm l
 |[],i,h=>absurd h (d0 _)
 |x::l,0,h=>.refl _
 |x::l,i+1,h=>(List.Perm.swap x _ _).trans ((Q2 l i (Nat.lt_of_succ_lt_succ h)).cons x)
def Hl{α:Type}(next:Nat->Nat):∀(fuel k:Nat) (left:List α) (out:Array α),left.length=fuel->(pickOrder.go next fuel k left out).toList.Perm (out.toList++left)
 |0,k,left,out,h=>by
  have:left=[]:=fL.mp h;subst this;rw[ce];exact .refl _
 |fuel+1,k,left,out,h=>by
  have hi:next k % left.length<left.length:=eS _ (by omega);unfold pickOrder.go;rw[aN hi];dsimp only;refine(Hl next fuel (k+1) _ _ (by rw[List.length_eraseIdx_of_lt hi];omega)).trans ?_;rw[Array.toList_push,bP];refine List.Perm.append_left _ ?_;show(left[next k % left.length]::left.eraseIdx (next k % left.length)).Perm left;exact Q2 left _ hi
def HY{α:Type}(next:Nat->Nat)(xs:Array α):(pickOrder next xs).toList.Perm xs.toList:=by
 have:=Hl next xs.size 0 xs.toList #[] (aQ);simpa [pickOrder] using this
section
variable{prog:Program}{w:World}{A:Around}{E:g6}{s:Shared}{a:Addr}{ks:iB}
abbrev byT(w:World):Bool:=w.params.followText "set-order"
def Te(w:World)(a:Addr)(ep:Nat)(es:Array (Int × Value)):Array (Int × Value):=if byT w=true then pickOrder (w.params.setOrder a ep) es else es
def Wx(w:World)(a:Addr)(ep:Nat)(es:Array (Int × Value)):(Te w a ep es).toList.Perm es.toList:=by
 unfold Te;split
 ·exact HY _ _
 ·exact .refl _
def Sy{o:Obj}{es:Array (Int × Value)}{ep:Nat}{t:SetTable}{Q:Array (Int × Value)->Shared->Prop}(ho:s.heap.get? a=some o)(hd:o.data=.set es ep t)(T:TG t es.size)(hl:byT w=false->t.led=true)(q:Q (Te w a ep es) s):wpAny (model prog w) A (setWalk a) Q E s:=by
 unfold setWalk;refine aB (cG ho hd T.fits ?_);dsimp only;unfold setsByText;refine aB (aB (dq (aD ?_)));unfold Te at q;cases hb:byT w with
 |true=>
  rw[hb,aC rfl]at q;have hb:w.params.followText "set-order"=true:=hb;show wpAny _ _ (if w.params.followText "set-order"=true then _ else _) _ _ _;rw[hb,aC rfl];exact aB (dq (aD q))
 |false=>
  rw[hb,aE aH]at q;have jt:w.params.followText "set-order"=false:=hb;show wpAny _ _ (if w.params.followText "set-order"=true then _ else if (!t.plain&&decide (es.size > 1))=true then _ else ((if (!t.led&&decide (es.size > 1))=true then _ else pure ()) >>= _)) _ _ _;rw[jt,aE aH,T.pl,hl hb];exact aB (aD (aD q))
def R9{o:Obj}{es:Array (Int × Value)}{ep:Nat}{t:SetTable}{os:h8}{f:Option Addr}{Q:Array (Int × Value)->Shared->Prop}(ho:s.heap.get? a=some o)(hd:o.data=.set es ep t)(T:TG t es.size)(hl:byT w=false->t.led=true)(q:Q (Te w a ep es) s):wpAny (model prog w) A (setWalkUnseen a os f) Q E s:=by
 unfold setWalkUnseen;refine aB (cG ho hd T.fits ?_);dsimp only;unfold setsByText;refine aB (aB (dq (aD ?_)));show wpAny _ _ (if (w.params.followText "set-order" || t.led&&t.plain || decide (es.size<=1))=true then _ else _) _ _ _;rw[aC]
 ·exact Sy ho hd T hl q
 ·cases hb:byT w with
  |true=>rw[show w.params.followText "set-order"=true from hb];rfl
  |false=>rw[show w.params.followText "set-order"=false from hb,hl hb,T.pl];rfl
def Kw:Manifest.owners.lookup (String.ofList ['r','o','t','a','r','e','t','i','_','t','e','s'].reverse)=some Manifest.sig_set_iterator:=by kernel_rfl
def Tw:PySem.Slot "set_iterator" "__next__" "set_iterator.__next__":=
 PySem.Slot.of (owner:="set_iterator") (n:="__next__") (by rw[typeLookup_type,gx];kernel_rfl) (by decide +kernel) (by decide +kernel) (by decide +kernel)
  (by first|exact .inl (by decide +kernel)|exact .inr (by decide +kernel)) (by rw[eF];kernel_rfl)
def Dr:entryFor table "set_iterator.__next__"=some Builtin.«set_iterator.__next__»:=entryFor_of_tree (by kernel_rfl)
def Iw(v:Value):argsOk "set_iterator.__next__" ⟨[v],[]⟩:=by
 unfold argsOk;rw[signature?_of (id:="set_iterator.__next__") (n:=['_','_','t','x','e','n','_','_']) (o:=['r','o','t','a','r','e','t','i','_','t','e','s']) (by kernel_rfl) Kw];kernel_rfl
def Dd:entryFor table "set.__iter__"=some Builtin.«frozenset.__iter__»:=
 entryFor_alias (id':="frozenset.__iter__") (by kernel_rfl) rfl (by decide +kernel) (by kernel_rfl)
def EV(w:World)(t:SetTable)(i slot:Nat):Prop:=byT w=false->∀q (h:q<t.place.size),(q<i->t.place[q]<slot)∧(i<=q->slot<=t.place[q])
def F9(w:World)(h:Heap)(I a:Addr)(o:Obj)(i:Nat):Prop:=h.get? a=some o∧∃es ep t slot oi,o.data=.set es ep t∧TG t es.size∧(byT w=false->t.led=true)∧EV w t i slot∧h.get? I=some oi∧oi.cls=.type "set_iterator"∧oi.data=.fields #[.int slot 0,.int i 0,.ref a,.int es.size 0,.int ep 0]
def Ry{o:Obj}{es:Array (Int × Value)}{ep:Nat}{t:SetTable}{Q:g6}(ho:s.heap.get? a=some o)(hx:o.ExactSet)(hd:o.data=.set es ep t)(T:TG t es.size)(hl:byT w=false->t.led=true)(q:Q (.ref s.heap.objs.size) {s with heap:=s.heap.push {cls:=.type "set_iterator",data:=.fields #[.int 0 0,.int 0 0,.ref a,.int es.size 0,.int ep 0]}}):wpAny (model prog w) A (pyIter (.ref a)) Q E s:=by
 have hT:s.TypeIs (.ref a) "set":=⟨o,ho,hx.1⟩;refine wpAny_pyIter_slot hT PySem.F.slot_set_iter (dI PySem.F.slot_set_iter hT Dd ?_ (PySem.F.args_set_iter_1 _));unfold Builtin.«frozenset.__iter__» Builtin.Frozenset.slot0 slotArgs;simp only[fF,fh,d6,↓reduceIte,bind_assoc,cI,et];unfold Builtin.Frozenset.addrOf Builtin.Frozenset.sizeOf;refine aB (aD ?_)
 try dsimp only
 refine aB (aD ?_);refine aB (aB (eZ ho hd T.fits (aD ?_)));refine aB ?_;unfold setDrawn;refine aB (cG ho hd T.fits ?_);dsimp only;unfold setsByText;refine aB (aB (dq (aD ?_)));refine aD ?_;show wpAny _ _ (if (!w.params.followText "set-order"&&(!t.plain&&decide (es.size > 1)))=true then _ else _) _ _ _;rw[T.pl,aE (by simp)];refine aB (aD ?_);refine aB (fS ho hd T.fits ?_);refine aB (dC (aD ⟨_,rfl,"set_iterator",_,⟨_,aZ _ rfl,rfl⟩,Tw.lookup,?_⟩));exact q
def Jg{t:SetTable}{n i slot:Nat}(T:TG t n)(hi:i<=n)(hs:∀q (h:q<t.place.size),(q<i->t.place[q]<slot)∧(i<=q->slot<=t.place[q])):SetTable.below t.place slot=i:=by
 obtain⟨b1,b2,b3⟩:=Ki (j:=slot) T.ris;have hz:=T.size;rcases Nat.lt_trichotomy (SetTable.below t.place slot) i with h|h|h
 ·have h1:=(hs (SetTable.below t.place slot) (by omega)).1 h
  have h2:=b3 (SetTable.below t.place slot) (by omega) (aM _);omega
 ·exact h
 ·have h1:=(hs i (by omega)).2 (aM _)
  have h2:=b2 i (by omega) h;omega
def Qw{I:Addr}{o:Obj}{i:Nat}{es:Array (Int × Value)}{ep:Nat}{t:SetTable}{e:Int × Value}{Q:iG->Shared->Prop}(jb:a≠I)(st:F9 w s.heap I a o i)(hd:o.data=.set es ep t)(he:(Te w a ep es)[i]?=some e)(q:∀h',F9 w h' I a o (i+1)->Heap.SameBut I s.heap h'->Q (some e.2) {s with heap:=h'}):wpAny (model prog w) A (pyNext (.ref I)) Q E s:=by
 obtain⟨ho,jk,j0,t',slot,oi,jY,T,hl,hs,hi,hc,hf⟩:=st;rw[hd]at jY;cases jY;have hT:s.TypeIs (.ref I) "set_iterator":=⟨oi,hi,hc⟩
 have iR:i<es.size:=by
  have h1:=(dO.mp he).1;have h2:=(Wx w a ep es).length_eq;rw[aQ,aQ]at h2;omega
 have two:∀(sl:Nat),EV w t (i+1) sl->F9 w ((s.heap.update I (Obj.mapFields (·.setIfInBounds 0 (rawInt (sl:Int))))).update I (Obj.mapFields (·.setIfInBounds 1 (rawInt ((i:Int)+1))))) I a o (i+1):=λsl j7=>by
  have g1:(s.heap.update I (Obj.mapFields (·.setIfInBounds 0 (rawInt (sl:Int))))).get? I=some _:=cv _ hi (eP (cV hf _));have d1:=cV hf (·.setIfInBounds 0 (rawInt (sl:Int)));have g2:=cv (Obj.mapFields (·.setIfInBounds 1 (rawInt ((i:Int)+1)))) g1 (eP (cV d1 _));refine⟨(cL _ _ (cF jb)).trans ((cL _ _ (cF jb)).trans ho),es,ep,t,sl,_,hd,T,hl,j7,g2,(Obj.cls_mapFields ..).trans ((Obj.cls_mapFields ..).trans hc),?_⟩;rw[cV d1];simp[rawInt]
 unfold pyNext;refine aB (wpAny_attempt (wpAny_callSpecial?_slot (name:=Str.ofString "__next__") hT Tw (dI Tw hT Dr ?_ (Iw _))));unfold Builtin.«set_iterator.__next__» slotArgs;simp only[fF,fh,d6,↓reduceIte,bind_assoc,cI,et];refine aB (aD ?_);refine aB (wpAny_fieldsOf hi hf ?_);dsimp only;refine aB (eZ ho hd T.fits ?_);rw[aE (by simp)];refine aB ?_;unfold setNext;refine aB (cG ho hd T.fits ?_);dsimp only;unfold setsByText;refine aB (aB (dq (aD ?_)));cases hb:byT w with
 |true=>
  have jt:w.params.followText "set-order"=true:=hb;show wpAny _ _ (if w.params.followText "set-order"=true then _ else _) _ _ _;rw[jt,aC rfl];rw[aE (by simp)];refine aB (Sy ho hd T hl (aD ?_));simp only[ck];rw[he];show wpAny _ _ (setField (.ref I) 0 (rawInt _) >>= _) _ _ _;refine aB (eE hi hf (by simp) ?_);have g1:=cv (Obj.mapFields (·.setIfInBounds 0 (rawInt ((slot:Nat):Int)))) hi (eP (cV hf _));have d1:=cV hf (·.setIfInBounds 0 (rawInt ((slot:Nat):Int)));refine aB (eE g1 d1 (by simp) ?_);refine aD ⟨_,rfl,aD (q _ (two slot λz=>?_) ?_)⟩
  ·rw[hb]at z;cases z
  ·exact(cw ..).trans (cw ..)
 |false=>
  have jt:w.params.followText "set-order"=false:=hb;have hw:Te w a ep es=es:=by unfold Te;rw[hb];rfl
  rw[hw]at he;have hbel:=Jg T (er iR) (hs hb);have iO:i<t.place.size:=by rw[T.size];exact iR
  show wpAny _ _ (if w.params.followText "set-order"=true then _ else if (!t.plain&&decide (es.size > 1))=true then _ else ((if (!t.led&&!es.isEmpty)=true then _ else pure ()) >>= _)) _ _ _;rw[jt,aE aH,T.pl,hl hb];refine aB (aD ?_);simp only[ck];rw[hbel,he,bZ iO];refine aD ?_;show wpAny _ _ (setField (.ref I) 0 (rawInt _) >>= _) _ _ _;refine aB (eE hi hf (by simp) ?_);have g1:=cv (Obj.mapFields (·.setIfInBounds 0 (rawInt ((t.place[i]+1:Nat):Int)))) hi (eP (cV hf _));have d1:=cV hf (·.setIfInBounds 0 (rawInt ((t.place[i]+1:Nat):Int)));refine aB (eE g1 d1 (by simp) ?_);refine aD ⟨_,rfl,aD (q _ (two (t.place[i]+1) λ_ p hp=>?_) ?_)⟩
  ·have inc:∀x y (hx:x<t.place.size) (hy:y<t.place.size),x<y->t.place[x]<t.place[y]:=λx y hx hy lP=>by
    have:=dr.mp T.ris x y (by simpa using hx) (by simpa using hy) lP;simpa using this
   constructor
   ·intro z
    by_cases hz:p=i
    ·subst hz;omega
    ·have:=inc p i hp iO (by omega);omega
   ·intro z
    exact inc i p iO hp (by omega)
  ·exact(cw ..).trans (cw ..)
def Ov{I:Addr}{o:Obj}{es:Array (Int × Value)}{ep:Nat}{t:SetTable}{Q:iG->Shared->Prop}(hh:A.handled=none)(st:F9 w s.heap I a o es.size)(hd:o.data=.set es ep t)(q:∀h',Heap.ExtBut I s.heap h'->Q none {s with heap:=h'}):wpAny (model prog w) A (pyNext (.ref I)) Q E s:=by
 obtain⟨ho,jk,j0,t',slot,oi,jY,T,hl,hs,hi,hc,hf⟩:=st;rw[hd]at jY;cases jY;have hT:s.TypeIs (.ref I) "set_iterator":=⟨oi,hi,hc⟩;unfold pyNext;refine aB (wpAny_attempt (wpAny_callSpecial?_slot (name:=Str.ofString "__next__") hT Tw (dI Tw hT Dr ?_ (Iw _))));unfold Builtin.«set_iterator.__next__» slotArgs;simp only[fF,fh,d6,↓reduceIte,bind_assoc,cI,et];refine aB (aD ?_);refine aB (wpAny_fieldsOf hi hf ?_);dsimp only;refine aB (eZ ho hd T.fits ?_);rw[aE (by simp)];refine aB ?_;unfold setNext;refine aB (cG ho hd T.fits ?_);dsimp only;unfold setsByText;refine aB (aB (dq (aD ?_)))
 have jG:(Te w a ep es).size=es.size:=by
  have h2:=(Wx w a ep es).length_eq;rw[aQ,aQ]at h2;exact h2
 cases hb:byT w with
 |true=>
  have jt:w.params.followText "set-order"=true:=hb;show wpAny _ _ (if w.params.followText "set-order"=true then _ else _) _ _ _;rw[jt,aC rfl];rw[aE (by simp)];refine aB (Sy ho hd T hl (aD ?_));simp only[ck];rw[fR (by omega)];show wpAny _ _ (setField (.ref I) 2 .none >>= _) _ _ _;refine aB (eE hi hf (by simp) ?_);show wpAny _ _ (newExc (.type "StopIteration") [] >>= _) _ _ _;refine aB ?_;simp only[newExc,newTuple];refine aB (dC ?_ (by size_fits));refine aB (m:=firstArgMember _ _) (wpAny_of_eq (a:=Value.none) (by first|rfl|(simp only[firstArgMember];rfl)) ?_);refine dC ?_ (by size_fits);simp only[raiseNew];refine aB (wpAny_handled ?_);rw[show A.in1.handled=none from hh];refine aB (aD (wpAny_throw ?_));refine aB (dm (T:="StopIteration") (b:=true) ⟨_,aZ _ rfl,rfl⟩ isSubtype_stop ?_);exact aD (q _ (((cw ..).extBut.push _).push _))
 |false=>
  have jt:w.params.followText "set-order"=false:=hb;have hbel:=Jg T (aM _) (hs hb);show wpAny _ _ (if w.params.followText "set-order"=true then _ else if (!t.plain&&decide (es.size > 1))=true then _ else ((if (!t.led&&!es.isEmpty)=true then _ else pure ()) >>= _)) _ _ _;rw[jt,aE aH,T.pl,hl hb];refine aB (aD ?_);simp only[ck];rw[hbel,fR (aM _)];refine aD ?_;show wpAny _ _ (setField (.ref I) 2 .none >>= _) _ _ _;refine aB (eE hi hf (by simp) ?_);show wpAny _ _ (newExc (.type "StopIteration") [] >>= _) _ _ _;refine aB ?_;simp only[newExc,newTuple];refine aB (dC ?_ (by size_fits));refine aB (m:=firstArgMember _ _) (wpAny_of_eq (a:=Value.none) (by first|rfl|(simp only[firstArgMember];rfl)) ?_);refine dC ?_ (by size_fits);simp only[raiseNew];refine aB (wpAny_handled ?_);rw[show A.in1.handled=none from hh];refine aB (aD (wpAny_throw ?_));refine aB (dm (T:="StopIteration") (b:=true) ⟨_,aZ _ rfl,rfl⟩ isSubtype_stop ?_);exact aD (q _ (((cw ..).extBut.push _).push _))
end
end Tb
namespace Tb
def Kn:PySem.Slot "set_iterator" "__iter__" "set_iterator.__iter__":=
 PySem.Slot.of (owner:="set_iterator") (n:="__iter__") (by rw[typeLookup_type,gx];kernel_rfl) (by decide +kernel) (by decide +kernel) (by decide +kernel)
  (by first|exact .inl (by decide +kernel)|exact .inr (by decide +kernel)) (by rw[eF];kernel_rfl)
def Bo:entryFor table "set_iterator.__iter__"=some Builtin.«dict_keyiterator.__iter__»:=
 entryFor_alias (id':="dict_keyiterator.__iter__") (by kernel_rfl) rfl (by decide +kernel) (by kernel_rfl)
def EW(v:Value):argsOk "set_iterator.__iter__" ⟨[v],[]⟩:=by
 unfold argsOk;rw[signature?_of (id:="set_iterator.__iter__") (n:=['_','_','r','e','t','i','_','_']) (o:=['r','o','t','a','r','e','t','i','_','t','e','s']) (by kernel_rfl) Kw];kernel_rfl
section
variable{prog:Program}{w:World}{A:Around}{E:g6}{s:Shared}{a:Addr}{ks:iB}
def HX(hh:A.handled=none)(I a:Addr)(jb:a≠I)(o:Obj){es:Array (Int × Value)}{ep:Nat}{t:SetTable}(hd:o.data=.set es ep t):Walks prog w A I [I,a] [I] es.size (λi v=>∃e,(Te w a ep es)[i]?=some e∧v=e.2) (λi h=>F9 w h I a o i) where
 sub:=λb hb=>by simp at hb;simp[hb]
 frame:=λi h h' st hk=>by
  obtain⟨ho,jk,j0,t',slot,oi,h1,h2,h3,h4,h5,h6,h7⟩:=st;exact⟨hk a (by simp) _ ho,jk,j0,t',slot,oi,h1,h2,h3,h4,hk I (by simp) _ h5,h6,h7⟩
 item:=λi s Q E hi st hQ=>by
  have hs:(Te w a ep es).size=es.size:=by
   have h2:=(Wx w a ep es).length_eq;rw[aQ,aQ]at h2;exact h2
  have he:(Te w a ep es)[i]?=some ((Te w a ep es)[i]'(by omega)):=bZ _;exact Qw jb st hd he λh' jE sb=>hQ _ h' s.toks ⟨_,he,rfl⟩ jE λb o hb e=>sb.extBut b o (λh=>hb (by simp[h])) e
 done:=λs Q E st hQ=>Ov hh st hd λh' eb=>hQ h' s.toks λb o hb e=>eb b o (λh=>hb (by simp[h])) e
 self:=λi s Q E st hQ=>by
  obtain⟨ho,jk,j0,t',slot,oi,h1,h2,h3,h4,h5,h6,h7⟩:=st;have hT:s.TypeIs (.ref I) "set_iterator":=⟨oi,h5,h6⟩;refine wpAny_pyIter_slot hT Kn (dI Kn hT Bo ?_ (EW _));show wpAny _ _ (PySem.ret (.ref I)) _ _ s;exact aD ⟨_,rfl,"set_iterator",_,hT,Tw.lookup,hQ⟩
def E5(hT:s.TypeIs (.ref a) "set"){Q:Bool->Shared->Prop}(h:Q false s):wpAny (model prog w) A (Builtin.List.listLengthHint (.ref a)) Q E s:=by
 unfold Builtin.List.listLengthHint;refine aB (wpAny_specialOf hT PySem.F.slot_set_len.lookup ?_);generalize hid:("set.__len__":String)=id0
 wp_delta
 rw[show splitId id0=some ("set","__len__") from by subst hid;decide +kernel];subst hid;refine aB (dm (T:="set") (b:=true) hT (by rw[eF];kernel_rfl) ?_);refine eW (λjw=>absurd jw (by decide)) (λ_=>?_);refine eW (λ_=>?_) (λjw=>absurd (by decide +kernel) jw);refine aB (gf hT ?_);exact aD h
def G3(hT:s.TypeIs (.ref a) "dict"){Q:Bool->Shared->Prop}(h:Q false s):wpAny (model prog w) A (Builtin.List.listLengthHint (.ref a)) Q E s:=by
 unfold Builtin.List.listLengthHint;refine aB (wpAny_specialOf hT (r:=some (.builtin "dict.__len__")) (by rw[typeLookup_type,gx];kernel_rfl) ?_);generalize hid:("dict.__len__":String)=id0
 wp_delta
 rw[show splitId id0=some ("dict","__len__") from by subst hid;decide +kernel];subst hid;refine aB (dm (T:="dict") (b:=true) hT (by rw[eF];kernel_rfl) ?_);refine eW (λjw=>absurd jw (by decide)) (λ_=>?_);refine eW (λ_=>?_) (λjw=>absurd (by decide +kernel) jw);refine aB (gf hT ?_);exact aD h
def Qt{T:String}{o oi:Obj}{n:Nat}{P:Nat->Value->Prop}{St:Addr->Nat->Heap->Prop}{R:iA->Shared->Prop}(hl:(Value.type T == Value.type "list")=false)(ht:(Value.type T == Value.type "tuple")=false)(ho:s.heap.get? a=some o) (hT:o.cls=.type T) (hn:n<=sizeLine)(mB:∀(s1:Shared) (Q:Bool->Shared->Prop) (E':g6),s1.TypeIs (.ref a) T->Q false s1->wpAny (model prog w) A.in1 (Builtin.List.listLengthHint (.ref a)) Q E' s1)(kP:∀(s1:Shared) (Q:g6) (E':g6),s1.heap.get? a=some o->Q (.ref s1.heap.objs.size) {s1 with heap:=s1.heap.push oi}->wpAny (model prog w) A.in1 (pyIter (.ref a)) Q E' s1)(W:∀I,a≠I->Walks prog w A.in1 I [I,a] [I] n P (St I)) (h0:∀I h,h.get? a=some o->h.get? I=some oi->St I 0 h) (hf:oi.isFreed=false)(q:∀(h':Heap) (tk:Nat) (iu:Array Value),(∀b x,s.heap.get? b=some x->h'.get? b=some x)->s.heap.objs.size<=h'.objs.size->ItemsOf P iu n->R iu.toList {s with heap:=h',toks:=tk}):wpAny (model prog w) A (collect (.ref a)) R E s:=by
 have ha:a<s.heap.objs.size:=aP ho;unfold collect;refine aB (wpAny_runValue (eB PySem.F.entry_proto_collect ?_));rw[dX PySem.F.plain_proto_collect _];show wpAny _ A.in1 (newList [] >>= λl=>again (.builtin "list.__iadd__" ⟨[l,.ref a],[]⟩)) _ _ s;refine aB (dC ?_);refine aD ⟨fX PySem.F.plain_list_iadd _,eB PySem.F.entry_list_iadd ?_⟩;rw[dX PySem.F.plain_list_iadd _];generalize hL:s.heap.objs.size=L at ha;have g1:(s.heap.push {cls:=.type "list",data:=.seq ([]:iA).toArray}).get? L=some {cls:=.type "list",data:=.seq ([]:iA).toArray}:=by rw[← hL];exact aZ _ rfl
 have k1:∀b x,s.heap.get? b=some x->(s.heap.push {cls:=.type "list",data:=.seq ([]:iA).toArray}).get? b=some x:=λb x e=>aI _ e
 have z1:(s.heap.push {cls:=.type "list",data:=.seq ([]:iA).toArray}).objs.size=L+1:=by rw[dH,hL]
 generalize s.heap.push {cls:=.type "list",data:=.seq ([]:iA).toArray}=h1 at g1 k1 z1;show wpAny _ A.in1 (Builtin.List.listExtendWith (.ref L) (.ref a) (.ref L)) _ _ {s with heap:=h1};unfold Builtin.List.listExtendWith;refine aB (gf (T:=T) ⟨o,k1 a o ho,hT⟩ ?_);have hs:Builtin.List.listSameRef (.ref L) (.ref a)=false:=by simp[Builtin.List.listSameRef];exact dP ha
 rw[hs,hl,ht,aE (by decide)];refine aB (kP _ _ _ (k1 a o ho) ?_);have g2:(h1.push oi).get? h1.objs.size=some oi:=aZ _ hf;have k2:∀b x,h1.get? b=some x->(h1.push oi).get? b=some x:=λb x e=>aI _ e
 show wpAny _ A.in1 _ _ _ {s with heap:=h1.push oi};generalize hI:h1.objs.size=I at g2;have hIa:a≠I:=by rw[← hI,z1];exact bB (cW ha)
 have hIL:L≠I:=by rw[← hI,z1];exact bB (dQ L)
 show wpAny _ A.in1 (holding [.ref I] _ >>= _) _ _ _;generalize h1.push oi=h2 at g2 k2;refine aB (cE (mB _ _ _ ⟨o,k2 _ _ (k1 _ _ ho),hT⟩ ?_))
 have key : ∀ (h3 : Heap) (c : Nat),(∀ b x,b ≠ L -> h2.get? b = some x -> h3.get? b = some x) -> h3.get? L = some { cls := .type "list",data := .seq #[] c } ->
     codeAny (model prog w) A (.builtin "list.extend.loop" ⟨[.ref L,.ref I,.ref L],[]⟩) (λq' s'=>∃(h':Heap) (tk:Nat) (iu:Array Value) (c':Nat),q'=.ok (.ret (.ref L))∧s'={s with heap:=h',toks:=tk}∧(∀b x,s.heap.get? b=some x->h'.get? b=some x) ∧
      h'.get? L=some {cls:=.type "list",dict:=none,data:=.seq iu c',slots:=#[]}∧ItemsOf P iu n) {s with heap:=h3}:=λh3 c k3 g3=>by
  refine codeAny_extend_loopS ((W I hIa).toS) hn L (by simp only[aT,cN,fr,or_false,not_or];exact⟨hIL,dP ha⟩) (.ref L) n 0 _ #[] c rfl (cz _) (h0 I h3 (k3 a o (bB ha) (k2 _ _ (k1 _ _ ho))) (k3 I oi (cF hIL) g2)) g3 (ItemsOf.nil P) λs' iu c' hm hS mC=>?_
  obtain⟨h',g',d',lS,k7⟩:=s';have eg:g'=s.gens:=hm.gens;have ed:d'=s.drawn:=hm.drawn;have eo:k7=s.os:=hm.os;subst eg;subst ed;subst eo;refine⟨h',lS,iu,c',rfl,rfl,λb x e=>?_,hS,mC⟩;have hb:b<L:=by rw[← hL];exact aP e
  exact hm.heap b x (by simp only[aT,cN,fr,or_false,not_or];exact⟨bB hb,by rw[← hI,z1];exact bB (cW hb)⟩) (k3 b x (bB hb) (k2 _ _ (k1 _ _ e)))
 have fin : ∀ (q' : Result) (s' : Shared),(∃ (h' : Heap) (tk : Nat) (iu : Array Value) (c' : Nat),q' = .ok (.ret (.ref L)) ∧ s' = { s with heap:=h',toks:=tk } ∧ (∀ b x,s.heap.get? b = some x -> h'.get? b = some x) ∧
       h'.get? L=some {cls:=.type "list",dict:=none,data:=.seq iu c',slots:=#[]}∧ItemsOf P iu n)->∃h' tk iu c',q'=.ok (.ret (.ref L))∧s'={s with heap:=h',toks:=tk}∧h'.get? L=some {cls:=.type "list",dict:=none,data:=.seq iu c',slots:=#[]}∧R iu.toList {s with heap:=h',toks:=tk}:=
  λq' s' ⟨h',tk,iu,c',e1,e2,e3,e4,e5⟩=>⟨h',tk,iu,c',e1,e2,e4,q h' tk iu e3 (by rw[hL];exact er (aP e4)) e5⟩
 refine eW (λ_=>?_) (λ_=>aD ⟨fX PySem.F.plain_extend_loop _,d4 (key h2 0 (λb x _ e=>e) (k2 _ _ g1)) λq' s' z=>?_⟩)
 ·refine aB (wpAny_rule ?_)
  refine aB ?_;show wpAny _ _ (updateSeq L (·.push .none) >>= λ_=>updateSeq L (·.pop)) _ _ _;have g3:=k2 _ _ g1;refine aB (wpAny_updateSeq g3 rfl ?_);have g4:=cv (Obj.mapSeq (·.push Value.none)) g3 rfl;refine wpAny_updateSeq (hz:=by seq_fits) g4 rfl ?_;have g5:=cv (Obj.mapSeq (·.pop)) g4 rfl;refine aD ⟨fX PySem.F.plain_extend_loop _,d4 (key _ _ (λb x hb e=>(cL _ _ (cF hb)).trans ((cL _ _ (cF hb)).trans e)) g5) λq' s' z=>?_⟩;obtain⟨h',tk,iu,c',rfl,rfl,e4,e5⟩:=fin q' s' z;show wpAny _ A (load L >>= _) _ _ _;exact aB (wpAny_load e4 (aD e5))
 ·obtain⟨h',tk,iu,c',rfl,rfl,e4,e5⟩:=fin q' s' z
  show wpAny _ A (load L >>= _) _ _ _;exact aB (wpAny_load e4 (aD e5))
def R8{v:Value}{ns:iB}{Q:g6}(kc:ns.length<64)(hc:∀(R:iA->Shared->Prop) (E':g6),(∀(h':Heap) (tk:Nat) (vs:iA) (ms:iB),(∀b x,s.heap.get? b=some x->h'.get? b=some x)->s.heap.objs.size<=h'.objs.size->IntsAre vs ms->ms.Perm ns->R vs {s with heap:=h',toks:=tk})->wpAny (model prog w) A.in1 (collect v) R E' s)(q:∀(h':Heap) (tk:Nat) (B:Addr) (us:iA) (ms:iB) (c:Nat),(∀b x,s.heap.get? b=some x->h'.get? b=some x)->s.heap.objs.size<=B->h'.get? B=some (seqObj "list" us.toArray c)->IntsAre us ms->ms.Perm ns->ms.Pairwise (·<=·)->Q (.ref B) {s with heap:=h',toks:=tk}):wpAny (model prog w) A (call (.builtin "sorted") [v]) Q E s:=by
 refine Calls.call_function_entry kind_sorted plain_sorted entry_sorted (args_sorted1 _) (show wpAny _ _ (Builtin.«sorted» _) _ _ _ from ?_);unfold Builtin.«sorted»;refine aB (m:=checkCount "sorted" 1 1 _) (aD (aB (hc _ _ λh' tk vs ms kk hB hI hp=>?_)));have im:vs.length=ns.length:=by rw[IntsAre.length hI,hp.length_eq]
 refine aB (wpAny_newList ?_ (by rw[cA];omega));have g1:(h'.push (seqObj "list" vs.toArray 0)).get? h'.objs.size=some (seqObj "list" vs.toArray 0):=aZ _ rfl;refine aB (cE (dI slot_list_sort ⟨_,g1,rfl⟩ entry_list_sort (list_sort_tree (s:={s with heap:=h'.push (seqObj "list" vs.toArray 0),toks:=tk}) g1 hI (by omega) λout oa a1 a2 a3=>⟨_,rfl,aD ⟨_,rfl,?_⟩⟩) (args_list_sort _)));obtain⟨e,he⟩:=sortedHeap_at (out:=out) g1;refine q _ _ h'.objs.size out.toList oa e (λb x hx=>?_) hB (by rw[show out.toList.toArray=out by simp];exact he) a1 (a2.trans hp) a3;have hb:b<h'.objs.size:=aP (kk b x hx);rw[sortedHeap_old (bB hb) (by rw[dH];exact cW hb)];exact aI _ (kk b x hx)
def sort_set{Q:g6}(hh:A.handled=none)(S:SetL (byT w) s.heap a ks)(hn:ks.length<64)(q:∀(h':Heap) (tk:Nat) (B:Addr) (us:iA) (ms:iB) (c:Nat),(∀b x,s.heap.get? b=some x->h'.get? b=some x)->s.heap.objs.size<=B->h'.get? B=some (seqObj "list" us.toArray c)->IntsAre us ms->ms.Perm ks->ms.Pairwise (·<=·)->Q (.ref B) {s with heap:=h',toks:=tk}):wpAny (model prog w) A (call (.builtin "sorted") [.ref a]) Q E s:=by
 have S0:=S;obtain⟨o,es,ep,t,ho,hx,hd,⟨js,hp,hq⟩,nd,T,hl⟩:=S;have hz:es.size=ks.length:=S0.len ho hd;refine R8 hn (λR E' k=>?_) q
 refine Qt (T:="set") (o:=o) (n:=es.size) (by decide) (by decide) ho hx.1 (by rw[cA];omega) (λs1 Q' E1 hT q1=>E5 hT q1)
  (λs1 Q' E1 h1 q1=>Ry h1 hx hd T hl q1) (λI hI=>HX (A:=A.in1.in1) (by simp[hh]) I a hI o hd) (λI h e1 e2=>⟨e1,es,ep,t,0,_,hd,T,hl,λ_ p hp=>⟨λz=>absurd z (d0 _),λ_=>cz _⟩,e2,rfl,rfl⟩) rfl λh' tk iu kk hB hI=>?_
 obtain⟨oe,p1,p2⟩:=WO (Wx w a ep es) hp;refine k h' tk iu.toList oe kk hB ?_ (p2.trans hq);have jG:(Te w a ep es).toList.length=iu.toList.length:=by rw[(Wx w a ep es).length_eq,aQ,aQ,hI.1]
 have he:iu.toList=(Te w a ep es).toList.map (·.2):=by
  refine List.ext_getElem (by rw[aA,jG]) λi h1 h2=>?_
  obtain⟨e,e1,e2⟩:=hI.2 i iu[i] (bZ (by simpa using h1));rw[List.getElem_map,eK,e2];have:=(dO.mp e1).2;rw[eK,this]
 rw[he];clear he jG hI p2;generalize (Te w a ep es).toList=l at p1
 induction p1 with
 |nil=>exact .nil
 |cons r _ ih=>
  obtain⟨_,t,e⟩:=r;rw[aU,e];exact .cons _ t ih
end
end Tb
namespace Tb
section
variable{prog:Program}{w:World}{A:Around}{E:g6}{s:Shared}{a:Addr}{ks:iB}
def CM(v:Value){Q:g6}(q:Q (.ref s.heap.objs.size) {s with heap:=s.heap.push (XQ (byT w))}):codeAny (model prog w) A (.call (.builtin "set.__new__") ⟨[.type "set",v],[]⟩) (wants Q E) s:=by
 refine codeAny_of_tree ?_;show wpAny _ A.in1 (do checkBuiltinCall "set.__new__" ⟨[.type "set",v],[]⟩;again (.builtin "set.__new__" ⟨[.type "set",v],[]⟩)) _ _ s;refine aB (wpAny_of_eq (PySem.F.newCall_set_1 v) (aD ⟨fX PySem.F.plain_set_new _,eB PySem.F.entry_set_new ?_⟩));rw[dX PySem.F.plain_set_new _];unfold Builtin.«set.__new__» Builtin.Frozenset.newClass;have hsub:=sub_set_self;obtain⟨hp,g,d,tk,os⟩:=s;dsimp only
 wp_walk
 refine dq (aD ?_);dsimp only;simp only[newObj];refine aB (wpAny_alloc (aD ?_));exact aD q
def Nu{v:Value}{Q:g6}(hb:∀(R:Unit->Shared->Prop) (E':g6),(∀h' tk,Q (.ref s.heap.objs.size) {s with heap:=h',toks:=tk}->R () {s with heap:=h',toks:=tk})->wpAny (model prog w) A.in1.in1 (Builtin.Frozenset.updateFrom "set.__init__" s.heap.objs.size v) R E' {s with heap:=s.heap.push (XQ (byT w))}):wpAny (model prog w) A (call (.type "set") [v]) Q E s:=by
 obtain⟨c,tl,og⟩:=cS.mro;have hmade:=cS.made;have hsub:=cS.sub;refine wpAny_call (codeAny_of_tree ?_);show wpAny _ _ (callAny (.type "set") _) _ _ _;refine aD ⟨Code.quiet_builtin _ (by decide +kernel),eB PySem.F.entry_type_call ?_⟩;rw[Around.under_plain (weight_type_call_type "set" [v] []) rfl];have h1:=cS.notType;have h2:=cS.canCreate;have hct:=PySem.F.typeCall_set_1 v
 repeat (any_goals (first|assumption|wp_step))
 refine d4 (CM v (E:=E) (Q:=λobj iq=>obj=.ref s.heap.objs.size∧iq={s with heap:=s.heap.push (XQ (byT w))}) ⟨rfl,rfl⟩) λr iq hr=>?_
 cases r with
 |error e=>exact hr
 |ok fl=>
  cases fl with
  |ret obj=>
   obtain⟨rfl,rfl⟩:=hr;have hS:(s.heap.push (XQ (byT w))).get? s.heap.objs.size=some (XQ (byT w)):=aZ _ rfl;have hT:Shared.TypeIs {s with heap:=s.heap.push (XQ (byT w))} (.ref s.heap.objs.size) "set":=⟨_,hS,rfl⟩;have hli:=cS.init.lookup;have hbi:=cS.init.bind (.ref s.heap.objs.size)
   repeat (any_goals (first|assumption|wp_step))
   refine d4 (codeAny_call_builtin (R:=wants (λr ib=>r=.none∧∃h' tk,ib={s with heap:=h',toks:=tk}∧Q (.ref s.heap.objs.size) ib) E) cS.init.plain PySem.F.entry_set_init (check_set_init_1 hT ?_)) λmD ib jW=>?_
   ·unfold Builtin.«set.__init__» noKeywords
    have jt:=hb;generalize hU:Builtin.Frozenset.updateFrom=U at jt
    wp_walk
    exact jt _ _ λh' tk hq=>aD ⟨rfl,h',tk,rfl,hq⟩
   ·cases mD with
    |error e=>exact jW
    |ok fl₂=>
     cases fl₂ with
     |ret r=>
      obtain⟨rfl,h',tk,rfl,hq⟩:=jW
      repeat (any_goals (first|assumption|wp_step))
     |_=>exact jW.elim
  |_=>exact hr.elim
end
end Tb
namespace Tb
def YM(ks js:iB):iB:=js.foldl Si ks
def DZ{ks:iB}{k x:Int}:x∈Si ks k ↔ x∈ks∨x=k:=by
 unfold Si;split
 ·rename_i h
  have h:k∈ks:=by simpa using h
  exact⟨.inl,λz=>z.elim id λe=>e ▸ h⟩
 ·simp
def Tt:∀{js ks:iB} {x:Int},x∈YM ks js ↔ x∈ks∨x∈js
 |[],ks,x=>by simp[YM]
 |j::js,ks,x=>by
  show x∈YM (Si ks j) js ↔ _;rw[Tt,DZ,aT,or_assoc]
def XI:∀(js ks:iB),(YM ks js).length<=ks.length+js.length
 |[],ks=>aM _
 |j::js,ks=>by
  have h1:=XI js (Si ks j);have h2:=Dj ks j;show(YM (Si ks j) js).length<=_;rw[bG];omega
def Sv(ks js:iB)(k:Int):YM ks (js++[k])=Si (YM ks js) k:=by
 unfold YM;rw[dv];rfl
section
variable{prog:Program}{w:World}{A:Around}{E:g6}{s:Shared}{a:Addr}{ks:iB}
def FM{v:Value}{T:String}{Q:Bool->Shared->Prop}(hT:s.TypeIs v T)(h1:isSubtype (.type T) (.type "set")=pure false)(h2:isSubtype (.type T) (.type "frozenset")=pure false)(q:Q false s):wpAny (model prog w) A (Builtin.Frozenset.isAnySet v) Q E s:=by
 show wpAny _ _ (isInstance v (.type "set") >>= _) _ _ _;refine aB (dm hT h1 ?_);show wpAny _ _ (isInstance v (.type "frozenset")) _ _ _;exact dm hT h2 q
def QL{v:Value}{Q:Bool->Shared->Prop}(hT:s.TypeIs v "set")(q:Q true s):wpAny (model prog w) A (Builtin.Frozenset.isAnySet v) Q E s:=by
 show wpAny _ _ (isInstance v (.type "set") >>= _) _ _ _;refine aB (dm hT sub_set_self ?_);exact aD q
def Ed{R:Result->Shared->Prop}{I l:Addr}{items:Array Value}{ns:iB}{St:Nat->Shared->Prop}(hi:IntsAre items.toList ns)(hb:ns.length<31)(W:WalksS prog w A.in1 I [I,l] [I] (λx y=>y=x) items.size (λi v=>items[i]?=some v) St)(S:Addr)(m5:S≠I)(oh:S≠l):∀(k i:Nat) (s:Shared),items.size-i=k->i<=items.size->St i s->SetL (byT w) s.heap S (YM [] (ns.take i)) -> (∀s',Moved [S,I] (λx y=>y=x) s s'->SetL (byT w) s'.heap S (YM [] ns)->R (.ok (.ret .none)) s') -> codeAny (model prog w) A (.builtin "set.update.loop" ⟨[.ref S,.ref I],[]⟩) R s:=by
 have hnl:items.size=ns.length:=by rw[← aQ];exact IntsAre.length hi
 have hSw:S ∉ [I]:=by simpa using m5
 intro k
 induction k with
 |zero=>
  intro i s hk oo jD hS hR;have hin:i=items.size:=by omega
  subst hin;rw[hnl,List.take_length]at hS;refine eB gq ?_;rw[dX dW _];show wpAny _ A.in1 (pyNext (.ref I) >>= _) _ _ s;refine aB (W.done s _ _ jD λs' hm=>?_);show wpAny _ A.in1 (PySem.ret Value.none) _ _ s';exact aD (hR s' (hm.mono λb hb=>cO _ hb) (hS.keep λo e=>hm.heap S o hSw e))
 |succ k ih=>
  intro i s hk oo jD hS hR;have iR:i<items.size:=by omega
  refine eB gq ?_;rw[dX dW _];show wpAny _ A.in1 (pyNext (.ref I) >>= _) _ _ s;refine aB (W.item i s _ _ iR jD λv s' hP mE hm=>?_);obtain⟨t,hv⟩:=IntsAre.int_at hi i v (by rw[f7];exact hP);subst hv;have mF:=hS.keep λo e=>hm.heap S o hSw e
  show wpAny _ A.in1 (holding [_] (setAdd S (.int (ns.getD i 0) t)) >>= _) _ _ s';refine aB (cE ?_);unfold setAdd;refine cE (aB ((intKind prog w).pyHash (k:=ns.getD i 0) (ge _ _ _ _) ?_));have hl:=XI (ns.take i) [];rw[fw,cI]at hl;refine Sz (s:={s' with toks:=s'.toks+1}) mF (by omega) λh' sb S2=>?_
  have e:ns.take (i+1)=ns.take i++[ns.getD i 0]:=by
   rw[List.take_add_one,aN (by omega)];simp[show i<ns.length by omega]
  rw[← Sv,← e]at S2;refine aD ⟨fX dW _,ih (i+1) _ (by omega) iR (W.frame _ s' _ _ mE (du _) λb hb o e=>?_) S2 λj8 mG mH=>?_⟩
  ·rw[sb.2 b (λz=>by subst z;simp only[aT,cN,fr,or_false]at hb;rcases hb with z|z;exact m5 z;exact oh z)];exact e
  ·refine hR j8 (Moved.trans W.gtrans ((hm.mono λb hb=>cO _ hb).then_heap (du _) λb o hb e=>?_) mG) mH
   rw[sb.2 b (λz=>hb (by rw[z];exact cU))];exact e
def set_list{l:Addr}{items:Array Value}{ns:iB}{Q:g6}(hh:A.handled=none)(hl:s.heap.IsList l items)(hi:IntsAre items.toList ns)(hb:ns.length<31)(q:∀(h':Heap) (tk:Nat),SetL (byT w) h' s.heap.objs.size (YM [] ns)->(∀b o,s.heap.get? b=some o->h'.get? b=some o)->Q (.ref s.heap.objs.size) {s with heap:=h',toks:=tk}):wpAny (model prog w) A (call (.type "set") [.ref l]) Q E s:=by
 refine Nu λR E' hR=>?_
 obtain⟨ol,mI,kM,nl,m6⟩:=id hl;have hlS:l<s.heap.objs.size:=aP mI;have k1:∀b o,s.heap.get? b=some o->(s.heap.push (XQ (byT w))).get? b=some o:=λb o e=>aI _ e
 have F0:=Mf (byT w) s.heap;have z1:(s.heap.push (XQ (byT w))).objs.size=s.heap.objs.size+1:=dH ..;have hl1:(s.heap.push (XQ (byT w))).IsList l items:=⟨ol,k1 _ _ mI,kM,nl,m6⟩;have hT:Shared.TypeIs {s with heap:=s.heap.push (XQ (byT w))} (.ref l) "list":=⟨ol,k1 _ _ mI,kM⟩;unfold Builtin.Frozenset.updateFrom;refine aB (FM hT PySem.F.sub_list_set PySem.F.sub_list_frozenset ?_);rw[aE aH];refine aB (gf hT ?_);rw[aE (by decide)];refine aB (gS hl1 ?_);refine aB (wpAny_runValue ?_);have jb:l≠(s.heap.push (XQ (byT w))).objs.size:=by rw[z1];exact bB (cW hlS)
 refine Ed hi hb ((Walks.list (A:=A.in1.in1.in1) (by simp[hh]) _ l jb items).toS) s.heap.objs.size (by rw[z1];exact bB (dQ _)) (dP hlS) (items.size-0) 0 _ rfl (cz _)
  ⟨⟨_,aZ _ rfl,rfl,rfl⟩,hl1.push _⟩ (F0.keep λo e=>aI _ e) λs' hm mF=>?_
 obtain⟨h',g',d',lS,k7⟩:=s';have eg:g'=s.gens:=hm.gens;have ed:d'=s.drawn:=hm.drawn;have eo:k7=s.os:=hm.os;subst eg;subst ed;subst eo;refine aD (hR h' lS (q h' lS mF λb o e=>?_));have jt:b<s.heap.objs.size:=aP e;exact hm.heap b o (by simp only[aT,cN,fr,or_false,not_or,z1];exact⟨bB jt,bB (cW jt)⟩) (aI _ (k1 _ _ e))
def set_dict{d:Addr}{od:Obj}{es:Array DictEntry}{ep:Nat}{ns:iB}{Q:g6}(ho:s.heap.get? d=some od)(hc:od.cls=.type "dict")(hd:od.data=.dict es ep)(hs:(d == sysModules)=false)(hk:es.toList.length=ns.length∧∀i e,es[i]?=some e->e.hash=hashInt (ns.getD i 0)∧∃t,e.key=.int (ns.getD i 0) t) (hb:ns.length<31)(q:∀(h':Heap),SetL (byT w) h' s.heap.objs.size (YM [] ns)->(∀b o,s.heap.get? b=some o->h'.get? b=some o)->Q (.ref s.heap.objs.size) {s with heap:=h'}):wpAny (model prog w) A (call (.type "set") [.ref d]) Q E s:=by
 refine Nu λR E' hR=>?_
 have hlS:d<s.heap.objs.size:=aP ho;have k1:∀b o,s.heap.get? b=some o->(s.heap.push (XQ (byT w))).get? b=some o:=λb o e=>aI _ e
 have F0:=Mf (byT w) s.heap;have hT:Shared.TypeIs {s with heap:=s.heap.push (XQ (byT w))} (.ref d) "dict":=⟨od,k1 _ _ ho,hc⟩;have hsz:es.size=ns.length:=by rw[← aQ];exact hk.1
 unfold Builtin.Frozenset.updateFrom;refine aB (FM hT (by rw[eF];kernel_rfl) (by rw[eF];kernel_rfl) ?_);rw[aE aH];refine aB (gf hT ?_);rw[aC (by rfl)];refine aB (wpAny_rule ?_);refine aB (show wpAny (model prog w) A.in1.in1 (pure d) _ _ _ from aD ?_);rw[aE (by rw[hs];exact aH)];refine aB (wpAny_dictEpoch (k1 _ _ ho) hd ?_);refine aB (gW (k1 _ _ ho) hd ?_);refine aB (Qs F0 (by omega) λh1 sb1 ⟨o1,e1,p1,t1,a1,a2,a3,a4,a5,a6,a7⟩=>?_);subst a4;have S1:SetL (byT w) h1 s.heap.objs.size []:=⟨o1,#[],p1,t1,a1,a2,a3,⟨[],.nil,.refl _⟩,f9,a5,a7⟩;have k2:∀b o,s.heap.get? b=some o->h1.get? b=some o:=λb o e=>(sb1.2 b (bB (aP e))).trans (k1 _ _ e)
 refine aB (gW (k2 _ _ ho) hd ?_);rw[Std.Legacy.Range.forIn_eq_forIn_range'];refine aB (wpAny_forIn_list _ (λrest _ s'=>∃h',s'={s with heap:=h'}∧(∀b o,s.heap.get? b=some o->h'.get? b=some o)∧rest.length<=es.size∧rest=List.range' (es.size-rest.length) rest.length∧SetL (byT w) h' s.heap.objs.size (YM [] (ns.take (es.size-rest.length)))) _ ?_ ?_ _ _ ?_)
 ·rintro x rest b s' ⟨h',rfl,kk,hle,hr,S⟩
  rw[bG]at hle hr S;have hx:x=es.size-(rest.length+1):=by rw[gH]at hr;exact(dJ hr).1
  have hr':rest=List.range' (es.size-rest.length) rest.length:=by
   rw[gH]at hr;have:=(dJ hr).2;rw[show es.size-(rest.length+1)+1=es.size-rest.length by omega]at this;exact this
  have iR:x<es.size:=by omega
  refine aB (gW (kk _ _ ho) hd ?_);obtain⟨f1,t,f2⟩:=hk.2 x es[x] (bZ iR);rw[bZ iR];dsimp only;rw[f1,f2];have hl:=XI (ns.take x) [];rw[fw,cI]at hl;rw[← hx]at S;refine aB (cE (Sz (s:={s with heap:=h'}) S (by omega) λh2 mJ S2=>?_))
  have e:ns.take (x+1)=ns.take x++[ns.getD x 0]:=by
   rw[List.take_add_one,aN (by omega)];simp[show x<ns.length by omega]
  rw[← Sv,← e]at S2;have kT:∀b o,s.heap.get? b=some o->h2.get? b=some o:=λb o e=>(mJ.2 b (bB (aP e))).trans (kk b o e)
  refine aB (wpAny_dictEpoch (kT _ _ ho) hd ?_);rw[aE (by simp)];refine aD ⟨h2,rfl,kT,by omega,hr',?_⟩;rw[show es.size-rest.length=x+1 by omega];exact S2
 ·rintro b s' ⟨h',rfl,kk,_,_,S⟩
  rw[cI,Nat.sub_zero,hsz,List.take_length]at S;exact aD (hR h' s.toks (q h' S kk))
 ·refine⟨h1,rfl,k2,?_,?_,?_⟩
  ·rw[gC];simp
  ·rw[gC];simp
  ·rw[gC];simpa [YM] using S1
end
end Tb
namespace Tb
def CV:entryFor table "set.__sub__"=some Builtin.«frozenset.__sub__»:=
 entryFor_alias (id':="frozenset.__sub__") (by kernel_rfl) rfl (by decide +kernel) (by kernel_rfl)
section
variable{prog:Program}{w:World}{A:Around}{E:g6}{s:Shared}{a b:Addr}{ks ms:iB}
def SetL.type{h:Heap}{bt:Bool}(S:SetL bt h a ks):∃o,h.get? a=some o∧o.cls=.type "set":=let ⟨o,_,_,_,h1,h2,_⟩:=S;⟨o,h1,h2.1⟩
def SetL.lt{h:Heap}{bt:Bool}(S:SetL bt h a ks):a<h.objs.size:=let ⟨_,_,_,_,h1,_⟩:=S;aP h1
def SetL.ndp{h:Heap}{bt:Bool}(S:SetL bt h a ks):ks.Nodup:=let ⟨_,_,_,_,_,_,_,_,h,_⟩:=S;h
def VO{bt:Bool}{Q:Nat->Shared->Prop}(S:SetL bt s.heap a ks)(q:Q ks.length s):wpAny (model prog w) A (Builtin.Frozenset.sizeOf a) Q E s:=by
 have S0:=S;obtain⟨o,es,ep,t,ho,hx,hd,hp,nd,T,hl⟩:=S;unfold Builtin.Frozenset.sizeOf;refine aB (eZ ho hd T.fits (aD ?_));rw[S0.len ho hd];exact q
def Qk{bt:Bool}{Q:g6}(S:SetL bt s.heap a ks)(q:Q (.type "set") s):wpAny (model prog w) A (Builtin.Frozenset.baseOf a) Q E s:=by
 unfold Builtin.Frozenset.baseOf;refine aB (dm (T:="set") (b:=true) S.type sub_set_self (aD ?_));exact q
def LQ{Q:g6}(S:SetL (byT w) s.heap a ks)(hn:ks.length<32)(q:∀h',(∀b o,s.heap.get? b=some o->h'.get? b=some o)->SetL (byT w) h' s.heap.objs.size ks->Q (.ref s.heap.objs.size) {s with heap:=h'}):wpAny (model prog w) A (Builtin.Frozenset.copyOf a) Q E s:=by
 unfold Builtin.Frozenset.copyOf;refine aB (Qk S ?_);refine aB (Oc ?_);have F0:=Mf (byT w) s.heap;have k1:∀b o,s.heap.get? b=some o->(s.heap.push (XQ (byT w))).get? b=some o:=λb o e=>aI _ e
 have S1:=S.keep λo e=>k1 a o e
 refine aB (show wpAny (model prog w) A (pure s.heap.objs.size) _ _ _ from aD ?_);have iR:=S.lt;refine aB ?_;unfold setMerge;rw[aE (by simp;exact dP iR)];have S0:=S1;obtain⟨o,es,ep,t,ho,hx,hd,⟨js,hp,hq⟩,nd,T,hl⟩:=S1;have hz:es.size=ks.length:=S0.len ho hd;refine aB (cG ho hd T.fits ?_);dsimp only;by_cases h0:es.isEmpty=true
 ·rw[aC h0]
  have:ks=[]:=fL.mp (by rw[← hz];simpa using h0);subst this;exact aD (aD (q _ k1 F0))
 ·rw[aE h0]
  refine aB (Qs F0 (by omega) λh1 sb1 ⟨o1,e1,p1,t1,a1,a2,a3,a4,a5,a6,a7⟩=>?_);subst a4;have k2:∀b o,s.heap.get? b=some o->h1.get? b=some o:=λb o e=>(sb1.2 b (bB (aP e))).trans (k1 _ _ e)
  refine aB (cG a1 a3 a5.fits ?_);dsimp only;have hfl:t1.fill=0:=by unfold SetTable.fill;rw[a5.size,a5.dum];rfl
  have hzl:es.size<=sizeLine:=by rw[cA];omega
  unfold SetTable.road;rw[hfl,aE (by decide)];by_cases hm:(t1.mask == t.mask&&t.dummies.isEmpty)=true
  ·rw[aC hm]
   dsimp only;refine eG a1 a3 ?_ hzl;refine aD (q _ (λb o e=>(cL _ _ (cF (bB (aP e)))).trans (k2 b o e)) (Ux a1 a2 a3 hp hq nd ⟨T.gm,T.size,T.dum,T.ris,T.le,T.room,?_⟩ λz=>?_))
   ·show(t1.plain&&t.plain)=true
    rw[a5.pl,T.pl];rfl
   ·show(t1.led&&t.led)=true
    rw[a7 z,hl z];rfl
  ·rw[aE hm]
   dsimp only;obtain⟨t2,o2,e1,e2,e3,e4,e5⟩:=Lr (f:=t1.finger) (mv:=t1.moves) (led:=t1.led&&t.led) a5.gm (hs:=es.map (·.1)) (by rw[gc];exact a6);rw[gc]at e2 e3;rw[a5.pl,T.pl,show(true&&true)=true from rfl,e1]
   have hsz:(o2.filterMap (es[·]?)).size=es.size:=by
    rw[← aQ,fQ,(e2.filterMap _).length_eq,eD,aQ]
   have lr:(o2.filterMap (es[·]?)).toList.Perm es.toList:=by
    rw[fQ];refine(e2.filterMap _).trans ?_;rw[eD]
   obtain⟨kC,p2,q2⟩:=WO lr hp;refine aB ?_;show wpAny (model prog w) A (if ((o2.filterMap (es[·]?)).size != es.size)=true then ((unsupported _:Sem PUnit) >>= λ_=>pure (o2.filterMap (es[·]?),t2)) else pure (o2.filterMap (es[·]?),t2)) _ _ _;rw[aE (by rw[hsz];simp)];refine aD ?_;refine eG a1 a3 ?_ (by rw[hsz];exact hzl);exact aD (q _ (λb o e=>(cL _ _ (cF (bB (aP e)))).trans (k2 b o e)) (Ux a1 a2 a3 p2 (q2.trans hq) nd (by rw[hsz];exact e3) λz=>by rw[e5,a7 z,hl z];rfl))
def FC{id:String}{Q:g6}(Sa:SetL (byT w) s.heap a ks)(Sb:SetL (byT w) s.heap b ms)(hn:ks.length<31)(hm:ms.length<31)(hq:ks.length / 4<=ms.length∨ms=[])(q:∀(h':Heap) (rs:iB),(∀b o,s.heap.get? b=some o->h'.get? b=some o)->SetL (byT w) h' s.heap.objs.size rs->(∀k,k∈rs ↔ k∈ks∧k ∉ ms)->rs.length<=ks.length->Q (.ref s.heap.objs.size) {s with heap:=h'}):wpAny (model prog w) A (Builtin.Frozenset.difference id a (.ref b)) Q E s:=by
 have ha:=Sa.lt;have hb:=Sb.lt;unfold Builtin.Frozenset.difference;dsimp only;refine aB (QL Sb.type ?_);rw[aE (by decide)];refine aB (show wpAny (model prog w) A (pure b) _ _ _ from aD ?_);rw[aE (by simp),aC rfl];refine aB (VO Sb ?_);refine aB (VO Sa ?_);by_cases hp:ks.length / 4 > ms.length
 ·have hms:ms=[]:=hq.resolve_left (by omega)
  subst hms;rw[aC hp];refine aB (wpAny_rule ?_);refine aB (LQ Sa (by omega) λh1 k1 S1=>?_);refine aB (show wpAny (model prog w) A (pure s.heap.objs.size) _ _ _ from aD ?_);refine aB (cE ?_);unfold Builtin.Frozenset.differenceUpdate;rw[aE (by simp;exact bB hb)];have Sb1:=Sb.keep λo e=>k1 b o e
  refine aB (QL (s:={s with heap:=h1}) Sb1.type ?_);rw[aC rfl];refine aB (show wpAny (model prog w) A (pure b) _ _ _ from aD ?_);refine aB (VO (s:={s with heap:=h1}) Sb1 ?_);refine aB (VO (s:={s with heap:=h1}) S1 ?_);rw[aE (by simp)];have Sb0:=Sb1;obtain⟨o,es,ep,t,ho,hx,hd,mK,nd,T,hl⟩:=Sb1;have hz:es=#[]:=dE (Sb0.len ho hd);subst hz;dsimp only;refine aB (fS ho hd T.fits ?_);have hw:Te w b ep #[]=#[]:=dE (by have:=(Wx w b ep #[]).length_eq;simpa using this);refine aB (cE (aB (R9 ho hd T hl ?_)));rw[hw];refine aB (MeetsSeq2.wpAny_forIn_array _ (λrest _ s'=>rest=[]∧s'={s with heap:=h1}) _ (λx rest _ s' h=>nomatch h.1) ?_ #[] _ ⟨rfl,rfl⟩);rintro _ s' ⟨_,rfl⟩;refine aD ?_;have S1':=S1;obtain⟨o2,e2,p2,t2,c1,c2,c3,c4,c5,c6,c7⟩:=S1;unfold setTidy;refine aB (cG c1 c3 c6.fits ?_);dsimp only;rw[aE (by unfold SetTable.tooManyDummies;rw[c6.dum];simp)];exact aD (aD (q h1 ks k1 S1' (λk=>by simp) (aM _)))
 ·rw[aE hp]
  refine aB (Qk Sa ?_);refine aB (Oc ?_);refine aB (show wpAny (model prog w) A (pure s.heap.objs.size) _ _ _ from aD ?_);have F0:=Mf (byT w) s.heap;have k1:∀b o,s.heap.get? b=some o->(s.heap.push (XQ (byT w))).get? b=some o:=λb o e=>aI _ e
  have Sa0:=Sa;obtain⟨o,es,ep,t,ho,hx,hd,⟨js,mz,oq⟩,nd,T,hl⟩:=Sa;refine aB (fS (k1 _ _ ho) hd T.fits ?_);rw[aC rfl];refine aB (cE (aB (R9 (k1 _ _ ho) hd T hl ?_)));obtain⟨kC,p2,q2⟩:=WO (Wx w a ep es) mz;have q3:kC.Perm ks:=q2.trans oq;have l2:kC.length=ks.length:=q3.length_eq;refine aB (MeetsSeq2.wpAny_forIn_array _ (λrest _ s'=>∃(h':Heap) (dn jr:iB),s'={s with heap:=h'}∧(∀b o,s.heap.get? b=some o->h'.get? b=some o)∧kC=dn++jr∧Paired EIn rest jr∧SetL (byT w) h' s.heap.objs.size (YM [] (dn.filter λk=>!ms.contains k))) _ ?_ ?_ _ _ ⟨_,[],kC,rfl,k1,rfl,p2,F0⟩)
  ·rintro⟨hx',vx⟩ rest _ s' ⟨h',dn,jr,rfl,kk,e1,e2,S⟩
   cases e2 with
   |@cons _ j _ jr r e2=>
    obtain⟨r1,tk,r2⟩:=r;have r1:hx'=hashInt j:=r1;have r2:vx=.int j tk:=r2;subst r1 r2;have Sb1:=Sb.keep λo e=>kk b o e
    have m6:dn.length<ks.length:=by rw[← l2,e1,aS,bG];omega
    have jb:a≠s.heap.objs.size:=bB ha
    have fin : ∀ (h2 : Heap) (Q' : ForInStep PUnit -> Shared -> Prop),(∀ b o,s.heap.get? b = some o -> h2.get? b = some o) -> Q' (.yield PUnit.unit) { s with heap:=h2 } ->
        wpAny (model prog w) A (Builtin.Frozenset.unchanged id a ep >>= λ_=>pure (ForInStep.yield PUnit.unit)) Q' E {s with heap:=h2}:=λh2 Q' kT z=>by
     unfold Builtin.Frozenset.unchanged;refine aB (aB (fS (s:={s with heap:=h2}) (kT _ _ ho) hd T.fits ?_));rw[aE (by simp)];exact aD (aD z)
    refine aB (cE ?_);rw[aC rfl];refine aB (wpAny_setFind_of (knd:=intKind prog w) (k:=j) (ge _ _ _ _) rfl (Sb1.of (by unfold scanBound;omega)) λr hr=>?_);refine aB (aD ?_);rw[hr];cases hc:ms.contains j with
    |true=>
     rw[aE (by simp)];refine aD (fin h' _ kk ⟨h',dn++[j],jr,rfl,kk,by rw[e1];simp,e2,?_⟩);rw[dF,List.filter_cons_of_neg (by simpa using hc),fW,ce];exact S
    |false=>
     rw[aC (by rfl)];have hl:=XI (dn.filter λk=>!ms.contains k) [];have hl2:=aF (λk=>!ms.contains k) dn;rw[cI]at hl;refine aB (Sz (s:={s with heap:=h'}) S (by omega) λh2 mJ S2=>?_);have kT:∀b o,s.heap.get? b=some o->h2.get? b=some o:=λb o e=>(mJ.2 b (bB (aP e))).trans (kk b o e)
     refine aD (fin h2 _ kT ⟨h2,dn++[j],jr,rfl,kT,by rw[e1];simp,e2,?_⟩);rw[dF,List.filter_cons_of_pos (by simpa using hc),fW,Sv];exact S2
  ·rintro _ s' ⟨h',dn,jr,rfl,kk,e1,e2,S⟩
   cases e2;rw[ce]at e1;subst e1;refine aD (aD (q h' _ kk S (λk=>?_) ?_))
   ·rw[Tt,aL,q3.mem_iff]
    simp
   ·have hl:=XI (kC.filter λk=>!ms.contains k) []
    have hl2:=aF (λk=>!ms.contains k) kC;rw[cI]at hl;omega
def sub_set{Q:g6}(Sa:SetL (byT w) s.heap a ks)(Sb:SetL (byT w) s.heap b ms)(hn:ks.length<31)(hm:ms.length<31)(hq:ks.length / 4<=ms.length∨ms=[])(q:∀(h':Heap) (rs:iB),(∀b o,s.heap.get? b=some o->h'.get? b=some o)->SetL (byT w) h' s.heap.objs.size rs->(∀k,k∈rs ↔ k∈ks∧k ∉ ms)->rs.length<=ks.length->Q (.ref s.heap.objs.size) {s with heap:=h'}):wpAny (model prog w) A (binaryOp .Sub (.ref a) (.ref b)) Q E s:=by
 refine wpAny_binaryOp_same Sa.type Sb.type PySem.F.fills_set_sub PySem.F.slot_set_sub (dI PySem.F.slot_set_sub Sa.type CV ?_ (PySem.F.args_set_sub_2 _ _));show wpAny (model prog w) A.in1 (Builtin.Frozenset.slot1 "__sub__" ⟨[.ref a,.ref b],[]⟩ >>= _) _ _ _;unfold Builtin.Frozenset.slot1 slotArgs;simp only[fF,fh,d6,↓reduceIte,bind_assoc,cI,et];refine aB (aD ?_);refine aB (aD ?_);refine aB ?_;show wpAny (model prog w) A.in1 (Builtin.Frozenset.isAnySet (.ref a) >>= _) _ _ _;refine aB (QL Sa.type ?_);show wpAny (model prog w) A.in1 (Builtin.Frozenset.isAnySet (.ref b)) _ _ _;refine QL Sb.type ?_;rw[aE (by decide)];refine aB (show wpAny (model prog w) A.in1 (pure a) _ _ _ from aD ?_);refine aB (FC Sa Sb hn hm hq λh' rs kk S hr hl=>?_);exact aD ⟨_,rfl,(λz=>nomatch z),q h' rs kk S hr hl⟩
end
end Tb
end L2
namespace L2
noncomputable section
open PySem PySem.Spec PyProof.Rows Tb
def SY(bt:Bool)(p:Addr)(ks:iB):HO:=.ext λh=>SetL bt h p ks
def T5{α:Type}:List (Key × α)->Option (iB)
 |[]=>some []
 |(.inl k,_)::r=>match T5 r with
  |some ns=>some (k::ns)
  |none=>none
 |_=>none
def RU{α:Type}:∀{kvs:List (Key × α)} {ns:iB},T5 kvs=some ns->kvs.map (·.1)=ns.map Sum.inl
 |[],_,e=>by cases e;rfl
 |(.inr _,_)::_,_,e=>by cases e
 |(.inl k,v)::r,ns,e=>by
  have e:(match T5 r with|some ns=>some (k::ns)|none=>none)=some ns:=e
  match hr:T5 r,e with
  |some ms,e=>
   have e:some (k::ms)=some ns:=e;cases e;rw[aU,aU,RU hr]
  |none,e=>exact nomatch e
def N6{F:Hp}{β:h8}:∀{kvs:iL} {qs:List (Key × V)},RK F β kvs qs->qs.map (·.1)=kvs.map (·.1)
 |_,_,.nil=>rfl
 |_,_,.cons h r=>by rw[aU,aU,N6 r]
section
variable{X:Cx}{E:XK}
def N9{P:Program}{w:World}{H:Hp}{h:Heap}{bt:Bool}{p:Addr}{ks:iB}(S:SetL bt h p ks):ObjOk P w H h p (SY bt p ks):=
 ⟨S,let ⟨o,_,_,_,e,_⟩:=S;⟨o,e⟩,λh1 h2 S1 k=>S1.keep k⟩
def MJ{P:Program}{w:World}{H:Hp}{h:Heap}{bt:Bool}{p:Addr}{ks:iB}(ok:HOk P w H h)(e:H p=some (SY bt p ks)):SetL bt h p ks:=(ok p _ e).1
def rSet(X:Cx):iH->Hp->VK->Prop:=λxs H Q=>∃l ns,xs=[.ref l]∧(SqL X.K H l (ns.map V.int)∨∃kvs,H l=some (.dK kvs)∧kvs.map (·.1)=ns.map Sum.inl)∧ns.length<31∧∀p,H p=none->Q (.ref p) (upd H p (SY (byT X.w) p (YM [] ns)))
def AB{kvs:List (Key × V)}{vs:List (Key × Value)}{ns:iB}(r:KV kvs vs)(e:kvs.map (·.1)=ns.map Sum.inl):vs.map (·.1)=ns.map Sum.inl:=by
 rw[← e];clear e
 induction r with
 |nil=>rfl
 |cons h _ ih=>rw[aU,aU,ih,h.1]
def KC(hc:X.calm=true):CallR X (.type "set") (rSet X):=by
 intro gV s σ H xs us Q I r h;obtain⟨l,ns,rfl,hl,hb,q⟩:=h;obtain⟨u,rfl,ru⟩:=Oj r;cases (show u=Value.ref l from ru);rcases hl with hl|⟨kvs,hd,hk⟩
 ·obtain⟨ik,rv,p,hz⟩:=I.list hl
  refine Tb.set_list (I.ok.hd hc) p.isList (by simpa using SF rfl rv) hb λh' tk S kk=>?_
  exact⟨.ref s.heap.objs.size,_,I.laid (t':=tk) kk (aM _) (N9 S),rfl,q _ (I.hok.fresh (aM _))⟩
 ·obtain⟨z,hS,ws,rk,m⟩:=(show kvs.length<=sizeLine∧(l == sysModules)=false∧∃vs,KV kvs vs∧s.heap.DictOf (Z2 X.prog X.w) l vs from I.hok l _ hd)
  obtain⟨o,es,ep,ho,jT,iX,lU,hp,hn⟩:=m;have jU:=AB rk hk;have jG:ws.length=ns.length:=by have:=cx List.length jU;simpa using this
  refine Tb.set_dict (ns:=ns) ho jT.1 iX hS ⟨by rw[hp.length,jG],λi e he=>?_⟩ hb λh' S kk=>?_
  ·have hi:i<ns.length:=by
    have:=(dO.mp he).1;have h2:=hp.length;rw[aQ]at h2;omega
   have hg:ws[i]?=some (ws[i]'(by omega)):=aN _
   have hk1:(ws[i]'(by omega)).1=Sum.inl (ns.getD i 0):=by
    have h3:(ws.map (·.1))[i]?=(ns.map Sum.inl)[i]?:=by rw[jU]
    rw[bC,bC,hg,aN hi]at h3;have h4:(ws[i]'(by omega)).1=Sum.inl ns[i]:=bT h3;rw[h4];simp[hi]
   obtain⟨g1,_⟩:=hp.get? (e:=e) (by rw[f7];exact he) hg;have g1:(Z2 X.prog X.w).is (ws[i]'(by omega)).1 e.key=true:=g1;rw[hk1]at g1;obtain⟨t,ht⟩:=fT (k:=ns.getD i 0) (v:=e.key) g1;obtain⟨k',c1,c2⟩:=lU e (Array.mem_of_getElem? he);have:k'=Sum.inl (ns.getD i 0):=(Z2 X.prog X.w).inj _ _ _ c1 g1;rw[this]at c2;exact⟨c2,t,ht⟩
  ·exact⟨.ref s.heap.objs.size,_,I.laid (t':=s.toks) kk (aM _) (N9 S),rfl,q _ (I.hok.fresh (aM _))⟩
def rSubS(X:Cx):R2:=λx y H Q=>∃a b ks ms,x=.ref a∧y=.ref b∧H a=some (SY (byT X.w) a ks)∧H b=some (SY (byT X.w) b ms)∧ks.length<31∧ms.length<31∧(ks.length / 4<=ms.length∨ms=[]) ∧
 ∀p rs,H p=none->rs.Nodup->(∀k,k∈rs ↔ k∈ks∧k ∉ ms)->rs.length<=ks.length->Q (.ref p) (upd H p (SY (byT X.w) p rs))
def CW:OpR X (binaryOp .Sub) (rSubS X):=by
 intro gV s σ H x y v u Q I rx ry h;obtain⟨a,b,ks,ms,rfl,rfl,ha,hb,h1,h2,h3,q⟩:=h;cases rx;cases ry;refine Tb.sub_set (MJ I.hok ha) (MJ I.hok hb) h1 h2 h3 λh' rs kk S hm hl=>?_
 exact⟨.ref s.heap.objs.size,_,I.laid (t':=s.toks) kk (aM _) (N9 S),rfl,q _ rs (I.hok.fresh (aM _)) S.ndp hm hl⟩
def Fz(X:Cx):iH->Hp->VK->Prop:=λxs H Q=>∃(a:Addr) (ks:iB),xs=[.ref a]∧(H a=some (SY (byT X.w) a ks)∨∃kvs,H a=some (.dK kvs)∧kvs.map (·.1)=ks.map Sum.inl)∧ks.length<64∧∀(p:Addr) (ms:iB),ms.Perm ks->ms.Pairwise (·<=·)->H p=none->Q (.ref p) (upd H p (.lst (ms.map V.int)))
def OD(hc:X.calm=true):CallR X (.builtin "sorted") (Fz X):=by
 intro gV s σ H xs us Q I r h;obtain⟨a,ks,rfl,ha,kc,q⟩:=h;obtain⟨u,rfl,ru⟩:=Oj r;cases (show u=Value.ref a from ru)
 have fin:∀(h':Heap) (tk:Nat) (B:Addr) (us:iA) (ms:iB) (c:Nat),(∀b x,s.heap.get? b=some x->h'.get? b=some x)->s.heap.objs.size<=B->h'.get? B=some (seqObj "list" us.toArray c)->IntsAre us ms->ms.Perm ks->ms.Pairwise (·<=·)->EP X gV σ Q (.ref B) {s with heap:=h',toks:=tk}:=λh' tk B us ms c kk hB e1 e2 e3 e4=>by
  have hl:ms.length=ks.length:=e3.length_eq;exact⟨.ref B,_,I.laid (o:=.lst (ms.map V.int)) (t':=tk) kk hB ⟨by rw[aA,cA];omega,us,c,N7 e2,e1⟩,rfl,q B ms e3 e4 (I.hok.fresh hB)⟩
 rcases ha with ha|⟨kvs,hd,hk⟩
 ·exact Tb.sort_set (I.ok.hd hc) (MJ I.hok ha) kc fin
 ·obtain⟨z,hS,ws,rk,m⟩:=(show kvs.length<=sizeLine∧(a == sysModules)=false∧∃vs,KV kvs vs∧s.heap.DictOf (Z2 X.prog X.w) a vs from I.hok a _ hd)
  have jU:=AB rk hk;have jG:ws.length=ks.length:=by have:=cx List.length jU;simpa using this
  obtain⟨o,es,ep,ho,jT,iX,lU,hp,hn⟩:=m;refine R8 kc (λR E' k=>?_) fin
  refine Qt (T:="dict") (o:=o) (oi:={cls:=.type "dict_keyiterator",data:=.fields #[.ref a,.int 0 0,.int ws.length 0,.int ep 0]}) (n:=ws.length) (by decide) (by decide) ho jT.1 (by rw[cA];omega) (λs1 Q' E1 hT q1=>G3 hT q1)
   (λs1 Q' E1 h1 q1=>gT (knd:=Z2 X.prog X.w) (kvs:=ws) (ep:=ep) hS ⟨o,es,h1,jT,iX,lU,hp,hn⟩ q1)
   (λI' hI=>Walks.dictKeys (knd:=Z2 X.prog X.w) (A:=X.A.in1.in1) (by simp[I.ok.hd hc]) I' a hI ws ep) (λI' h e1 e2=>⟨⟨_,e2,rfl,rfl⟩,⟨o,es,e1,jT,iX,lU,hp,hn⟩⟩) rfl λh' tk iu kk hB hI=>?_
  refine k h' tk iu.toList ks kk hB ?_ (.refl _);have hal:iu.toList.length=ks.length:=by rw[aQ,hI.1,jG]
  have hat:∀i (h1:i<iu.toList.length) (h2:i<ks.length),∃t,iu.toList[i]=.int ks[i] t:=λi h1 h2=>by
   obtain⟨k',x,e1,e2⟩:=hI.2 i iu.toList[i] (by rw[← f7];exact aN h1);have h3:(ws.map (·.1))[i]?=(ks.map Sum.inl)[i]?:=by rw[jU]
   rw[bC,bC,e1,aN h2]at h3;have h4:k'=Sum.inl ks[i]:=bT h3;rw[h4]at e2;exact fT (k:=ks[i]) e2
  clear hI k jU jG hp rk hk;generalize iu.toList=l at hal hat;clear hB kk fin q kc
  induction l generalizing ks with
  |nil=>
   cases ks with
   |nil=>exact .nil
   |cons _ _=>cases hal
  |cons y l ih=>
   cases ks with
   |nil=>cases hal
   |cons k0 ks=>
    obtain⟨t,e⟩:=hat 0 (by simp) (by simp);have e:y=.int k0 t:=e;rw[e];exact .cons k0 t (ih ks (by simpa using hal) λi h1 h2=>hat (i+1) (by simpa using h1) (by simpa using h2))
def sdL(ns ks:iB):iB:=Yt ((YM [] ns).filter λk=>!ks.contains k)
def Ld(x:Wv):Mw (iB):=λom=>match x with
 |.lst ws=>match X3 ws with
  |some ns=>if ns.length<31 then some (.ok ns,om) else none
  |none=>none
 |_=>none
def Rk(ns:iB)(y:Wv):Mw (iI):=λom=>match y with
 |.o h=>match om[h]? with
  |some (.dk kvs)=>match T5 kvs with
   |some ks=>if ks.length<31∧((YM [] ns).length / 4<=(YM [] ks).length∨ks=[]) then some (.ok ((sdL ns ks).map Wv.int),om) else none
   |none=>none
  |_=>none
 |_=>none
def Tr(k:iI->Mw Wv)(fa fb:FE):FE:=λsl=>bnd (fa sl) λx=>bnd (Ld x) λns=>bnd (fb sl) λy=>bnd (Rk ns y) k
variable{e a b:Expr}{es:iE}{fa fb:FE}{fs:FA}{k:iI->Mw Wv}{p p1 p2 p3 pos ki kj:Pos}
def Qe:∀(js ks:iB),ks.Nodup->(YM ks js).Nodup
 |[],ks,h=>h
 |j::js,ks,h=>Qe js (Si ks j) (by
  unfold Si;split
  ·exact h
  ·rename_i hc
   rw[cj];refine⟨h,by simp,λx hx y hy z=>hc ?_⟩;rw[cN]at hy;rw[← hy,← z];simpa using hx)
def TC(l:iB)(x:Int):x∈Yt l ↔ x∈l:=(ZT l).mem_iff
def Ik(hk:Ur E k)(hc:X.calm=true)(hg:Gl X "sorted")(hm:X.mg "sorted"=none)(m7:Gl X "set")(jH:X.mg "set"=none)(ha:PE X a (tE E fa))(hb:PE X b (tE E fb))(ea:starEach [a] X.env=(false,eval a X.env)::starEach [] X.env:=by rfl) (eb:starEach [b] X.env=(false,eval b X.env)::starEach [] X.env:=by rfl)(h0:starEach [.BinOp (.Call (.Name "set" p1) [a] [] ki) .Sub (.Call (.Name "set" p2) [b] [] kj) p3] X.env=(false,eval (.BinOp (.Call (.Name "set" p1) [a] [] ki) .Sub (.Call (.Name "set" p2) [b] [] kj) p3) X.env)::starEach [] X.env:=by rfl)(l1:(backTo ki (starEach [] X.env)).any (·.1)=false:=by rfl) (l2:(backTo kj (starEach [] X.env)).any (·.1)=false:=by rfl) (l3:(backTo pos (starEach [] X.env)).any (·.1)=false:=by rfl):PE X (.Call (.Name "sorted" p) [.BinOp (.Call (.Name "set" p1) [a] [] ki) .Sub (.Call (.Name "set" p2) [b] [] kj) p3] [] pos) (tE E (Tr k fa fb)):=
 (OB (OD hc) hg hm dY (Wz (FU CW (Nb (KC hc) m7 jH (by rfl) (Wz ha V8 ea) (by decide) (by decide) ea l1) (Nb (KC hc) m7 jH (by rfl) (Wz hb V8 eb) (by decide) (by decide) eb l2)) V8 h0) (by decide) (by decide) h0 l3).weak λσ H Q ⟨F,β,om,sl,M,V,R⟩=>by
 refine⟨F,β,om,sl,M,V,R.bind λx om1 F1 H1 ij g1 M1 R1 v rv=>?_⟩;cases rv with
 |@lst pl xs ws hl rs=>
  unfold bnd Ld at R1;dsimp only at R1
  match hn:X3 ws,R1 with
  |none,R1=>exact R1.elim
  |some ns,R1=>
   dsimp only at R1;by_cases im:ns.length<31
   ·have R2:Res E ((bnd (fb sl) λy=>bnd (Rk ns y) k) om1) F1 H1 ij (PV Q):=by
     rw[aC im]at R1;exact R1
    have exs:=UM rs hn;subst exs;refine⟨pl,ns,rfl,.inl (.inl (Rd.same M1.sub hl)),im,λp hp=>?_⟩;have MU:=M1.newU (o:=SY (byT X.w) p (YM [] ns)) hp;have gU:=M1.gxU (o:=SY (byT X.w) p (YM [] ns)) hp;refine⟨F1,ij,om1,sl,MU,V.mono g1.toGr,(Res.mono gU R2).bind λy om2 F2 H2 i8 g2 M2 R3 u ru=>?_⟩
    have hpb:p ∉ ij:=λhb=>by
     obtain⟨i,hi⟩:=dA hb;obtain⟨z,hz⟩:=M1.there hi;rw[hp]at hz;cases hz
    have mK:H2 p=some (SY (byT X.w) p (YM [] ns)):=g2.keep p _ ZG hpb;cases ru with
    |@o hh d ed=>
     unfold bnd Rk at R3;dsimp only at R3
     match hx:om2[hh]?,R3 with
     |none,R3=>exact R3.elim
     |some (.ins _ _),R3=>exact R3.elim
     |some (.exc _),R3=>exact R3.elim
     |some (.dz _),R3=>exact R3.elim
     |some (.lst _),R3=>exact R3.elim
     |some (.dt _),R3=>exact R3.elim
     |some (.dk kvs),R3=>
      obtain⟨d',lD,_,qs,mL,rq⟩:=M2.at hx;rw[ed]at lD;cases lD;dsimp only at R3
      match jj:T5 kvs,R3 with
      |none,R3=>exact R3.elim
      |some ks,R3=>
       dsimp only at R3;by_cases hcond:ks.length<31∧((YM [] ns).length / 4<=(YM [] ks).length∨ks=[])
       ·have R4:Res E (k ((sdL ns ks).map Wv.int) om2) F2 H2 i8 (PV Q):=by
         rw[aC hcond]at R3;exact R3
        obtain⟨c1,c2⟩:=hcond;have la:=XI ns [];have lb:=XI ks [];rw[cI]at la lb;refine⟨d,ks,rfl,.inr ⟨qs,mL,by rw[N6 rq,RU jj]⟩,c1,λp2 j5=>?_⟩;have M3:=M2.newU (o:=SY (byT X.w) p2 (YM [] ks)) j5;have g3:=M2.gxU (o:=SY (byT X.w) p2 (YM [] ks)) j5;refine⟨p,p2,YM [] ns,YM [] ks,rfl,rfl,by rw[ZA (Z5 mK j5)];exact mK,ZG,by omega,by omega,c2.imp id (λz=>by rw[z];rfl),λp3 ky kS nd kh oX=>?_⟩;have M4:=M3.newU (o:=SY (byT X.w) p3 ky) kS;have g4:=M3.gxU (o:=SY (byT X.w) p3 ky) kS;refine⟨p3,ky,rfl,.inl ZG,by omega,λp4 ms lr ot ou=>?_⟩
        have ems:ms=sdL ns ks:=by
         refine Ud (lr.trans (List.Perm.trans ?_ (ZT _).symm)) ot (Wo _);have ndA:(YM [] ns).Nodup:=Qe _ _ f9;refine(List.perm_ext_iff_of_nodup nd (ndA.filter _)).mpr λz=>?_
         rw[kh z,aL,Tt (js:=ks)];simp
        rw[ems];exact(hk M4 (S6 _) (Res.mono (g3.trans g4) R4)).2 ou
       ·rw[aE hcond]at R3;exact R3.elim
    |_=>exact R3.elim
   ·rw[aE im]at R1;exact R1.elim
 |_=>exact R1.elim
def Vb(k:iI->Mw Wv)(ws:iI):Mw Wv:=λom=>match ws with
 |[x]=>match x with
  |.o h=>match om[h]? with
   |some (.dk kvs)=>match T5 kvs with
    |some ns=>if ns.length<64 then k ((Yt ns).map Wv.int) om else none
    |none=>none
   |_=>none
  |_=>none
 |_=>none
def KQ(lk:Ur E k):Qo E (Fz X) (Vb k):=by
 intro F H β om ws vs Q M rs R
 match ws,rs,R with
 |[],_,R=>exact R.elim
 |_::_::_,_,R=>exact R.elim
 |[x],.cons rx .nil,R=>
  cases rx with
  |@o hh d ed=>
   unfold Vb at R;dsimp only at R
   match hx:om[hh]?,R with
   |none,R=>exact R.elim
   |some (.ins _ _),R=>exact R.elim
   |some (.exc _),R=>exact R.elim
   |some (.dz _),R=>exact R.elim
   |some (.lst _),R=>exact R.elim
   |some (.dt _),R=>exact R.elim
   |some (.dk kvs),R=>
    obtain⟨d',lD,_,qs,mL,rq⟩:=M.at hx;rw[ed]at lD;cases lD;dsimp only at R
    match jj:T5 kvs,R with
    |none,R=>exact R.elim
    |some ns,R=>
     dsimp only at R;by_cases hl:ns.length<64
     ·rw[aC hl]at R
      refine⟨d,ns,rfl,.inr ⟨qs,mL,by rw[N6 rq,RU jj]⟩,hl,λq ms h1 h2 hq=>?_⟩;have e:ms=Yt ns:=Ud (h1.trans (ZT ns).symm) h2 (Wo ns);rw[e];exact(lk M (S6 _) R).2 hq
     ·rw[aE hl]at R;exact R.elim
  |_=>exact R.elim
def KI(lk:Ur E k)(hc:X.calm=true)(hg:Gl X "sorted")(hm:X.mg "sorted"=none)(ha:PA X [e] (tA E fs))(he:starEach [e] X.env=(false,eval e X.env)::starEach [] X.env:=by rfl)(iO:(backTo pos (starEach [] X.env)).any (·.1)=false:=by rfl):PE X (.Call (.Name "sorted" p) [e] [] pos) (tE E (fA (Vb k) fs)):=Up (OD hc) (KQ (X:=X) lk) hg hm dY ha (by decide) (by decide) he iO
end
end
end L2
namespace L2
noncomputable section
open PySem PySem.Spec PyProof.Rows
def Ga(neg:Bool)(x y:Wv):Mw Wv:=λom=>match Xd om x,Xd om y with
 |some d,some (.list ds)=>if (Wp d&&Wp (.list ds))=true then some (.ok (.bl (if neg then !(ds.any λe=>e.eqv d) else ds.any λe=>e.eqv d)),om) else none
 |_,_=>none
def rInS(E:XK)(neg:Bool):R2:=λv u H Q=>∃F β om x y,MOk F H β om∧RW F β x v∧RW F β y u∧Res E (Ga neg x y om) F H β (PV Q)
section
variable{X:Cx}{E:XK}{a b:Expr}{fa fb:FE}{pos:Pos}
def op_inD(hu:X.A.units+64<cLine):OpR X (compareOp .In) (rInS E false)∧OpR X (compareOp .NotIn) (rInS E true):=by
 constructor <;>
 ·intro gV s σ H v u v' u' Q I rv ru h
  obtain⟨F,β,om,x,y,M,rx,ry,R⟩:=h;unfold Ga at R
  match h1:Xd om x,h2:Xd om y,R with
  |some d,some (.list ds),R=>
   dsimp only at R;by_cases hl:(Wp d&&Wp (.list ds))=true
   ·rw[aC hl]at R
    obtain⟨l1,l2⟩:=bH.mp hl;obtain⟨c1,d1⟩:=bH.mp l1;obtain⟨c2,d2⟩:=bH.mp l2;obtain⟨as,ra⟩:=rx.readsTop I M h1 rv;obtain⟨bs,rb⟩:=ry.readsTop I M h2 ru;have:=bD d1;unfold PyData.canLay0 at c2;cases rb with
    |list e1 e2 e3 rs=>
     first
     |refine SeqAt.in_listAt (λy=>(SeqAt.readOf s.heap y).eqv d) ⟨_,e1,e2,_,e3⟩ (SeqAt.items_eqAt rs ra c2 c1 (by omega)) ⟨.bl _,H,I,rfl,?_⟩
      rw[SeqAt.any_by_data rs c2];exact R F H β (Gx.refl _ _ _) M _ (.bl _)
     |refine SeqAt.notIn_listAt (λy=>(SeqAt.readOf s.heap y).eqv d) ⟨_,e1,e2,_,e3⟩ (SeqAt.items_eqAt rs ra c2 c1 (by omega)) ⟨.bl _,H,I,rfl,?_⟩
      rw[SeqAt.any_by_data rs c2];exact R F H β (Gx.refl _ _ _) M _ (.bl _)
   ·rw[aE hl]at R;exact R.elim
def BH(hu:X.A.units+64<cLine)(ha:PE X a (tE E fa))(hb:PE X b (tE E fb))(hm:behindInMarks .NotIn b=false:=by with_unfolding_all rfl):PT X (.Compare a [.NotIn] [b] pos) (tT E (fB (f2 (Ga true) fa fb))):=U4 (op_inD (E:=E) hu).2 (λM rx ry R=>⟨_,_,_,_,_,M,rx,ry,R⟩) ha hb hm
end
open Classical in
def P7(S:FS):FS:=λsl om=>match S sl om with
 |some (.ok (.nx,sl1),ig)=>if ig.take om.length=om∧∀(i:Nat) w,sl1[i]?=some (some w)->FzW ig om.length w (fzW ig om.length 4 w) then some (.ok (.nx,sl1.map (Option.map (fzW ig om.length 4))),om) else none
 |_=>none
section
variable{X:Cx}{E:XK}{s1 s2:Stmt}{rest:List Stmt}{S1 S2 S3:FS}
def Bn(h1:PS X s1 (tS E S1))(h2:PS X s2 (tS E S2))(h3:PSs X rest (tS E S3)):PSs X (s1::s2::rest) (tS E (Zr (P7 (Zr S1 S2)) S3)):=(Pc h1 (Pc h2 h3)).weak λD σ H ⟨F,β,om,sl,M,V,R⟩=>by
 have hk:∀{r},P7 (Zr S1 S2) sl om=r->r≠none:=λe z=>by
  have R:Res E (bnd (P7 (Zr S1 S2) sl) (La S3) om) F H β (FlP D):=R;unfold bnd at R;rw[e,z]at R;exact R
 have e0:Zr S1 S2 sl om=bnd (S1 sl) (La S2) om:=rfl;unfold bnd at e0;unfold P7 at hk;refine⟨F,β,om,sl,M,V,?_⟩
 match e1:S1 sl om with
 |none=>rw[e0,e1]at hk;exact absurd rfl (hk rfl)
 |some (.error C,om1)=>rw[e0,e1]at hk;exact absurd rfl (hk rfl)
 |some (.ok (.bk,sl1),om1)=>rw[e0,e1]at hk;exact absurd rfl (hk rfl)
 |some (.ok (.ct,sl1),om1)=>rw[e0,e1]at hk;exact absurd rfl (hk rfl)
 |some (.ok (.rt w,sl1),om1)=>rw[e0,e1]at hk;exact absurd rfl (hk rfl)
 |some (.ok (.nx,sl1),om1)=>
  intro F1 H1 ij g1 M1 kE V1;refine⟨F1,ij,om1,sl1,M1,V1,?_⟩;have e3:Zr S1 S2 sl om=S2 sl1 om1:=by rw[e0,e1];rfl
  rw[e3]at hk
  match e2:S2 sl1 om1 with
  |none=>rw[e2]at hk;exact absurd rfl (hk rfl)
  |some (.error C,om2)=>rw[e2]at hk;exact absurd rfl (hk rfl)
  |some (.ok (.bk,iy),om2)=>rw[e2]at hk;exact absurd rfl (hk rfl)
  |some (.ok (.ct,iy),om2)=>rw[e2]at hk;exact absurd rfl (hk rfl)
  |some (.ok (.rt w,iy),om2)=>rw[e2]at hk;exact absurd rfl (hk rfl)
  |some (.ok (.nx,iy),om2)=>
   intro F2 H2 i8 g2 M2 jh V2;rw[e2]at hk;by_cases hc:om2.take om.length=om∧∀(i:Nat) w,iy[i]?=some (some w)->FzW om2 om.length w (fzW om2 om.length 4 w)
   ·have ef:P7 (Zr S1 S2) sl om=some (.ok (.nx,iy.map (Option.map (fzW om2 om.length 4))),om):=by
     unfold P7;rw[e3,e2];exact aC hc
    have R:Res E (bnd (P7 (Zr S1 S2) sl) (La S3) om) F H β (FlP D):=R;unfold bnd at R;rw[ef]at R;have R:Res E (S3 (iy.map (Option.map (fzW om2 om.length 4))) om) F H β (FlP D):=R
    have eo:om2=om++om2.drop om.length:=by
     conv=>lhs;rw[← fY om.length om2,hc.1]
    have hz:=hc.2;generalize fzW om2 om.length 4=zz at R hz;rw[eo]at M2 hz;obtain⟨jo,g3,M3,rel⟩:=RB M (g1.trans g2) M2 rfl M.small;refine⟨jo,β,om,_,M3,⟨by rw[aA];exact V2.1,λi w e=>?_⟩,Res.mono g3 R⟩;rw[bC]at e
    match hs:iy[i]?,e with
    |some (some u),e=>
     have e:some (some (zz u))=some (some w):=e;cases e;obtain⟨v,ev,rv⟩:=V2.2 i u hs;exact⟨v,ev,rel _ _ v (hz i u hs) rv⟩
   ·exact absurd (aE hc) (hk rfl)
end
end
open PySem PySem.Spec PyProof.Rows
def GF(K:g8)(mg:g7)(x:Str)(st:Stmt)(ps:iD):Prop:=∃f fd,Fun K x x st f fd∧Binds K fd ps []∧mg x=some (.ref f)∧PySem.W.keepIn K (.ref f)=true
def MF(K:g8)(C:Addr)(x q:Str)(st:Stmt)(ps:iD):Prop:=∃f fd,Fun K x q st f fd∧Binds K fd ps []∧Meth K C x f
def NF(K:g8)(C:Addr)(q:Str)(st:Stmt)(ps:iD):Prop:=∃f fd,Fun K "__init__" q st f fd∧Binds K fd ps []∧Mk K C f
abbrev FnO(K:g8)(mg:g7)(k:Nat)(f:Addr)(fd:FuncData)(ps:iD)(n:Nat)(g:iI->Mw Wv):Prop:=∀(P:Program) (w:World) (base:Heap),FnOk P w K mg base (CXw P w) k f fd ps (spM n g)
def GO(K:g8)(mg:g7)(k:Nat)(x:Str)(n:Nat)(g:iI->Mw Wv):Prop:=∃f fd ps,mg x=some (.ref f)∧PySem.W.keepIn K (.ref f)=true∧Binds K fd ps []∧FnO K mg k f fd ps n g
def MO(K:g8)(mg:g7)(k:Nat)(C:Addr)(x:Str)(n:Nat)(g:iI->Mw Wv):Prop:=∃f fd ps,Meth K C x f∧Binds K fd ps []∧FnO K mg k f fd ps n g
def NO(K:g8)(mg:g7)(k:Nat)(C:Addr)(n:Nat)(g:iI->Mw Wv):Prop:=∃f fd ps,Mk K C f∧Binds K fd ps []∧FnO K mg k f fd ps n g
structure AtC(K:g8)(mg:g7)(C:Addr)(x:Str)(fs:iD):Prop where
 cl:Cls K C
 at_:mg x=some (.ref C)
 na:∀f∈fs,NoAttr K C f
structure ExF(K:g8)(mg:g7)(C:Addr)(x:Str):Prop where
 q:PySem.W.excIn K C [.type "ValueError",.type "Exception",.type "BaseException",.type "object"] "ValueError.__new__"=true
 at_:mg x=some (.ref C)
section
variable{K:g8}{mg:g7}{k:Nat}{S:FS}{st:Stmt}{x q:Str}{ps:iD}{C:Addr}{g:iI->Mw Wv}{n:Nat}
abbrev Bd(K:g8)(mg:g7)(k:Nat)(q:Str)(st:Stmt)(N ps:iD)(S:FS):Prop:=∀{P:Program} {w:World} {base:Heap} {f:Addr} {i9:Value} {A:Around} {outer:List Env} {s:Shared} {H:Hp} {E:XK},Room k (A.deeper (envOfC q (YF st) s.heap.objs.size f i9))->(A.deeper (envOfC q (YF st) s.heap.objs.size f i9)).units+64<cLine->FnScope N ps (YF st)->PSs (OI (CXw P w) P w K mg base N q (YF st) f i9 A outer s H E) (UD st) (tS E S)
def IQ{N:iD}{f:Addr}{fd:FuncData}(F:Fun K x q st f fd)(Sc:FnScope N ps (YF st))(h:Bd K mg k q st N ps S):FnO K mg (k+1) f fd ps ps.length (Yj N.length S):=λP w base=>fn_ok F Sc λ_ _ _ _ _ _ hr=>h hr hr.units Sc
def gOk(F:GF K mg x st ps)(N:iD)(h:Bd K mg k x st N ps S)(Sc:FnScope N ps (YF st):=by exact⟨rfl,rfl,rfl,by decide +kernel,rfl,by decide +kernel,by decide +kernel⟩):GO K mg (k+1) x ps.length (Yj N.length S):=by
 obtain⟨f,fd,F,b,m,kp⟩:=F;exact⟨f,fd,ps,m,kp,b,IQ F Sc h⟩
def mOk(F:MF K C x q st ps)(N:iD)(h:Bd K mg k q st N ps S)(Sc:FnScope N ps (YF st):=by exact⟨rfl,rfl,rfl,by decide +kernel,rfl,by decide +kernel,by decide +kernel⟩):MO K mg (k+1) C x ps.length (Yj N.length S):=by
 obtain⟨f,fd,F,b,m⟩:=F;exact⟨f,fd,ps,m,b,IQ F Sc h⟩
def nOk(F:NF K C q st ps)(N:iD)(h:Bd K mg k q st N ps S)(Sc:FnScope N ps (YF st):=by exact⟨rfl,rfl,rfl,by decide +kernel,rfl,by decide +kernel,by decide +kernel⟩):NO K mg (k+1) C ps.length (Yj N.length S):=by
 obtain⟨f,fd,F,b,m⟩:=F;exact⟨f,fd,ps,m,b,IQ F Sc h⟩
def GO.tidy(G:GO K mg k x n g):GO K mg k x n (tidyG g):=by
 obtain⟨f,fd,ps,m,kp,b,F⟩:=G;exact⟨f,fd,ps,m,kp,b,λP w base=>FnOk.tidyG (F P w base)⟩
end
section
variable{X:Cx}{E:XK}{k n:Nat}{g:iI->Mw Wv}{x m:Str}{p pos:Pos}{e o:Expr}{es:iE}{fs:FA}{fo:FE}{C:Addr}{fl:iD}
def Z6(G:GO X.K X.mg k x n g)(ha:PA X (e::es) (tA E fs))(hx:XR (CXw X.prog X.w) X E:=by first|exact IE|exact IR)(hr:Room k X.A:=by exact Room.mono ‹_› (by decide))(hg:Gl X x:=by rfl)(jn:(x == ("__debug__":Str))=false:=by decide) (he:starEach (e::es) X.env=(false,eval e X.env)::starEach es X.env:=by rfl) (iO:(backTo pos (starEach es X.env)).any (·.1)=false:=by rfl):PE X (.Call (.Name x p) (e::es) [] pos) (tE E (fA (kN n g) fs)):=by
 obtain⟨f,fd,ps,m,kp,b,F⟩:=G;exact CD (F _ _ _) hr hg m kp b hx ha jn he iO
def ZX{ip:Pos}{pl:Sem Bool}(A:AtC X.K X.mg C x fl)(G:MO X.K X.mg k C m n g)(ho:PE X o (tE E fo))(ha:PA X (e::es) (tA E fs))(hx:XR (CXw X.prog X.w) X E:=by first|exact IE|exact IR)(hr:Room k X.A:=by exact Room.mono ‹_› (by decide))(jD:starEach (e::es) X.env=(false,eval e X.env)::starEach es X.env:=by rfl) (iO:(backTo pos (starEach es X.env)).any (·.1)=false:=by rfl)(ht:eval (.Call (.Attribute o m ip) (e::es) [] pos) X.env=(do
     let ov ← eval o X.env
     standAt ip.atName
     let (f,first) ← holding [ov] (getMethod ov m pl)
     callWith pos f first (backTo pos (starEach (e::es) X.env)) (backToKw pos (keywordEach [] X.env))):=by rfl):
    PE X (.Call (.Attribute o m ip) (e::es) [] pos) (tE E (Zn C m n g fo fs)):=by
 obtain⟨f,fd,ps,m,b,F⟩:=G;exact Ck ho A.cl m (F _ _ _) hr b hx ha jD iO ht
def YR{ip:Pos}{pl:Sem Bool}(A:AtC X.K X.mg C x fl)(G:MO X.K X.mg k C m n g)(ho:PE X o (tE E fo))(hx:XR (CXw X.prog X.w) X E:=by first|exact IE|exact IR)(hr:Room k X.A:=by exact Room.mono ‹_› (by decide))(ht:eval (.Call (.Attribute o m ip) [] [] pos) X.env=(do
     let ov ← eval o X.env
     standAt ip.atName
     let (f,first) ← holding [ov] (getMethod ov m pl)
     callWith pos f first (backTo pos (starEach [] X.env)) (backToKw pos (keywordEach [] X.env))):=by rfl):
    PE X (.Call (.Attribute o m ip) [] [] pos) (tE E (Zn C m n g fo Zi)):=by
 obtain⟨f,fd,ps,m,b,F⟩:=G;exact Fr ho A.cl m (F _ _ _) hr b hx ht
def KH(A:AtC X.K X.mg C x fl)(G:NO X.K X.mg k C n g)(ha:PA X (e::es) (tA E fs))(hx:XR (CXw X.prog X.w) X E:=by first|exact IE|exact IR)(hr:Room (k+1) X.A:=by exact Room.mono ‹_› (by decide))(hg:Gl X x:=by rfl)(jn:(x == ("__debug__":Str))=false:=by decide) (he:starEach (e::es) X.env=(false,eval e X.env)::starEach es X.env:=by rfl) (iO:(backTo pos (starEach es X.env)).any (·.1)=false:=by rfl):PE X (.Call (.Name x p) (e::es) [] pos) (tE E (fA (XN C n g) fs)):=by
 obtain⟨f,fd,ps,m,b,F⟩:=G;exact CC m (F _ _ _) hr hg A.at_ b hx ha jn he iO
def Ym{f:FE}{at_:Str}(A:AtC X.K X.mg C at_ fl)(he:PE X e (tE E f))(hf:x∈fl:=by decide)(hb:attributeBase e x X.env (eval e X.env)=eval e X.env:=by rfl):PE X (.Attribute e x pos) (tE E (f1 (ZI C x) f)):=qe_fld A.cl (A.na _ hf) he hb
def Tp{fv:FE}{v:Expr}{at_:Str}(A:AtC X.K X.mg C at_ fl)(hv:PE X v (tE E fv))(ho:PE X o (tE E fo))(hf:x∈fl:=by decide)(hs:swapsWith v (some (.Attribute o x p)) pos.line X.env=pure false:=by rfl):PS X (.Assign [.Attribute o x p] v pos) (tS E (Xu C x fv fo)):=qs_fld A.cl (A.na _ hf) hv ho hs
def Td{iS iT:Expr}{rest:iE}{np io p2:Pos}{mm:Sl->Mw Unit}(A:ExF X.K X.mg C x)(h:PJ X 2000 (iS::iT::rest) (tM E mm))(hE:Lw X E:=by exact throwX)(hg:Gl X x:=by rfl)(hc:X.calm=true:=by rfl)(hn:2000 * (iS::iT::rest).length<=16000000:=by decide)(hs:evalEach (iS::iT::rest) X.env=eval iS X.env::eval iT X.env::evalEach rest X.env:=by rfl)(he:starEach [.JoinedStr (iS::iT::rest) p2] X.env=(false,eval (.JoinedStr (iS::iT::rest) p2) X.env)::starEach [] X.env:=by rfl) (iO:(backTo io (starEach [] X.env)).any (·.1)=false:=by rfl) (jn:(x == ("__debug__":Str))=false:=by decide):PS X (.Raise (some (.Call (.Name x np) [.JoinedStr (iS::iT::rest) p2] [] io)) none pos) (tS E (V5 C mm)):=DL PySem.F.excBase_ValueError A.q hg A.at_ hc hE h hn hs he iO jn
def YZ(i:Nat){f:FE}{iQ:Pos}(he:PE X e (tE E f))(hN:X.N.Nodup:=by exact FnScope.nd ‹_›)(hi:X.N[i]?=some x:=by rfl)(hx:Loc X.env.scope x:=by first|exact .inl rfl|exact .inr rfl)(hs:swapsWith e (some (.Name x iQ)) pos.line X.env=pure false:=by rfl)(hf:X.fn x=true∨X.env.scope.names.lookup x=some .local:=by first|exact .inl rfl|exact .inr rfl):PS X (.Assign [.Name x iQ] e pos) (tS E (ZC i f)):=qs_set hN hi hx he hs hf
def qpg(i:Nat){x:Str}(hN:X.N.Nodup:=by exact FnScope.nd ‹_›)(hi:X.N[i]?=some x:=by rfl)(hx:Loc X.env.scope x:=by first|exact .inl rfl|exact .inr rfl)(hf:X.fn x=true∨X.env.scope.names.lookup x=some .local:=by first|exact .inl rfl|exact .inr rfl):PG X (.Name x pos) (Q4 i):=YX hN hi hx hf
def Ys{f:FE}(he:PE X e (tE E f)):PSs X [.Return (some e) pos] (tS E (Yc f)):=Zq (qs_ret he)
def Y1{c:FT}{S:FS}{t:Expr}{a:List Stmt}(hc:PT X t (tT E c))(ha:PSs X a (tS E S)):PS X (.If t a [] pos) (tS E (sIf c S Yy)):=NA hc ha BN
def FJ{fi:FI}{T:TgW}{S:FS}{tg ii:Expr}{g:TG}{body:List Stmt}(hi:PI X tg ii (tI E fi))(hg:PG X tg g)(ht:Jr g T)(hb:PSs X body (tS E S))(hp:PassesOwn (model X.prog X.w) X.A X.env X.xe:=by exact fU)(hc:X.calm=true:=by rfl)(hs:∀x,foldedSetIterable ii X.env x=pure x:=by intro _;rfl):PS X (.For tg ii body [] pos) (tS E (XH fi T S)):=EB hp hc hi hg ht hb hs
def WR(i:Nat){fi:FI}{S:FS}{ii:Expr}{body:List Stmt}(hi:PI X (.Name x p) ii (tI E fi))(hb:PSs X body (tS E S))(hN:X.N.Nodup:=by exact FnScope.nd ‹_›)(hj:X.N[i]?=some x:=by rfl)(hx:Loc X.env.scope x:=by first|exact .inl rfl|exact .inr rfl)(hf:X.fn x=true∨X.env.scope.names.lookup x=some .local:=by first|exact .inl rfl|exact .inr rfl)(hp:PassesOwn (model X.prog X.w) X.A X.env X.xe:=by exact fU)(hc:X.calm=true:=by rfl)(hs:∀x,foldedSetIterable ii X.env x=pure x:=by intro _;rfl):PS X (.For (.Name x p) ii body [] pos) (tS E (XH fi (tgN i) S)):=EB hp hc hi (YX hN hj hx hf) (Nt i) hb hs
def U9{o i v:Expr}{p1:Pos}{fv fo fi:FE}(hv:PE X v (tE E fv))(ho:PE X o (tE E fo))(hi:PE X i (tE E fi)){w}(ha:∀v,assign (.Subscript o i p1) X.env v=(do
      let ov ← holding [v] (eval o X.env)
      let iv ← holding [v,ov] (eval i X.env)
      standAt p1
      holding [v,ov,iv] (setItem ov iv v)
      release [v,ov,iv] []):=by intro _;rfl)
    (hs:swapsWithSole [.Subscript o i p1] v pos.line X.env=pure false:=by rfl) (hw:swappedStores [.Subscript o i p1] v X.env=pure w:=by rfl)
    (h1:(assignEach [.Subscript o i p1] X.env).map (·.2)=[assign (.Subscript o i p1) X.env]:=by rfl) (mf:w=none:=by rfl):PS X (.Assign [.Subscript o i p1] v pos) (tS E (Xl fv fo fi)):=Bf hv ho hi (ER ho hi L2.set_list ha) hs hw h1 mf
end
section
variable{X:Cx}{scope:Scope}{js:iC}
def cOk{x:Str}(cn:iD)(clos:closureFor scope X.env=pure (Xx scope.names X.env):=by with_unfolding_all rfl)(i6:∀y∈scope.names,y.2≠.cell:=by decide +kernel)(kind:scope.kind=.function:=by rfl)(names:∀y∈scope.names,y.2=.local->scope.names.lookup y.1=some .local:=by decide +kernel) (hx:scope.names.lookup x=some .local:=by rfl)(has:((relabel scope X.env).names.all λp=>!(W4 (some p.2)) || (decide ((none:Option Str)=some p.1) || ((Xx scope.names X.env).lookup p.1).isSome))=true:=by with_unfolding_all rfl) (len:js.length=cn.length:=by rfl)(cap:((cn.zip js).all λp=>(X.N[p.2]? == some p.1)&&W4 (X.env.scope.names.lookup p.1)&&W4 ((relabel scope X.env).names.lookup p.1))=true:=by with_unfolding_all rfl)(nd:(x::cn).Nodup:=by decide +kernel):CompOk X none scope (Xx scope.names X.env) x cn js:=Gw clos i6 kind names hx has len cap nd
def cOkO{x:Str}(cn:iD)(clos:closureFor scope X.env=pure (Xx scope.names X.env):=by with_unfolding_all rfl)(cs:∀n,cellsFrom n scope.names (Xx scope.names X.env)=Vt (some x) n (Xx scope.names X.env):=by intro _;with_unfolding_all rfl)(pc:∀h,pushCells h scope.names=Je (some x) h:=by intro _;with_unfolding_all rfl)(kind:scope.kind=.function:=by rfl)(names:∀y∈scope.names,y.2=.local->scope.names.lookup y.1=some .local:=by decide +kernel) (hx:(relabel scope X.env).names.lookup x=some .cell:=by with_unfolding_all rfl)(has:((relabel scope X.env).names.all λp=>!(W4 (some p.2)) || (decide (some x=some p.1) || ((Xx scope.names X.env).lookup p.1).isSome))=true:=by with_unfolding_all rfl) (len:js.length=cn.length:=by rfl)(cap:((cn.zip js).all λp=>(X.N[p.2]? == some p.1)&&W4 (X.env.scope.names.lookup p.1)&&W4 ((relabel scope X.env).names.lookup p.1))=true:=by with_unfolding_all rfl)(nd:(x::cn).Nodup:=by decide +kernel):CompOk X (some x) scope (Xx scope.names X.env) x cn js:=J4 clos cs pc kind names hx has len cap nd
def HZ(xs cn:iD)(clos:closureFor scope X.env=pure (Xx scope.names X.env):=by with_unfolding_all rfl)(i6:∀y∈scope.names,y.2≠.cell:=by decide +kernel)(kind:scope.kind=.function:=by rfl)(names:∀y∈scope.names,y.2=.local->scope.names.lookup y.1=some .local:=by decide +kernel)(has:((relabel scope X.env).names.all λp=>!(W4 (some p.2)) || (decide ((none:Option Str)=some p.1) || ((Xx scope.names X.env).lookup p.1).isSome))=true:=by with_unfolding_all rfl) (len:js.length=cn.length:=by rfl)(cap:((cn.zip js).all λp=>(X.N[p.2]? == some p.1)&&W4 (X.env.scope.names.lookup p.1)&&W4 ((relabel scope X.env).names.lookup p.1))=true:=by with_unfolding_all rfl)(nd:(xs++cn).Nodup:=by decide +kernel):CompOkT X none scope (Xx scope.names X.env) xs cn js:=PB clos i6 kind names has len cap nd
end
section
variable{X:Cx}{E:XK}{oc:Option Str}{scope:Scope}{cl:hV}{x:Str}{cn:iD}{js:iC}{iV ii:Expr}{iU:iE}{px pos:Pos}{fi:FI}{k:iI->Mw Wv}{c:FT}{f:FE}
def UX(O:CompOk X oc scope cl x cn js)(hi:PI X (.Name x px) ii (tI E fi))(ht:∀{C ib ie fp},Th (XB X oc scope cl x cn C ib ie fp) iU (tT E0 c))(he:∀{C ib ie fp},PE (XB X oc scope cl x cn C ib ie fp) iV (tE E0 f))(hk:Ur E k:=by first|exact YE|exact RI)(hc:X.calm=true:=by rfl)(hs:∀v,foldedSetIterable ii X.env v=pure v:=by intro _;rfl):PE X (.ListComp iV [⟨.Name x px,ii,iU,0⟩] scope pos) (tE E (Z8 k js fi c f)):=CP hk O hc hi (λ_ _ _ _=>ht) (λ_ _ _ _=>he) hs
def WT(j:Nat){y:Str}{py i7:Pos}(O:CompOk X oc scope cl x cn js)(hi:PI X (.Name x px) ii (tI E fi))(ht:∀{C ib ie fp},Th (XB X oc scope cl x cn C ib ie fp) iU (tT E0 c))(he:∀{C ib ie fp},PE (XB X oc scope cl x cn C ib ie fp) iV (tE E0 f))(hk:Ur E k:=by first|exact YE|exact RI)(hc:X.calm=true:=by rfl)(hN:X.N.Nodup:=by exact FnScope.nd ‹_›) (hj:X.N[j]?=some y:=by rfl) (hy:Loc X.env.scope y:=by first|exact .inl rfl|exact .inr rfl) (jS:swapsWith (.ListComp iV [⟨.Name x px,ii,iU,0⟩] scope pos) (some (.Name y py)) i7.line X.env=pure true:=by with_unfolding_all rfl)(hs:∀v,foldedSetIterable ii X.env v=pure v:=by intro _;rfl) (hf:X.fn y=true∨X.env.scope.names.lookup y=some .local:=by first|exact .inl rfl|exact .inr rfl):PS X (.Assign [.Name y py] (.ListComp iV [⟨.Name x px,ii,iU,0⟩] scope pos) i7) (tS E (ZC j (Z8 k js fi c f))):=JZ hk O hc hi (λ_ _ _ _=>ht) (λ_ _ _ _=>he) hN hj hy jS hs hf
end
end L2
namespace MP
noncomputable section
open PySem L2
def T7(c:CA):FE:=
 (f2 kNe (Za 1) (Za 0))
def WE(c:CA):FE:=
 (Z8 ZQ [0] (λsl=>bnd ((f2 kIx (Za 1) (fC (.int 0))) sl) YL) Xg (T7 c))
def Ua(c:CA):FS:=
 (Xl (f2 YY (Za 6) (fC (.int 2))) (Za 3) (Za 6))
def Ub(c:CA):FS:=
 (Xl (f2 YY (Za 6) (fC (.int 2))) (Za 3) (f2 WJ (fC (.int 3)) (Za 6)))
def Mv(c:CA):FS:=
 (Zr (ZC 1 (fA (kN 1 (W1 c)) (Zc (Za 0) Zi)))
  (Zr (sIf (fB (f2 kEq (f2 YY (fA (kN 2 (Zp c)) (Zc (Za 0) (Zc (fC (.int 24)) Zi))) (fC (.int 4))) (fC (.int 1)))) (ZC 1 (fA YW (Zc (fC (.int 7)) (Zc (fA K2 (Zc (f2 kIx (Za 1) (fC (.int 1))) (Zc (fC (.int 53)) Zi))) (Zc (fA KU (Zc (f2 kIx (Za 1) (fC (.int 2))) (Zc (fC (.int 7)) Zi))) Zi))))) Yy)
  (Zr (ZC 2 (fA (kN 2 (Wy c)) (Zc (Za 0) (Zc (f2 kIx (Za 1) (fC (.int 0))) Zi))))
  (Zr (ZC 3 (fA (kN 2 (WX c)) (Zc (Za 0) (Zc (f2 kIx (Za 1) (fC (.int 0))) Zi))))
  (Zr (ZC 4 (f2 kEq (f2 YY (fA (kN 2 (Zp c)) (Zc (Za 0) (Zc (fC (.int 24)) Zi))) (fC (.int 4))) (fC (.int 1))))
  (Zr (ZC 5 (Uf (f2 kGt (f2 kIx (Za 1) (fC (.int 0))) (fC (.int 3))) (f2 kEq (f2 YY (fA (kN 2 (Zp c)) (Zc (Za 0) (Zc (fC (.int 24)) Zi))) (fC (.int 2))) (fC (.int 1)))))
  (Zr (sIf (Xb (Za 5)) (Zr (ZC 2 (Z8 ZQ [1] (λsl=>bnd ((f2 kIx (Za 1) (fC (.int 0))) sl) YL) Xg (WE c)))
  (XH (λsl=>bnd ((fC (.int 3)) sl) YL) (tgN 6) (Ua c))) Yy)
  (Zr (sIf (Xb (Za 4)) (Zr (XH (λsl=>bnd ((fC (.int 3)) sl) YL) (tgN 6) (Ub c))
  (Xl (fC .non) (Za 3) (fC (.int 6)))) Yy)
  (Zr (ZC 7 (fA (kN 3 (Wf c)) (Zc (Za 0) (Zc (Za 2) (Zc (Za 3) Zi)))))
  (Zr (sIf (Xb (Za 5)) (Zr (Xl (fA YW (Zc (fC (.str "move")) (Zc (fC (.int 1)) Zi))) (Za 7) (fC (.int 0)))
  (Zr (Xl (fA YW (Zc (fC (.str "help")) (Zc (fC (.int 0)) (Zc (fC (.int 1)) Zi)))) (Za 7) (fC (.int 2)))
  (sIf (fB (f2 kGt (f2 YY (f2 TL (fA (kN 2 (Zp c)) (Zc (Za 0) (Zc (fC (.int 24)) Zi))) (fC (.int 4))) (fC (.int 3))) (fC (.int 0)))) (Xl (fA YW (Zc (fC (.str "stand")) Zi)) (Za 7) (fC (.int 1))) Yy))) Yy)
  (Zr (sIf (Xb (Za 4)) (Zr (Xl (fA YW (Zc (fC (.str "move")) (Zc (fC (.int 4)) Zi))) (Za 7) (fC (.int 3)))
  (Zr (Xl (fA YW (Zc (fC (.str "stand")) Zi)) (Za 7) (fC (.int 4)))
  (Xl (fA YW (Zc (fC (.str "help")) (Zc (fC (.int 3)) (Zc (fC (.int 4)) Zi)))) (Za 7) (fC (.int 5))))) Yy)
  (Yc (fA YW (Zc (Za 1) (Zc (Za 2) (Zc (Za 3) (Zc (Za 7) Zi)))))))))))))))))
def Wm(c:CA):iI->Mw Wv:=Yj 8 (Mv c)
def Vm(c:CA):FT:=
 (fB (f2 (Ws false) (Za 0) (Za 2)))
def Vs(c:CA):FE:=
 (fA YW (Zc (f2 Wb (Za 2) (Za 0)) (Zc (Za 1) Zi)))
def Vj(c:CA):FT:=
 (VW (fB (f2 (Ws true) (Za 0) (Za 2))) (fB (f2 (Ws true) (Za 0) (Za 3))))
def Vv(c:CA):FE:=
 (fA YW (Zc (Za 0) (Zc (Za 1) Zi)))
def OR(c:CA):FS:=
 (Zr (ZC 3 (XE ZQ 2 [1] (λsl=>bnd ((Zn c.Board "roll" 1 (ZM c) (Za 0) Zi) sl) ZE) (Vm c) (Vs c)))
  (Zr (ZC 4 (XE ZQ 2 [1,2] (λsl=>bnd ((Zn c.Board "roll" 1 (ZM c) (Za 0) Zi) sl) ZE) (Vj c) (Vv c)))
  (Yc (f2 PU (Za 3) (Za 4)))))
def WF(c:CA):iI->Mw Wv:=Yj 5 (OR c)
def UY(c:CA):FS:=
 (Z4 (Zn c.Board "post" 3 (W7 c) (Za 2) (Zc (Za 3) (Zc (Za 4) Zi))))
def PZ(c:CA):FS:=
 (Zr (ZC 2 (fA (XN c.Board 2 (Xk c)) (Zc (Za 0) Zi)))
  (Zr (XH (λsl=>bnd ((Za 1) sl) ZE) (QG [3,4]) (UY c))
  (Yc (Za 2))))
def Xf(c:CA):iI->Mw Wv:=Yj 5 (PZ c)
def Ra(c:CA):FS:=
 (Zr (YU (Zn c.Orders "goal_of" 2 (Zo c) (Za 1) (Zc (Za 2) Zi)) (f1 (ZI c.Turn "goals") (Za 0)) (Za 2))
  (YU (Za 2) (f1 (ZI c.Turn "comers") (Za 0)) (Zn c.Orders "goal_of" 2 (Zo c) (Za 1) (Zc (Za 2) Zi))))
def Rl(c:CA):FS:=
 (sIf (VW (fB (f2 (Ws false) (Za 2) (f1 (ZI c.Turn "comers") (Za 0)))) (fB (f2 (Ws true) (Za 2) (f1 (ZI c.Turn "goals") (Za 0))))) (YU (Za 3) (f1 (ZI c.Turn "pushed") (Za 0)) (Za 2)) Yy)
def SZ(c:CA):FE:=
 (Zn c.Orders "goal_of" 2 (Zo c) (Za 1) (Zc (Za 0) Zi))
def Kr(c:CA):FS:=
 (Zr (Xu c.Turn "goals" (λ_=>newO (.dk [])) (Za 0))
  (Zr (Xu c.Turn "comers" (λ_=>newO (.dk [])) (Za 0))
  (Zr (XH (λsl=>bnd ((fA (kN 1 (TB c)) (Zc (Za 1) Zi)) sl) ZE) (tgN 2) (Ra c))
  (Zr (Xu c.Turn "pushed" (λ_=>newO (.dk [])) (Za 0))
  (Zr (XH (λsl=>bnd ((Zn c.Board "roll" 1 (ZM c) (f1 (ZI c.Orders "board") (Za 1)) Zi) sl) ZE) (QG [2,3]) (Rl c))
  (Zr (ZC 4 (Z8 ZQ [1] (λsl=>bnd ((Zn c.Orders "movers" 1 (ZZ c) (Za 1) Zi) sl) ZE) Xg (SZ c)))
  (Zr (Xu c.Turn "closed" (Tr ZQ (Za 4) (f1 (ZI c.Turn "comers") (Za 0))) (Za 0))
  (Xu c.Turn "board" (fA (kN 2 (Xf c)) (Zc (f1 (ZI c.Board "chart") (f1 (ZI c.Orders "board") (Za 1))) (Zc (fA (kN 3 (WF c)) (Zc (f1 (ZI c.Orders "board") (Za 1)) (Zc (f1 (ZI c.Turn "goals") (Za 0)) (Zc (f1 (ZI c.Turn "comers") (Za 0)) Zi)))) Zi))) (Za 0)))))))))
def Wc(c:CA):iI->Mw Wv:=Yj 5 (Kr c)
def O5(c:CA):FE:=
 (fA YW (Zc (Za 0) (Zc (f2 Wb (f1 (ZI c.Turn "pushed") (Za 1)) (Za 0)) (Zc (f2 Wb (f1 (ZI c.Turn "comers") (Za 1)) (Za 0)) Zi))))
def M7(c:CA):FS:=
 (Yc (Z8 ZQ [0] (λsl=>bnd ((fA (Vb ZQ) (Zc (f1 (ZI c.Turn "pushed") (Za 0)) Zi)) sl) ZE) Xg (O5 c)))
def ZN(c:CA):iI->Mw Wv:=Yj 1 (M7 c)
def Jl(c:CA):FS:=
 (Yc (SI ZQ (f1 (ZI c.Turn "goals") (Za 0))))
def Y5(c:CA):iI->Mw Wv:=Yj 1 (Jl c)
def Vn(c:CA):FS:=
 (Zr (sIf (fOr (fB (f2 (Ga true) (fA YW (Zc (f2 kIx (Za 2) (fC (.int 2))) (Zc (f2 kIx (Za 2) (fC (.int 0))) Zi))) (Zn c.Turn "done" 1 (Y5 c) (Za 1) Zi))) (fB (f2 kNe (Zn c.Board "side_at" 2 (Zw c) (f1 (ZI c.Orders "board") (Za 0)) (Zc (f2 kIx (Za 2) (fC (.int 0))) Zi)) (f2 kIx (Za 2) (fC (.int 1)))))) (Yc (fC (.bl false))) Yy)
  (sIf (fOr (fB (f1 VE (Zn c.Board "side_at" 2 (Zw c) (f1 (ZI c.Orders "board") (Za 0)) (Zc (f2 kIx (Za 2) (fC (.int 2))) Zi)))) (fB (f2 kEq (Zn c.Board "side_at" 2 (Zw c) (f1 (ZI c.Orders "board") (Za 0)) (Zc (f2 kIx (Za 2) (fC (.int 2))) Zi)) (f2 kIx (Za 2) (fC (.int 1)))))) (Yc (fC (.bl false))) Yy))
def OX(c:CA):FS:=
 (Zr (XH (λsl=>bnd ((Zn c.Turn "aside" 1 (ZN c) (Za 1) Zi) sl) ZE) (tgN 2) (Vn c))
  (Yc (fC (.bl true))))
def XU(c:CA):iI->Mw Wv:=Yj 3 (OX c)
def Vi(c:CA):FE:=
 (f2 kIx (Za 0) (fC (.int 0)))
def VA(c:CA):FE:=
 (f2 kIx (Za 0) (fC (.int 0)))
def U7(c:CA):FS:=
 (sIf (VW (fB (f2 (Tj true) (f2 kIx (Za 4) (fC (.int 0))) (Za 2))) (VW (fB (f2 (Tj true) (f2 kIx (Za 4) (fC (.int 0))) (Za 3))) (fB (f2 kNe (Zn c.Board "side_at" 2 (Zw c) (f1 (ZI c.Turn "board") (Za 1)) (Zc (f2 kIx (Za 4) (fC (.int 0))) Zi)) (f2 kIx (Za 4) (fC (.int 1))))))) (Yc (fC (.bl false))) Yy)
def U8(c:CA):FS:=
 (sIf (fB (f2 kNe (Zn c.Board "side_at" 2 (Zw c) (f1 (ZI c.Turn "board") (Za 1)) (Zc (f2 kIx (Za 4) (fC (.int 1))) Zi)) (Zn c.Board "side_at" 2 (Zw c) (f1 (ZI c.Orders "board") (Za 0)) (Zc (f2 kIx (Za 4) (fC (.int 0))) Zi)))) (Yc (fC (.bl false))) Yy)
def OJ(c:CA):FS:=
 (Zr (ZC 2 (Z8 ZQ [] (λsl=>bnd ((Zn c.Turn "done" 1 (Y5 c) (Za 1) Zi) sl) ZE) Xg (Vi c)))
  (Zr (ZC 3 (Z8 ZQ [] (λsl=>bnd ((Zn c.Turn "aside" 1 (ZN c) (Za 1) Zi) sl) ZE) Xg (VA c)))
  (Zr (XH (λsl=>bnd ((Zn c.Board "roll" 1 (ZM c) (f1 (ZI c.Orders "board") (Za 0)) Zi) sl) ZE) (tgN 4) (U7 c))
  (Zr (XH (λsl=>bnd ((Zn c.Turn "done" 1 (Y5 c) (Za 1) Zi) sl) ZE) (tgN 4) (U8 c))
  (Yc (fC (.bl true)))))))
def XT(c:CA):iI->Mw Wv:=Yj 5 (OJ c)
def Vu(c:CA):FE:=
 (f2 kIx (Za 0) (fC (.int 1)))
def ON(c:CA):FS:=
 (Yc (fA (YT ZQ) (Zc (Z8 ZQ [] (λsl=>bnd ((Za 0) sl) ZE) Xg (Vu c)) Zi)))
def Yd(c:CA):iI->Mw Wv:=Yj 1 (ON c)
def SD(c:CA):FS:=
 (sIf (fB (f2 (Ws true) (Za 1) (f1 (ZI c.Turn "pushed") (Za 0)))) (V5 c.NoUnit (OZ (Za 1) N5)) Yy)
def Y4(c:CA):iI->Mw Wv:=Yj 2 (SD c)
def U5(c:CA):FT:=
 (fB (f1 VE (Zn c.Board "side_at" 2 (Zw c) (f1 (ZI c.Turn "board") (Za 1)) (Zc (Za 0) Zi))))
def U3(c:CA):FE:=
 (Za 0)
def Px(c:CA):FT:=
 (VW (fB (f2 kNe (Za 0) (f2 Wb (f1 (ZI c.Turn "comers") (Za 1)) (Za 2)))) (fB (f2 (Tj true) (Za 0) (f1 (ZI c.Turn "closed") (Za 1)))))
def Pl(c:CA):FE:=
 (Za 0)
def O1(c:CA):FS:=
 (Zr (Z4 (Zn c.Map "need_place" 2 (ZD c) (f1 (ZI c.Board "chart") (f1 (ZI c.Turn "board") (Za 0))) (Zc (Za 1) Zi)))
  (Zr (Z4 (Zn c.Turn "need_aside" 2 (Y4 c) (Za 0) (Zc (Za 1) Zi)))
  (Zr (ZC 2 (Z8 ZQ [0] (λsl=>bnd ((Zn c.Map "near" 2 (Vh c) (f1 (ZI c.Board "chart") (f1 (ZI c.Turn "board") (Za 0))) (Zc (Za 1) Zi)) sl) ZE) (U5 c) (U3 c)))
  (Yc (Z8 ZQ [0,1] (λsl=>bnd ((Za 2) sl) ZE) (Px c) (Pl c))))))
def Xp(c:CA):iI->Mw Wv:=Yj 3 (O1 c)
def TZ(c:CA):FS:=
 (Zr (Z4 (Zn c.Map "need_place" 2 (ZD c) (f1 (ZI c.Board "chart") (f1 (ZI c.Turn "board") (Za 0))) (Zc (Za 2) Zi)))
  (Z4 (Zn c.Map "need_place" 2 (ZD c) (f1 (ZI c.Board "chart") (f1 (ZI c.Turn "board") (Za 0))) (Zc (Za 3) Zi))))
def T3(c:CA):FS:=
 (Z4 (Zn c.Turn "need_aside" 2 (Y4 c) (Za 0) (Zc (Za 2) Zi)))
def Mu(c:CA):FS:=
 (Zr (XH (λsl=>bnd ((Za 1) sl) ZE) (QG [2,3]) (TZ c))
  (XH (λsl=>bnd ((Za 1) sl) ZE) (QG [2,3]) (T3 c)))
def W9(c:CA):iI->Mw Wv:=Yj 4 (Mu c)
def Pi(c:CA):FE:=
 (Za 1)
def PK(c:CA):FS:=
 (sIf (VW (fB (f2 kEq (Q9 (Za 2) (Za 5)) (fC (.int 1)))) (fB (f2 (Tj false) (Za 5) (Zn c.Turn "may_go" 2 (Xp c) (Za 0) (Zc (Za 4) Zi))))) (YU (Za 5) (Za 3) (Za 4)) Yy)
def Of(c:CA):FT:=
 (fB (f2 (Ws false) (Za 0) (Za 3)))
def Q7(c:CA):FE:=
 (fA YW (Zc (f2 Wb (Za 3) (Za 0)) (Zc (Za 1) Zi)))
def Pt(c:CA):FT:=
 (fB (f2 (Ws true) (Za 0) (Za 3)))
def Pu(c:CA):FE:=
 (Za 0)
def Cm(c:CA):FS:=
 (Zr (Z4 (fA (kN 2 (W9 c)) (Zc (Za 0) (Zc (Za 1) Zi))))
  (Zr (ZC 2 (XE ZQ 2 [] (λsl=>bnd ((Za 1) sl) ZE) Xg (Pi c)))
  (Zr (ZC 3 (λ_=>newO (.dk [])))
  (Zr (XH (λsl=>bnd ((Za 1) sl) ZE) (QG [4,5]) (PK c))
  (Zr (ZC 6 (XE ZQ 3 [3] (λsl=>bnd ((Zn c.Turn "aside" 1 (ZN c) (Za 0) Zi) sl) ZE) (Of c) (Q7 c)))
  (Zr (ZC 7 (XE ZQ 3 [3] (λsl=>bnd ((Zn c.Turn "aside" 1 (ZN c) (Za 0) Zi) sl) ZE) (Pt c) (Pu c)))
  (Yc (fA YW (Zc (fA (kN 2 (Xf c)) (Zc (f1 (ZI c.Board "chart") (f1 (ZI c.Turn "board") (Za 0))) (Zc (f2 PU (Zn c.Board "roll" 1 (ZM c) (f1 (ZI c.Turn "board") (Za 0)) Zi) (Za 6)) Zi))) (Zc (Za 7) Zi))))))))))
def QY(c:CA):iI->Mw Wv:=Yj 8 (Cm c)
def Lg(c:CA):FS:=
 (Zr (ZC 7 (Zn c.Turn "may_go" 2 (Xp c) (Za 3) (Zc (f2 kIx (Za 6) (fC (.int 0))) Zi)))
  (sIf (fB (f2 kEq (Za 7) (fA ZQ Zi))) (Z4 (MB (Za 5) (fA YW (Zc (f2 kIx (Za 6) (fC (.int 0))) (Zc (fC (.int 0)) Zi))))) (Z4 (MB (Za 5) (fA YW (Zc (f2 kIx (Za 6) (fC (.int 0))) (Zc (f2 kIx (Za 7) (f2 YY (fA (kN 2 (Zp c)) (Zc (Za 0) (Zc (fC (.int 25)) Zi))) (fA XW (Zc (Za 7) Zi)))) Zi)))))))
def MD(c:CA):FT:=
 (fB (f2 (Tj false) (f2 kIx (Za 0) (fC (.int 0))) (f2 kIx (Za 1) (fC (.int 1)))))
def Lx(c:CA):FE:=
 (Za 0)
def S_law(c:CA):FS:=
 (Zr (ZC 1 (fA (kN 1 (Wm c)) (Zc (Za 0) Zi)))
  (Zr (ZC 2 (fA (kN 4 (XJ c)) (Zc (f2 kIx (Za 1) (fC (.int 0))) (Zc (f2 kIx (Za 1) (fC (.int 1))) (Zc (f2 kIx (Za 1) (fC (.int 2))) (Zc (f2 kIx (Za 1) (fC (.int 3))) Zi))))))
  (Zr (ZC 3 (fA (XN c.Turn 2 (Wc c)) (Zc (Za 2) Zi)))
  (Zr (sIf (fOr (SM (Xb (fA (kN 2 (XT c)) (Zc (Za 2) (Zc (Za 3) Zi))))) (SM (Xb (fA (kN 2 (XU c)) (Zc (Za 2) (Zc (Za 3) Zi)))))) (Yc (fC (.bl false))) Yy)
  (Zr (ZC 4 (fA (kN 1 (Yd c)) (Zc (Zn c.Board "roll" 1 (ZM c) (f1 (ZI c.Orders "board") (Za 2)) Zi) Zi)))
  (Zr (sIf (fB (f2 kNe (fA (YT ZQ) (Zc (f2 PU (fA (kN 1 (Yd c)) (Zc (Zn c.Board "roll" 1 (ZM c) (f1 (ZI c.Turn "board") (Za 3)) Zi) Zi)) (fA (kN 1 (Yd c)) (Zc (Zn c.Turn "aside" 1 (ZN c) (Za 3) Zi) Zi))) Zi)) (Za 4))) (Yc (fC (.bl false))) Yy)
  (Zr (P7 (Zr (ZC 5 (fA Xm Zi)) (XH (λsl=>bnd ((Zn c.Turn "aside" 1 (ZN c) (Za 3) Zi) sl) ZE) (tgN 6) (Lg c))))
  (Zr (ZC 8 (fA (kN 2 (QY c)) (Zc (Za 3) (Zc (Za 5) Zi))))
  (Zr (ZC 9 (Z8 ZQ [8] (λsl=>bnd ((Zn c.Turn "aside" 1 (ZN c) (Za 3) Zi) sl) ZE) (MD c) (Lx c)))
  (Zr (sIf (fB (f2 kNe (fA XW (Zc (Za 9) Zi)) (fA XW (Zc (f2 kIx (Za 8) (fC (.int 1))) Zi)))) (Yc (fC (.bl false))) Yy)
  (Yc (f2 kEq (fA (YT ZQ) (Zc (f2 PU (fA (kN 1 (Yd c)) (Zc (Zn c.Board "roll" 1 (ZM c) (f2 kIx (Za 8) (fC (.int 0))) Zi) Zi)) (fA (kN 1 (Yd c)) (Zc (Za 9) Zi))) Zi)) (Za 4)))))))))))))
def B1(c:CA):iI->Mw Wv:=Yj 10 (S_law c)
end
open PySem L2
def Mj{om:iM}{h k:Nat}{ws:iI}{w:Wv}{sl:Sl}{fv fo fi:FE}(hv:fv sl om=some (.ok w,om))(ho:fo sl om=some (.ok (.o h),om))(hi:fi sl om=some (.ok (.int (k:Nat)),om))(hx:om[h]?=some (.lst ws))(hk:k<ws.length):Xl fv fo fi sl om=some (.ok (.nx,sl),om.set h (.lst (ws.set k w))):=by
 unfold Xl;rw[Zm hv,Zm ho,Zm hi];refine(Zm (a:=()) (om1:=om.set h (.lst (ws.set k w))) ?_).trans rfl
 have l2:ixN ws.length (k:Int)=some k:=by
  unfold ixN;rw[aC (by omega),aC (by omega),ck]
 unfold Ha;simp only[VB,hx];rw[l2]
def Tn(n:Nat):Mx:=(List.range n).map λi=>(List.range n).map λj=>!decide (i=j)
def QI(n i j:Nat):X8 (Tn n) i j=(decide (i<n)&&(decide (j<n)&&!decide (i=j))):=by
 have row:(Tn n).getD i []=if i<n then (List.range n).map (λj=>!decide (i=j)) else []:=by
  unfold Tn;rw[aR,bC];by_cases h:i<n
  ·rw[db h,aC h];rfl
  ·rw[bR (by rw[cu];omega),aE h];rfl
 unfold X8;rw[row];by_cases h:i<n
 ·rw[aC h,aR,bC]
  by_cases h2:j<n
  ·rw[db h2]
   simp[h,h2]
  ·rw[bR (by rw[cu];omega)]
   simp[h2]
 ·rw[aE h]
  simp[h]
def Bw(n:Nat):Lk n (Tn n):=by
 refine⟨by simp[Tn],λa ha=>?_,λa b=>?_,λa=>?_⟩
 ·unfold Tn
  rw[aR,bC,db ha];simp
 ·rw[QI,QI]
  have:decide (a=b)=decide (b=a):=decide_eq_decide.mpr eq_comm;rw[this];cases decide (a<n) <;> cases decide (b<n) <;> rfl
 ·rw[QI];simp
def Tu{n i j:Nat}(hi:i<n)(hj:j<n)(h:i≠j):X8 (Tn n) i j=true:=by rw[QI];simp[hi,hj,h]
def Tg{α:Type}(l:List (Option α)){k:Nat}(hk:k<l.length)(x:Option α)(j:Nat):at' (l.set k x) j=if j=k then x else at' l j:=by
 unfold at';rw[aR,aR];by_cases h:j=k
 ·subst h;rw[aC rfl,bV hk];rfl
 ·rw[aE h,bN λz=>h z.symm]
def Givn.put{rows:Mx}{f:hX}{told:iN}(G:Givn rows f told){k:Nat}(hk:k<f.length){o:Od}(h:HV rows f k (some o)):Givn rows f (told.set k (some o)):=by
 refine⟨G.lk,by rw[da];exact G.len,G.few,λj hj=>?_⟩;rw[Tg _ (by rw[G.len];exact hk)];by_cases e:j=k
 ·subst e;rw[aC rfl];exact h
 ·rw[aE e];exact G.ok j hj
def pF(f:hX):hX:=((f.set 0 (some 0)).set 1 (some 1)).set 2 (some 0)
def tF(f:hX):hX:=(((f.set 3 (some 0)).set 4 (some 1)).set 5 (some 0)).set 6 none
def pT(b:Bool)(t:iN):iN:=bif b then ((t.set 0 (some (.move 1))).set 2 (some (.help 0 1))).set 1 (some .stand) else (t.set 0 (some (.move 1))).set 2 (some (.help 0 1))
def tT(t:iN):iN:=((t.set 3 (some (.move 4))).set 4 (some .stand)).set 5 (some (.help 3 4))
def pF_at{f:hX}(h:3<f.length)(j:Nat):at' (pF f) j=if j=2 then some 0 else if j=1 then some 1 else if j=0 then some 0 else at' f j:=by
 unfold pF;rw[Tg _ (by simp;omega),Tg _ (by simp;omega),Tg _ (by omega)]
def tF_at{f:hX}(h:6<f.length)(j:Nat):at' (tF f) j=if j=6 then none else if j=5 then some 0 else if j=4 then some 1 else if j=3 then some 0 else at' f j:=by
 unfold tF;rw[Tg _ (by simp;omega),Tg _ (by simp;omega),Tg _ (by simp;omega),Tg _ (by omega)]
def pT_ok{n:Nat}{f:hX}{t:iN}(G:Givn (Tn n) f t)(hf:f.length=n)(h3:3<n)(a:∀j,j<3->(at' f j).isSome=true)(b:Bool):Givn (Tn n) f (pT b t):=by
 have g1:=G.put (k:=0) (o:=.move 1) (by omega) ⟨a 0 (by omega),by omega,Tu (by omega) (by omega) (by omega)⟩;have g2:=g1.put (k:=2) (o:=.help 0 1) (by omega) ⟨a 2 (by omega),by omega,by omega,by omega,a 0 (by omega),Tu (by omega) (by omega) (by omega),.inr (Tu (by omega) (by omega) (by omega))⟩;cases b with
 |false=>exact g2
 |true=>exact g2.put (k:=1) (o:=.stand) (by omega) (a 1 (by omega))
def tT_ok{n:Nat}{f:hX}{t:iN}(G:Givn (Tn n) f t)(hf:f.length=n)(h6:6<n)(a:∀j,3<=j->j<6->(at' f j).isSome=true):Givn (Tn n) f (tT t):=by
 have g1:=G.put (k:=3) (o:=.move 4) (by omega) ⟨a 3 (by omega) (by omega),by omega,Tu (by omega) (by omega) (by omega)⟩;have g2:=g1.put (k:=4) (o:=.stand) (by omega) (a 4 (by omega) (by omega));exact g2.put (k:=5) (o:=.help 3 4) (by omega) ⟨a 5 (by omega) (by omega),by omega,by omega,by omega,a 3 (by omega) (by omega),Tu (by omega) (by omega) (by omega),.inr (Tu (by omega) (by omega) (by omega))⟩
abbrev slW(ns:iB)(x1 x2 x3 x4 x5 x6 x7:Option Wv):Sl:=[some (Yu ns),x1,x2,x3,x4,x5,x6,x7]
def Rb(o:Nat)(f:hX)(m:Nat):hX:=(List.range m).foldl (λf k=>f.set (o+k) (some ((k % 2:Nat):Int))) f
def E2(o:Nat)(f:hX)(m:Nat):Rb o f (m+1)=(Rb o f m).set (o+m) (some ((m % 2:Nat):Int)):=by
 unfold Rb;rw[cY,dv];rfl
def Py(o:Nat)(f:hX):∀m,(Rb o f m).length=f.length
 |0=>rfl
 |m+1=>by rw[E2,da,Py o f m]
section
variable(c:CA){ns:iB}{ia off size:Nat}
def cell24{sl:Sl}{om:iM}(h:sl[0]?=some (some (Yu ns))):fA (kN 2 (Zp c)) (Zc (Za 0) (Zc (fC (.int 24)) Zi)) sl om=some (.ok (.int (ns.getD 24 0)),om):=Rz c (om:=om) (ns:=ns) (k:=24) (i:=0) (fe:=fC (.int 24)) h Zs
def Fp{o:Nat}{B:FS}{f:hX}{sl:Sl}(h6:6<sl.length)(ho:o+3<=f.length)(hB:∀(m:Nat) (om:iM) (ws:iI),om=[.lst ws]->o+m<ws.length->B (sl.set 6 (some (.int (m:Nat)))) om=some (.ok (.nx,sl.set 6 (some (.int (m:Nat)))),[.lst (ws.set (o+m) (.int ((m % 2:Nat):Int)))]))(x:Option Wv):∃y,XH (λsl=>bnd ((fC (.int 3)) sl) YL) (tgN 6) B (sl.set 6 x) [.lst (f.map ZJ)]=some (.ok (.nx,sl.set 6 y),[.lst ((Rb o f 3).map ZJ)]):=by
 have iw:=ZS
 obtain⟨iz,ig,hf,y,rfl,rfl⟩:=WP (T:=tgN 6) (S:=B) (n:=3) (λm iz ig=>∃y,iz=sl.set 6 y∧ig=[.lst ((Rb o f m).map ZJ)]) (sl:=sl.set 6 x) (om:=[.lst (f.map ZJ)]) (λm hm iz ig ⟨y,h1,h2⟩=>by
  subst h1 h2;have e:=hB m [.lst ((Rb o f m).map ZJ)] ((Rb o f m).map ZJ) rfl (by rw[aA,Py];omega);have e2:((Rb o f m).map ZJ).set (o+m) (.int ((m % 2:Nat):Int))=(Rb o f (m+1)).map ZJ:=by rw[E2,fO];rfl
  rw[e2]at e;exact⟨_,.nx,_,_,by show some ((sl.set 6 y).set 6 _)=_;rw[eR],e,.inl rfl,_,rfl,rfl⟩) ⟨x,rfl,rfl⟩
 exact⟨y,YI (sl1:=[]) ((Zm Zs).trans (Wa 3 _ (by omega))) hf⟩
def Cj{rows:Mx}{f:hX}{b4 b5:Bool}(h5:b5=true->3<ia)(h7:ia<=7)(L:Lk ia rows)(hf:f.length=ia)(hs:∀k s,at' f k=some s->0<=s∧s<=7):∃jX f' x6,Lk ia jX∧f'.length=ia∧(∀k s,at' f' k=some s->0<=s∧s<=7)∧(b5=true->jX=Tn ia∧∀j,j<3->(at' f' j).isSome=true) ∧ sIf (Xb (Za 5)) (Zr (ZC 2 (Z8 ZQ [1] (λsl=>bnd ((f2 kIx (Za 1) (fC (.int 0))) sl) YL) Xg (WE c))) (XH (λsl=>bnd ((fC (.int 3)) sl) YL) (tgN 6) (Ua c))) Yy (slW ns (some (ZF ia off size)) (some (.lst (rows.map Yg))) (some (.o 0)) (some (.bl b4)) (some (.bl b5)) none none) [.lst (f.map ZJ)]=some (.ok (.nx,slW ns (some (ZF ia off size)) (some (.lst (jX.map Yg))) (some (.o 0)) (some (.bl b4)) (some (.bl b5)) x6 none),[.lst (f'.map ZJ)]):=by
 have iw:=ZS;have tr:Xb (Za 5) (slW ns (some (ZF ia off size)) (some (.lst (rows.map Yg))) (some (.o 0)) (some (.bl b4)) (some (.bl b5)) none none) [.lst (f.map ZJ)]=some (.ok b5,[.lst (f.map ZJ)]):=Xy (Zb rfl);cases b5 with
 |false=>exact⟨rows,f,none,L,hf,hs,(λz=>(nomatch z)),ZP tr⟩
 |true=>
  have h3:=h5 rfl;have rg:∀(sl:Sl) (om:iM),sl[1]?=some (some (ZF ia off size))->(λsl=>bnd ((f2 kIx (Za 1) (fC (.int 0))) sl) YL) sl om=some (.ok (W0 ia),om):=λsl om h=>(Zm ((Zt (Zb h) Zs).trans (ZW (k:=0) (v:=.int ia) rfl rfl))).trans (Wa _ _ (by omega))
  have a1:ZC 2 (Z8 ZQ [1] (λsl=>bnd ((f2 kIx (Za 1) (fC (.int 0))) sl) YL) Xg (WE c)) (slW ns (some (ZF ia off size)) (some (.lst (rows.map Yg))) (some (.o 0)) (some (.bl b4)) (some (.bl true)) none none) [.lst (f.map ZJ)]=some (.ok (.nx,slW ns (some (ZF ia off size)) (some (.lst ((Tn ia).map Yg))) (some (.o 0)) (some (.bl b4)) (some (.bl true)) none none),[.lst (f.map ZJ)]):=by
   generalize [Ob.lst (f.map ZJ)]=om
   have cr:=Us (cT:=Xg) (f:=WE c) (mk:=λw=>Xq [1] w (slW ns (some (ZF ia off size)) (some (.lst (rows.map Yg))) (some (.o 0)) (some (.bl b4)) (some (.bl true)) none none)) (om:=om) (n:=ia) (λ_=>true) (λa=>Yg ((List.range ia).map λj=>!decide (a=j))) (λ_ _=>rfl) (λa ha _=>by
    have ci:=Us (cT:=Xg) (f:=T7 c) (mk:=λw=>Xq [0] w (Xq [1] (.int (a:Nat)) (slW ns (some (ZF ia off size)) (some (.lst (rows.map Yg))) (some (.o 0)) (some (.bl b4)) (some (.bl true)) none none))) (om:=om) (n:=ia) (λ_=>true) (λb=>Wv.bl (!decide (a=b))) (λ_ _=>rfl) (λb hb _=>(v2 rfl rfl).trans (DQ _ _ _));refine(Xv (ws:=W0 ia) (om1:=om) (rg _ _ rfl) (by rw[WN];omega) ci).trans ?_;rw[bS.mpr (λ_ _=>rfl)];refine(Yk (by rw[aA,cu];omega)).trans ?_;show _=some (Except.ok (Wv.lst (((List.range ia).map λj=>!decide (a=j)).map Wv.bl)),om);rw[aY];rfl)
   refine Zv (i:=2) ((Xv (ws:=W0 ia) (om1:=om) (rg _ _ rfl) (by rw[WN];omega) cr).trans ?_);rw[bS.mpr (λ_ _=>rfl)];refine(Yk (by rw[aA,cu];omega)).trans ?_;unfold Tn;rw[aY];rfl
  obtain⟨y,a2⟩:=Fp (o:=0) (B:=Ua c) (f:=f) (sl:=slW ns (some (ZF ia off size)) (some (.lst ((Tn ia).map Yg))) (some (.o 0)) (some (.bl b4)) (some (.bl true)) none none) (by simp) (by omega) (λm om ws h hl=>by
   subst h;rw[d9]at hl ⊢;exact Mj (om:=[.lst ws]) (h:=0) (ws:=ws) (WI (q:=2) (a:=(m:Int)) (Zb rfl) (by decide)) (Zb rfl) (Zb rfl) rfl hl) none
  have at3:=pF_at (f:=f) (by omega);refine⟨Tn ia,pF f,y,Bw ia,by simp[pF,hf],λk s h=>?_,λ_=>⟨rfl,λj hj=>?_⟩,(YC tr).trans ((Zh a1).trans a2)⟩
  ·rw[at3]at h
   split at h
   ·cases h;omega
   ·split at h
    ·cases h;omega
    ·split at h
     ·cases h;omega
     ·exact hs k s h
  ·rw[at3]
   split
   ·rfl
   ·split
    ·rfl
    ·rw[aC (by omega)];rfl
def Er{rows:Mx}{f:hX}{b4 b5:Bool}{x6:Option Wv}(h4:b4=true->ia=7)(hf:f.length=ia)(hs:∀k s,at' f k=some s->0<=s∧s<=7)(h3:b5=true->∀j,j<3->(at' f j).isSome=true):∃f' ox,f'.length=ia∧(∀k s,at' f' k=some s->0<=s∧s<=7)∧(b5=true->∀j,j<3->(at' f' j).isSome=true)∧(b4=true->∀j,3<=j->j<6->(at' f' j).isSome=true) ∧ sIf (Xb (Za 4)) (Zr (XH (λsl=>bnd ((fC (.int 3)) sl) YL) (tgN 6) (Ub c)) (Xl (fC .non) (Za 3) (fC (.int 6)))) Yy (slW ns (some (ZF ia off size)) (some (.lst (rows.map Yg))) (some (.o 0)) (some (.bl b4)) (some (.bl b5)) x6 none) [.lst (f.map ZJ)]=some (.ok (.nx,slW ns (some (ZF ia off size)) (some (.lst (rows.map Yg))) (some (.o 0)) (some (.bl b4)) (some (.bl b5)) ox none),[.lst (f'.map ZJ)]):=by
 have tr:Xb (Za 4) (slW ns (some (ZF ia off size)) (some (.lst (rows.map Yg))) (some (.o 0)) (some (.bl b4)) (some (.bl b5)) x6 none) [.lst (f.map ZJ)]=some (.ok b4,[.lst (f.map ZJ)]):=Xy (Zb rfl);cases b4 with
 |false=>exact⟨f,x6,hf,hs,h3,(λz=>(nomatch z)),ZP tr⟩
 |true=>
  have h7:=h4 rfl
  obtain⟨y,a2⟩:=Fp (o:=3) (B:=Ub c) (f:=f) (sl:=slW ns (some (ZF ia off size)) (some (.lst (rows.map Yg))) (some (.o 0)) (some (.bl true)) (some (.bl b5)) none none) (by simp) (by omega) (λm om ws h hl=>by
   subst h;exact Mj (om:=[.lst ws]) (h:=0) (ws:=ws) (WI (q:=2) (a:=(m:Int)) (Zb rfl) (by decide)) (Zb rfl) ((M0 (q:=3) (Zb rfl)).trans (by rw[show(3:Int)+(m:Int)=((3+m:Nat):Int) by omega])) rfl hl) x6
  have a3:=Mj (sl:=slW ns (some (ZF ia off size)) (some (.lst (rows.map Yg))) (some (.o 0)) (some (.bl true)) (some (.bl b5)) y none) (om:=[.lst ((Rb 3 f 3).map ZJ)]) (h:=0) (k:=6) (ws:=(Rb 3 f 3).map ZJ) (w:=.non) (fv:=fC .non) (fo:=Za 3) (fi:=fC (.int 6)) Zs (Zb rfl) Zs rfl (by rw[aA,Py];omega)
  have e:((Rb 3 f 3).map ZJ).set 6 .non=(tF f).map ZJ:=by
   show _=(((Rb 3 f 3)).set 6 none).map ZJ;rw[fO];rfl
  rw[e]at a3;have at6:=tF_at (f:=f) (by omega);refine⟨tF f,y,by simp[tF,hf],λk s h=>?_,λhb j hj=>?_,λ_ j oY h6=>?_,(YC tr).trans ((Zh a2).trans a3)⟩
  ·rw[at6]at h
   split at h
   ·cases h
   ·split at h
    ·cases h;omega
    ·split at h
     ·cases h;omega
     ·split at h
      ·cases h;omega
      ·exact hs k s h
  ·rw[at6,aE (by omega),aE (by omega),aE (by omega),aE (by omega)]
   exact h3 hb j hj
  ·rw[at6,aE (by omega)]
   split
   ·rfl
   ·split
    ·rfl
    ·rw[aC (by omega)];rfl
end
def puT{sl:Sl}{fv:FE}{t:iN}{k:Nat}{o:Option Od}{s:iI}(hv:fv sl [.lst s,.lst (t.map odW)]=some (.ok (odW o),[.lst s,.lst (t.map odW)]))(h7:sl[7]?=some (some (.o 1)))(hk:k<t.length):Xl fv (Za 7) (fC (.int (k:Nat))) sl [.lst s,.lst (t.map odW)]=some (.ok (.nx,sl),[.lst s,.lst ((t.set k o).map odW)]):=by
 have:=Mj (om:=[.lst s,.lst (t.map odW)]) (h:=1) (k:=k) (ws:=t.map odW) (fo:=Za 7) (fi:=fC (.int (k:Nat))) hv (Zb h7) Zs rfl (by rw[aA];exact hk);rw[this,fO];rfl
section
variable(c:CA){ns:iB}{ia off size:Nat}
def AT{sl:Sl}{om:iM}(g:Nat):fA YW (Zc (fC (.str "move")) (Zc (fC (.int (g:Nat))) Zi)) sl om=some (.ok (odW (some (.move g))),om):=(ZB (Ze Zs (Ze Zs Zk))).trans (Y0 (by simp))
def Ak{sl:Sl}{om:iM}(h g:Nat):fA YW (Zc (fC (.str "help")) (Zc (fC (.int (h:Nat))) (Zc (fC (.int (g:Nat))) Zi))) sl om=some (.ok (odW (some (.help h g))),om):=(ZB (Ze Zs (Ze Zs (Ze Zs Zk)))).trans (Y0 (by simp))
def Fk{sl:Sl}{om:iM}:fA YW (Zc (fC (.str "stand")) Zi) sl om=some (.ok (odW (some .stand)),om):=(ZB (Ze Zs Zk)).trans (Y0 (by simp))
def Dw(ns:iB):∃(ia off size:Nat) (rows:Mx) (f:hX) (told:iN),2<=ia∧ia<=7∧off+ia<=size∧size<=60∧Lk ia rows∧f.length=ia∧(∀k s,at' f k=some s->0<=s∧s<=7)∧Givn rows f told∧Wm c [Yu ns] []=some (.ok (.tup [ZF ia off size,.lst (rows.map Yg),.o 0,.o 1]),[.lst (f.map ZJ),.lst (told.map odW)]):=by
 have iw:=ZS;obtain⟨m0,o0,z0,p1,p2,p3,p4,p5,ef⟩:=DB c ns;generalize hw:ns.getD 24 0=w;have cl:∀(sl:Sl) (om:iM),sl[0]?=some (some (Yu ns))->fA (kN 2 (Zp c)) (Zc (Za 0) (Zc (fC (.int 24)) Zi)) sl om=some (.ok (.int w),om):=λsl om h=>(cell24 c h).trans (by rw[hw])
 have s1:ZC 1 (fA (kN 1 (W1 c)) (Zc (Za 0) Zi)) (slW ns none none none none none none none) []=some (.ok (.nx,slW ns (some (ZF m0 o0 z0)) none none none none none none),[]):=Zv (i:=1) ((ZB (Ze (Zb rfl) Zk)).trans ((YD rfl).trans (ef [])))
 obtain⟨ia,off,size,q1,q2,q3,q4,q7,s2⟩:∃ia off size:Nat,2<=ia∧ia<=7∧off+ia<=size∧size<=60∧(w % 4=1->ia=7)∧sIf (fB (f2 kEq (f2 YY (fA (kN 2 (Zp c)) (Zc (Za 0) (Zc (fC (.int 24)) Zi))) (fC (.int 4))) (fC (.int 1)))) (ZC 1 (fA YW (Zc (fC (.int 7)) (Zc (fA K2 (Zc (f2 kIx (Za 1) (fC (.int 1))) (Zc (fC (.int 53)) Zi))) (Zc (fA KU (Zc (f2 kIx (Za 1) (fC (.int 2))) (Zc (fC (.int 7)) Zi))) Zi))))) Yy (slW ns (some (ZF m0 o0 z0)) none none none none none none) []=some (.ok (.nx,slW ns (some (ZF ia off size)) none none none none none none),[]):=by
  have t:fB (f2 kEq (f2 YY (fA (kN 2 (Zp c)) (Zc (Za 0) (Zc (fC (.int 24)) Zi))) (fC (.int 4))) (fC (.int 1))) (slW ns (some (ZF m0 o0 z0)) none none none none none none) []=some (.ok (decide (w % 4=1)),[]):=Nv (WI (cl _ _ rfl) (by decide));by_cases h:w % 4=1
  ·rw[bJ h]at t
   have i1:f2 kIx (Za 1) (fC (.int 1)) (slW ns (some (ZF m0 o0 z0)) none none none none none none) []=some (.ok (.int (o0:Nat)),[]):=(Zt (Zb rfl) Zs).trans (ZW (k:=1) rfl rfl);have i2:f2 kIx (Za 1) (fC (.int 2)) (slW ns (some (ZF m0 o0 z0)) none none none none none none) []=some (.ok (.int (z0:Nat)),[]):=(Zt (Zb rfl) Zs).trans (ZW (k:=2) rfl rfl)
   have e1:fA K2 (Zc (f2 kIx (Za 1) (fC (.int 1))) (Zc (fC (.int 53)) Zi)) (slW ns (some (ZF m0 o0 z0)) none none none none none none) []=some (.ok (.int (min o0 53:Nat)),[]):=(ZB (Ze i1 (Ze Zs Zk))).trans (by
    show some (Except.ok (Wv.int (if (53:Int)<(o0:Int) then 53 else (o0:Int))),[])=_;rw[show(if (53:Int)<(o0:Int) then 53 else (o0:Int))=((min o0 53:Nat):Int) by split <;> omega])
   have e2:fA KU (Zc (f2 kIx (Za 1) (fC (.int 2))) (Zc (fC (.int 7)) Zi)) (slW ns (some (ZF m0 o0 z0)) none none none none none none) []=some (.ok (.int (max z0 7:Nat)),[]):=(ZB (Ze i2 (Ze Zs Zk))).trans (by
    show some (Except.ok (Wv.int (if (7:Int) > (z0:Int) then 7 else (z0:Int))),[])=_;rw[show(if (7:Int) > (z0:Int) then 7 else (z0:Int))=((max z0 7:Nat):Int) by split <;> omega])
   exact⟨7,min o0 53,max z0 7,by omega,by omega,by omega,by omega,λ_=>rfl,(YC t).trans (Zv (i:=1) ((ZB (Ze Zs (Ze e1 (Ze e2 Zk)))).trans (Y0 (by simp))))⟩
  ·rw[aJ h]at t
   exact⟨m0,o0,z0,p1,p2,p3,p4,λz=>absurd z h,ZP t⟩
 have s3:ZC 2 (fA (kN 2 (Wy c)) (Zc (Za 0) (Zc (f2 kIx (Za 1) (fC (.int 0))) Zi))) (slW ns (some (ZF ia off size)) none none none none none none) []=some (.ok (.nx,slW ns (some (ZF ia off size)) (some (.lst ((X2 ns ia).map Yg))) none none none none none),[]):=Zv (i:=2) ((ZB (Ze (Zb rfl) (Ze ((Zt (Zb rfl) Zs).trans (ZW (k:=0) (v:=.int ia) rfl rfl)) Zk))).trans ((YD rfl).trans (DF c ns (by omega) [])));have s4:ZC 3 (fA (kN 2 (WX c)) (Zc (Za 0) (Zc (f2 kIx (Za 1) (fC (.int 0))) Zi))) (slW ns (some (ZF ia off size)) (some (.lst ((X2 ns ia).map Yg))) none none none none none) []=some (.ok (.nx,slW ns (some (ZF ia off size)) (some (.lst ((X2 ns ia).map Yg))) (some (.o 0)) none none none none),[.lst ((YN ns ia).map ZJ)]):=Zv (i:=3) ((ZB (Ze (Zb rfl) (Ze ((Zt (Zb rfl) Zs).trans (ZW (k:=0) (v:=.int ia) rfl rfl)) Zk))).trans ((YD rfl).trans (EU c ns (by omega) [])));generalize hb4:decide (w % 4=1)=b4;generalize hb5:(decide ((ia:Int) > 3)&&decide (w % 2=1))=b5
 have s5:ZC 4 (f2 kEq (f2 YY (fA (kN 2 (Zp c)) (Zc (Za 0) (Zc (fC (.int 24)) Zi))) (fC (.int 4))) (fC (.int 1))) (slW ns (some (ZF ia off size)) (some (.lst ((X2 ns ia).map Yg))) (some (.o 0)) none none none none) [.lst ((YN ns ia).map ZJ)]=some (.ok (.nx,slW ns (some (ZF ia off size)) (some (.lst ((X2 ns ia).map Yg))) (some (.o 0)) (some (.bl b4)) none none none),[.lst ((YN ns ia).map ZJ)]):=by
  rw[← hb4];exact Zv (i:=4) ((Zt (WI (cl _ _ rfl) (by decide)) Zs).trans (Wi _ 1 _))
 have s6:ZC 5 (Uf (f2 kGt (f2 kIx (Za 1) (fC (.int 0))) (fC (.int 3))) (f2 kEq (f2 YY (fA (kN 2 (Zp c)) (Zc (Za 0) (Zc (fC (.int 24)) Zi))) (fC (.int 2))) (fC (.int 1)))) (slW ns (some (ZF ia off size)) (some (.lst ((X2 ns ia).map Yg))) (some (.o 0)) (some (.bl b4)) none none none) [.lst ((YN ns ia).map ZJ)]=some (.ok (.nx,slW ns (some (ZF ia off size)) (some (.lst ((X2 ns ia).map Yg))) (some (.o 0)) (some (.bl b4)) (some (.bl b5)) none none),[.lst ((YN ns ia).map ZJ)]):=by
  rw[← hb5];exact Zv (i:=5) (QM ((Zt ((Zt (Zb rfl) Zs).trans (ZW (k:=0) (v:=.int ia) rfl rfl)) Zs).trans rfl) λ_=>(Zt (WI (cl _ _ rfl) (by decide)) Zs).trans (Wi _ 1 _))
 have h5:b5=true->3<ia:=λz=>by rw[← hb5,cf,bX]at z;omega
 have h4:b4=true->ia=7:=λz=>q7 (by rw[← hb4]at z;exact bD z)
 have h45:b4=true->b5=true:=λz=>by
  have z':=h4 z;rw[← hb4,bX]at z;rw[← hb5,cf,bX,bX];omega
 obtain⟨rows,f1,x6,L,oy,oz,mM,s7⟩:=Cj c (ns:=ns) (off:=off) (size:=size) (b4:=b4) (rows:=X2 ns ia) (f:=YN ns ia) h5 q2 (PY ns ia) (Qi ns ia) (λk s h=>by
  unfold at' at h;rw[aR]at h;unfold YN at h;rw[bC]at h;by_cases hk:k<ia
  ·rw[db hk]at h;exact GV h
  ·rw[bR (by simp;omega)]at h;cases h)
 obtain⟨f,y6,fl,fs,fp,ft,s8⟩:=Er c (ns:=ns) (off:=off) (size:=size) (rows:=rows) (x6:=x6) h4 oy oz (λz=>(mM z).2);have s9:ZC 7 (fA (kN 3 (Wf c)) (Zc (Za 0) (Zc (Za 2) (Zc (Za 3) Zi)))) (slW ns (some (ZF ia off size)) (some (.lst (rows.map Yg))) (some (.o 0)) (some (.bl b4)) (some (.bl b5)) y6 none) [.lst (f.map ZJ)]=some (.ok (.nx,slW ns (some (ZF ia off size)) (some (.lst (rows.map Yg))) (some (.o 0)) (some (.bl b4)) (some (.bl b5)) y6 (some (.o 1))),[.lst (f.map ZJ),.lst ((Vg 10 ns rows f).map odW)]):=Zv (i:=7) ((ZB (Ze (Zb rfl) (Ze (Zb rfl) (Ze (Zb rfl) Zk)))).trans ((YD rfl).trans (Ij c ns (by rw[fl];exact L) (by omega) [.lst (f.map ZJ)] (sw:=.o 0) rfl)));have G0:Givn rows f (Vg 10 ns rows f):=GY 10 ns (by rw[fl];exact L) (by omega);generalize Vg 10 ns rows f=t0 at s9 G0;have tl:=G0.len
 obtain⟨t1,G1,s10⟩:∃t1,Givn rows f t1∧sIf (Xb (Za 5)) (Zr (Xl (fA YW (Zc (fC (.str "move")) (Zc (fC (.int 1)) Zi))) (Za 7) (fC (.int 0))) (Zr (Xl (fA YW (Zc (fC (.str "help")) (Zc (fC (.int 0)) (Zc (fC (.int 1)) Zi)))) (Za 7) (fC (.int 2))) (sIf (fB (f2 kGt (f2 YY (f2 TL (fA (kN 2 (Zp c)) (Zc (Za 0) (Zc (fC (.int 24)) Zi))) (fC (.int 4))) (fC (.int 3))) (fC (.int 0)))) (Xl (fA YW (Zc (fC (.str "stand")) Zi)) (Za 7) (fC (.int 1))) Yy))) Yy (slW ns (some (ZF ia off size)) (some (.lst (rows.map Yg))) (some (.o 0)) (some (.bl b4)) (some (.bl b5)) y6 (some (.o 1))) [.lst (f.map ZJ),.lst (t0.map odW)]=some (.ok (.nx,slW ns (some (ZF ia off size)) (some (.lst (rows.map Yg))) (some (.o 0)) (some (.bl b4)) (some (.bl b5)) y6 (some (.o 1))),[.lst (f.map ZJ),.lst (t1.map odW)]):=by
  have tr:∀om,Xb (Za 5) (slW ns (some (ZF ia off size)) (some (.lst (rows.map Yg))) (some (.o 0)) (some (.bl b4)) (some (.bl b5)) y6 (some (.o 1))) om=some (.ok b5,om):=λom=>Xy (Zb rfl)
  cases b5 with
  |false=>exact⟨t0,G0,ZP (tr _)⟩
  |true=>
   have h3:=h5 rfl;obtain⟨rfl,_⟩:=mM rfl;refine⟨pT (decide (w / 4 % 3 > 0)) t0,pT_ok G0 fl h3 (fp rfl) _,(YC (tr _)).trans ((Zh (puT (k:=0) (AT 1) rfl (by omega))).trans ((Zh (puT (k:=2) (Ak 0 1) rfl (by rw[da];omega))).trans ?_))⟩;have g:∀om,fB (f2 kGt (f2 YY (f2 TL (fA (kN 2 (Zp c)) (Zc (Za 0) (Zc (fC (.int 24)) Zi))) (fC (.int 4))) (fC (.int 3))) (fC (.int 0))) (slW ns (some (ZF ia off size)) (some (.lst ((Tn ia).map Yg))) (some (.o 0)) (some (.bl b4)) (some (.bl true)) y6 (some (.o 1))) om=some (.ok (decide (w / 4 % 3 > 0)),om):=λom=>ZO ((Zt (WI (Rf (cl _ _ rfl) (by decide)) (by decide)) Zs).trans rfl)
   generalize decide (w / 4 % 3 > 0)=b at g;cases b with
   |false=>exact ZP (g _)
   |true=>exact(YC (g _)).trans (puT (k:=1) Fk rfl (by rw[da,da];omega))
 have tl1:=G1.len
 obtain⟨t2,G2,s11⟩:∃t2,Givn rows f t2∧sIf (Xb (Za 4)) (Zr (Xl (fA YW (Zc (fC (.str "move")) (Zc (fC (.int 4)) Zi))) (Za 7) (fC (.int 3))) (Zr (Xl (fA YW (Zc (fC (.str "stand")) Zi)) (Za 7) (fC (.int 4))) (Xl (fA YW (Zc (fC (.str "help")) (Zc (fC (.int 3)) (Zc (fC (.int 4)) Zi)))) (Za 7) (fC (.int 5))))) Yy (slW ns (some (ZF ia off size)) (some (.lst (rows.map Yg))) (some (.o 0)) (some (.bl b4)) (some (.bl b5)) y6 (some (.o 1))) [.lst (f.map ZJ),.lst (t1.map odW)]=some (.ok (.nx,slW ns (some (ZF ia off size)) (some (.lst (rows.map Yg))) (some (.o 0)) (some (.bl b4)) (some (.bl b5)) y6 (some (.o 1))),[.lst (f.map ZJ),.lst (t2.map odW)]):=by
  have tr:∀om,Xb (Za 4) (slW ns (some (ZF ia off size)) (some (.lst (rows.map Yg))) (some (.o 0)) (some (.bl b4)) (some (.bl b5)) y6 (some (.o 1))) om=some (.ok b4,om):=λom=>Xy (Zb rfl)
  cases b4 with
  |false=>exact⟨t1,G1,ZP (tr _)⟩
  |true=>
   have h7:=h4 rfl;obtain⟨rfl,_⟩:=mM (h45 rfl);exact⟨tT t1,tT_ok G1 fl (by omega) (ft rfl),(YC (tr _)).trans ((Zh (puT (k:=3) (AT 4) rfl (by omega))).trans ((Zh (puT (k:=4) Fk rfl (by rw[da];omega))).trans (puT (k:=5) (Ak 3 4) rfl (by rw[da,da];omega))))⟩
 exact⟨ia,off,size,rows,f,t2,q1,q2,q3,q4,L,fl,fs,G2,ZH ((Zh s1).trans ((Zh s2).trans ((Zh s3).trans ((Zh s4).trans ((Zh s5).trans ((Zh s6).trans ((Zh s7).trans ((Zh s8).trans ((Zh s9).trans ((Zh s10).trans ((Zh s11).trans (Zu ((ZB (Ze (Zb rfl) (Ze (Zb rfl) (Ze (Zb rfl) (Ze (Zb rfl) Zk))))).trans (Y0 (by simp)))))))))))))))⟩
end
def gO(told:iN)(k:Nat):Nat:=match at' told k with
 |some (.move g)=>g
 |_=>0
section
variable{rows:Mx}{f:hX}{told:iN}
def Jm(hf:f.length<=60){k:Nat}(h:k∈VZ told f 100 (mvL told f)):Yo told f (VZ told f 100 (mvL told f)) k=0:=by
 have hl:=VS told f;have e:=NL told f 100 (mvL told f) (by omega);unfold fallen at e;rw[List.filter_eq_nil_iff]at e;have:=e k h;simpa using this
def I0(hf:f.length<=60){k g:Nat}(h:k∈VZ told f 100 (mvL told f))(e:at' told k=some (.move g)):Kz told f k g=false:=by
 have z:=Jm hf h;unfold Yo at z;rw[e]at z;dsimp only at z;cases o:Kz told f k g with
 |false=>rfl
 |true=>
  have:VH told f k g=1:=by unfold VH;rw[o];rfl
  rw[this]at z;simp at z
def C1(hf:f.length<=60){i j g:Nat}(hi:i∈VZ told f 100 (mvL told f))(hj:j∈VZ told f 100 (mvL told f))(ei:at' told i=some (.move g))(ej:at' told j=some (.move g)):i=j:=by
 have sub:=JP told f 100 (mvL told f)
 have one:∀{a b:Nat},a∈VZ told f 100 (mvL told f)->b∈VZ told f 100 (mvL told f)->at' told a=some (.move g)->at' told b=some (.move g)->a≠b->¬ fN told f a<=fN told f b:=λ{a b} ha hb ea eb jw hle=>by
  have o:=I0 hf ha ea;unfold Kz at o;rw[ff]at o;exact o b (aL.mpr ⟨sub.subset hb,by rw[bJ eb,aJ λz=>jw z.symm];rfl⟩) (bJ hle)
 by_cases h:i=j
 ·exact h
 ·have a:=one hi hj ei ej h
  have b:=one hj hi ej ei λz=>h z.symm
  omega
def Dg{k:Nat}(h:k∈mvL told f):at' told k=some (.move (gO told k)):=by
 obtain⟨_,g,e⟩:=WV.mp h;unfold gO;rw[e]
end
open PySem L2 Tb
def Yp(om l:iM)(i:Nat):(om++l)[om.length+i]?=l[i]?:=by rw[bL (by omega),d8]
def Ro(om l:iM)(i:Nat)(x:Ob):(om++l).set (om.length+i) x=om++l.set i x:=by rw[cp _ _ (by omega),d8]
def Wu{om l:iM}{i:Nat}{x:Ob}(h:om[i]?=some x):(om++l)[i]?=some x:=by rw[bA (aG.mp h).1,h]
section
variable{sl:Sl}{om om1:iM}{us:hY}{fv fd fk fo:FE}{h:Nat}{a s:Int}
def J7{C:Addr}{n:Str}{fs:iJ}{v:Wv}(hv:fv sl om=some (.ok v,om1))(ho:fo sl om1=some (.ok (.o h),om1))(hi:om1[h]?=some (.ins C fs))(hl:fs.length<900):Xu C n fv fo sl om=some (.ok (.nx,sl),om1.set h (.ins C (Wk n v fs))):=by
 unfold Xu;rw[Zm hv,Zm ho];refine(Zm (a:=()) (om1:=om1.set h (.ins C (Wk n v fs))) ?_).trans rfl;simp[NT,hi,hl]
def QU(hv:fv sl om=some (.ok (.int s),om))(hd:fd sl om=some (.ok (.o h),om))(hk:fk sl om=some (.ok (.int a),om))(hx:om[h]?=some (.dk (Zx us)))(hn:us.lookup a=none)(hl:us.length<=60):YU fv fd fk sl om=some (.ok (.nx,sl),om.set h (.dk (Zx (us++[(a,s)])))):=by
 have iw:=ZS;have im:us.length<lim:=by omega
 unfold YU;rw[Zm hv,Zm hd,Zm hk];refine(Zm (a:=()) (om1:=om.set h (.dk (Zx (us++[(a,s)])))) ?_).trans rfl;simp[PO,OP,hx,Xa,NG,im,IC s hn]
def SC(hx:om[h]?=some (.dk (Zx us)))(neg:Bool):Ws neg (.int a) (.o h) om=some (.ok (.bl (if neg then !(us.lookup a).isSome else (us.lookup a).isSome)),om):=by
 simp[Ws,Wr,hx,Xa,Tz]
def Rp(hx:om[h]?=some (.dk (Zx us)))(e:us.lookup a=some s):Wb (.o h) (.int a) om=some (.ok (.int s),om):=by
 simp[Wb,Wr,hx,Xa,Tz,e]
def OC{k:iI->Mw Wv}{n:Nat}{js:iC}{fi:FI}{c:FT}{f:FE}{ws us:iI}(h:fi sl om=some (.ok ws,om))(hl:ws.length<=lim)(ht:ws.all (Go n)=true)(hc:Xo c f (λw=>VM js w sl) ws om=some (.ok us,om)):XE k n js fi c f sl om=k us om:=by
 unfold XE;rw[Zm h];refine(Zm (a:=()) (om1:=om) (M6 ?_)).trans ?_
 ·rw[bJ hl,ht];rfl
 ·exact Zm hc
end
def RG{us:hY}{k:Int}(h:∀s,(k,s) ∉ us):us.lookup k=none:=by
 cases e:us.lookup k with
 |none=>rfl
 |some s=>exact absurd (Va e) (h s)
abbrev goP(off:Nat)(g:Nat->Nat)(F:iC):hY:=F.map λ(k:Nat)=>((off:Int)+k,(off:Int)+g k)
abbrev coP(off:Nat)(g:Nat->Nat)(F:iC):hY:=F.map λ(k:Nat)=>((off:Int)+g k,(off:Int)+k)
abbrev sN(f:hX)(k:Nat):Int:=(at' f k).getD 0
abbrev unP(off:Nat)(f:hX)(l:iC):hY:=l.map λ(k:Nat)=>((off:Int)+k,sN f k)
abbrev gnP(off:Nat)(f:hX)(g:Nat->Nat)(l:iC):hY:=l.map λ(k:Nat)=>((off:Int)+g k,sN f k)
def Iy(off a b:Nat):((off:Int)+a == (off:Int)+b)=decide (a=b):=by
 by_cases h:a=b
 ·subst h;simp
 ·rw[aJ h,aW];omega
def O9(off:Nat)(v:Nat->Int)(x:Nat):∀F:iC,(F.map λ(k:Nat)=>((off:Int)+k,v k)).lookup ((off:Int)+x)=if F.contains x=true then some (v x) else none
 |[]=>rfl
 |k::F=>by
  rw[aU,aK,Iy,eU];by_cases e:x=k
  ·subst e;simp
  ·rw[aJ e,aW.mpr e,fj]
   exact O9 off v x F
def EK(off:Nat)(g:Nat->Nat)(v:Nat->Int)(x:Nat):∀F:iC,((F.map λ(k:Nat)=>((off:Int)+g k,v k)).lookup ((off:Int)+x)).isSome=(F.map g).contains x
 |[]=>rfl
 |k::F=>by
  rw[aU,aK,Iy,aU,eU];by_cases e:x=g k
  ·subst e;simp
  ·rw[aJ e,aW.mpr e,fj]
   exact EK off g v x F
structure Trn(off:Nat)(f:hX)(told:iN)(g:Nat->Nat)(F:iC):Prop where
 fin:VZ told f 100 (mvL told f)=F
 mv:∀k∈mvL told f,at' told k=some (.move (g k))
 sub:∀k∈F,k∈mvL told f
 nd:F.Nodup
 inj:∀i∈F,∀j∈F,g i=g j->i=j
 few:(mvL told f).length<=30
 gap:(YM [] ((mvL told f).map λ(k:Nat)=>(off:Int)+g k)).length / 4<=(YM [] (F.map λ(k:Nat)=>(off:Int)+g k)).length∨F=[]
abbrev tn1(a:Wv):iJ:=[("goals",a)]
abbrev tn2(a b:Wv):iJ:=[("goals",a),("comers",b)]
abbrev tn3(a b d:Wv):iJ:=[("goals",a),("comers",b),("pushed",d)]
abbrev tn4(a b d e:Wv):iJ:=[("goals",a),("comers",b),("pushed",d),("closed",e)]
abbrev tn5(a b d e g:Wv):iJ:=[("goals",a),("comers",b),("pushed",d),("closed",e),("board",g)]
def pf2(a b:Wv):Wk (Str.ofString "comers") b (tn1 a)=tn2 a b:=by simp[Wk,WC]
def pf3(a b d:Wv):Wk (Str.ofString "pushed") d (tn2 a b)=tn3 a b d:=by simp[Wk,WC]
def pf4(a b d e:Wv):Wk (Str.ofString "closed") e (tn3 a b d)=tn4 a b d e:=by simp[Wk,WC]
def pf5(a b d e g:Wv):Wk (Str.ofString "board") g (tn4 a b d e)=tn5 a b d e g:=by simp[Wk,WC]
def lg(a:Wv)(r:iJ):List.lookup (Str.ofString "goals") ((Str.ofString "goals",a)::r)=some a:=by simp[aK,YQ]
def lc(a b:Wv)(r:iJ):List.lookup (Str.ofString "comers") ((Str.ofString "goals",a)::(Str.ofString "comers",b)::r)=some b:=by simp[aK,YQ]
def lp(a b d:Wv)(r:iJ):List.lookup (Str.ofString "pushed") ((Str.ofString "goals",a)::(Str.ofString "comers",b)::(Str.ofString "pushed",d)::r)=some d:=by simp[aK,YQ]
section
variable{c:CA}{om:iM}{ho hb hm hu hl hg size off:Nat}{f:hX}{kvs:iK}{gs:Gs}{rows:Mx}{told:iN}{g:Nat->Nat}{F:iC}
def EF(A:Sit c om ho hb hm hu hl hg size off f kvs gs rows told){k gg:Nat}(e:at' told k=some (.move gg)){sl:Sl}{i j:Nat}(s0:sl[i]?=some (some (.o ho)))(s1:sl[j]?=some (some (.int ((off:Int)+k)))):Zn c.Orders "goal_of" 2 (Zo c) (Za i) (Zc (Za j) Zi) sl om=some (.ok (.int ((off:Int)+gg)),om):=RF A e s0 s1
def Ng(off:Nat)(f:hX)(l:iC):(unP off f l).map prW=l.map λ(k:Nat)=>prW ((off:Int)+k,sN f k):=by rw[unP,aY];rfl
def gnP_W(off:Nat)(f:hX)(g:Nat->Nat)(l:iC):(gnP off f g l).map prW=l.map λ(k:Nat)=>prW ((off:Int)+g k,sN f k):=by rw[gnP,aY];rfl
def IH(A:Sit c om ho hb hm hu hl hg size off f kvs gs rows told){sl:Sl}{fo:FE}(h:fo sl om=some (.ok (.o hb),om)):(λsl=>bnd ((Zn c.Board "roll" 1 (ZM c) fo Zi) sl) ZE) sl om=some (.ok ((unP off f (ZL f f.length)).map prW),om):=by
 refine(Zm ((Zy h (Zz A.W.b) (Yh _ _ _ (by decide) (by decide)) Zk rfl).trans (JB A.W))).trans ?_;rw[Ng];rfl
def WA{k:Nat}(h:k∈ZL f f.length):k<f.length∧at' f k=some (sN f k):=by
 obtain⟨h1,h2⟩:=aL.mp h;obtain⟨s,e⟩:=aV.mp h2;exact⟨bO.mp h1,by unfold sN;rw[e];rfl⟩
def WK(f:hX):(ZL f f.length).Nodup:=fu.sublist bW
def MK(l:hY):(l.map prW).all (Go 2)=true:=by
 rw[de];intro w hw;obtain⟨x,_,rfl⟩:=aO.mp hw;rfl
abbrev XV(f:hX)(F:iC):iC:=(ZL f f.length).filter λx=>F.contains x
abbrev kept(f:hX)(g:Nat->Nat)(F:iC):iC:=(ZL f f.length).filter λx=>!F.contains x&&!(F.map g).contains x
abbrev push(f:hX)(g:Nat->Nat)(F:iC):iC:=(ZL f f.length).filter λx=>(F.map g).contains x&&!F.contains x
def Qb(f:hX)(g:Nat->Nat)(F:iC):(XV f F).length+(kept f g F).length<=(ZL f f.length).length:=by
 unfold XV kept
 induction ZL f f.length with
 |nil=>simp
 |cons x l ih=>
  rw[cJ,cJ];cases F.contains x
  ·cases (F.map g).contains x <;> simp at ih ⊢ <;> omega
  ·simp at ih ⊢;omega
def UE:∀{l m:iC},l.Nodup->(∀x∈l,x∈m)->l.length<=m.length
 |[],_,_,_=>cz _
 |x::l,m,nd,h=>by
  have hx:=h x (.head _);have nd:=cH.mp nd;have:=UE (l:=l) (m:=m.erase x) nd.2 λy hy=>(List.mem_erase_of_ne λz:y=x=>nd.1 (z ▸ hy)).mpr (h y (.tail _ hy))
  have e:=List.length_erase_of_mem hx;have p:0<m.length:=List.length_pos_of_mem hx;show l.length+1<=m.length;omega
def Ph(A:Sit c om ho hb hm hu hl hg size off f kvs gs rows told){hG hC:Nat}(e1:om[hG]?=some (.dk (Zx (goP off g F))))(e2:om[hC]?=some (.dk (Zx (coP off g F)))):WF c [.o hb,.o hG,.o hC] om=some (.ok (.lst ((gnP off f g (XV f F)++unP off f (kept f g F)).map prW)),om):=by
 have iw:=ZS;have je:=A.few;have hu:=XF f f.length;have l1:(XV f F).length<=(ZL f f.length).length:=aF _ _;have l2:(kept f g F).length<=(ZL f f.length).length:=aF _ _
 have i1:∀(x:Nat) (neg:Bool),Ws neg (.int ((off:Int)+x)) (.o hG) om=some (.ok (.bl (if neg then !F.contains x else F.contains x)),om):=λx neg=>by
  rw[SC e1,O9];cases F.contains x <;> cases neg <;> rfl
 have i2:∀(x:Nat) (neg:Bool),Ws neg (.int ((off:Int)+x)) (.o hC) om=some (.ok (.bl (if neg then !(F.map g).contains x else (F.map g).contains x)),om):=λx neg=>by
  rw[SC e2,EK]
 have a1:ZC 3 (XE ZQ 2 [1] (λsl=>bnd ((Zn c.Board "roll" 1 (ZM c) (Za 0) Zi) sl) ZE) (Vm c) (Vs c)) [some (.o hb),some (.o hG),some (.o hC),none,none] om=some (.ok (.nx,[some (.o hb),some (.o hG),some (.o hC),some (.lst ((gnP off f g (XV f F)).map prW)),none]),om):=by
  have cm:=Yb (cT:=Vm c) (f:=Vs c) (mk:=λw=>VM [1] w [some (.o hb),some (.o hG),some (.o hC),none,none]) (om:=om) (λ(k:Nat)=>prW ((off:Int)+k,sN f k)) (λk=>F.contains k) (λk=>prW ((off:Int)+g k,sN f k)) (l:=ZL f f.length) (λk hk=>ZO ((v2 rfl rfl).trans (i1 k false))) (λk hk hc=>(ZB (Ze ((v2 rfl rfl).trans (Rp e1 (by rw[O9,aC hc]))) (Ze (Zb rfl) Zk))).trans (Y0 (by simp)));refine Zv (i:=3) ((OC (ws:=(unP off f (ZL f f.length)).map prW) (IH A (Zb rfl)) (by simp only[aA];omega) (MK _) (us:=(gnP off f g (XV f F)).map prW) ?_).trans (Yk (by simp only[aA];omega)));rw[← Ng off f (ZL f f.length),← gnP_W off f g (XV f F)]at cm;exact cm
 have a2:ZC 4 (XE ZQ 2 [1,2] (λsl=>bnd ((Zn c.Board "roll" 1 (ZM c) (Za 0) Zi) sl) ZE) (Vj c) (Vv c)) [some (.o hb),some (.o hG),some (.o hC),some (.lst ((gnP off f g (XV f F)).map prW)),none] om=some (.ok (.nx,[some (.o hb),some (.o hG),some (.o hC),some (.lst ((gnP off f g (XV f F)).map prW)),some (.lst ((unP off f (kept f g F)).map prW))]),om):=by
  have cm:=Yb (cT:=Vj c) (f:=Vv c) (mk:=λw=>VM [1,2] w [some (.o hb),some (.o hG),some (.o hC),some (.lst ((gnP off f g (XV f F)).map prW)),none]) (om:=om) (λ(k:Nat)=>prW ((off:Int)+k,sN f k)) (λx=>!F.contains x&&!(F.map g).contains x) (λk=>prW ((off:Int)+k,sN f k)) (l:=ZL f f.length) (λk hk=>Uy (ZO ((v2 rfl rfl).trans (i1 k true))) λ_=>ZO ((v2 rfl rfl).trans (i2 k true))) (λk hk hc=>(ZB (Ze (Zb rfl) (Ze (Zb rfl) Zk))).trans (Y0 (by simp)));refine Zv (i:=4) ((OC (ws:=(unP off f (ZL f f.length)).map prW) (IH A (Zb rfl)) (by simp only[aA];omega) (MK _) (us:=(unP off f (kept f g F)).map prW) ?_).trans (Yk (by simp only[aA];omega)));rw[← Ng off f (ZL f f.length),← Ng off f (kept f g F)]at cm;exact cm
 refine ZH ((Zh a1).trans ((Zh a2).trans (Zu ((v2 rfl rfl).trans ?_))));unfold PU;dsimp only;rw[aC (by simp only[aA];omega),bK]
def Nh{om:iM}{hm hl:Nat}{us:hY}(h2:om[hm]?=some (Y9 c (size:Nat) hl))(nd:(us.map (·.1)).Nodup)(hr:∀x∈us,(0<=x.1∧x.1<(size:Nat))∧0<=x.2∧x.2<=7)(mP:us.length<=60):Xf c [.o hm,.lst (us.map prW)] om=some (.ok (.o om.length),om++[Yr c hm (om.length+1),.dk (Zx us)]):=by
 have iw:=ZS;have a1:ZC 2 (fA (XN c.Board 2 (Xk c)) (Zc (Za 0) Zi)) [some (.o hm),some (.lst (us.map prW)),none,none,none] om=some (.ok (.nx,[some (.o hm),some (.lst (us.map prW)),some (.o om.length),none,none]),om++[Yr c hm (om.length+1),.dk (Zx [])]):=Zv (i:=2) ((ZB (Ze (Zb rfl) Zk)).trans (Qn (c:=c) om hm))
 obtain⟨iz,ig,a2,x3,x4,rfl,rfl⟩:=XX (T:=QG [3,4]) (S:=UY c) prW (λpre sl ig=>∃x3 x4,sl=[some (.o hm),some (.lst (us.map prW)),some (.o om.length),x3,x4]∧ig=om++[Yr c hm (om.length+1),.dk (Zx pre)]) us [] (sl:=[some (.o hm),some (.lst (us.map prW)),some (.o om.length),none,none]) (om:=om++[Yr c hm (om.length+1),.dk (Zx [])]) (λpre x post hq sl ig ⟨x3,x4,h1,jc⟩=>by
  subst h1 jc;have hq:us=pre++x::post:=hq;have hx:=hr x (by rw[hq];simp);have hln:pre.length<=60:=by rw[hq,aS]at mP;omega
  have hn:pre.lookup x.1=none:=RG λs hs=>by
   rw[hq,bK,aU]at nd;have:=(cj.mp nd).2.2 x.1 (aO.mpr ⟨_,hs,rfl⟩) x.1 (.head _);exact this rfl
  have e:=Hj (c:=c) (om:=om++[Yr c hm (om.length+1),.dk (Zx pre)]) (hb:=om.length) (hm:=hm) (hu:=om.length+1) (hl:=hl) (size:=(size:Nat)) (us:=pre) (Yp om _ 0) (Wu h2) (Yp om _ 1) (a:=x.1) (s:=x.2) hx.1 hx.2 hn (by omega);rw[Ro]at e;refine⟨_,_,_,rfl,Z9 ((Zy (Zb rfl) (Zz (Yp om _ 0)) (Yh _ _ _ (by decide) (by decide)) (Ze (Zb rfl) (Ze (Zb rfl) Zk)) rfl).trans e),_,_,rfl,rfl⟩) ⟨none,none,rfl,rfl⟩
 exact ZH ((Zh a1).trans ((Zh (YI (sl1:=[]) ((Zm (Zb (i:=1) (w:=.lst (us.map prW)) rfl)).trans rfl) a2)).trans (Zu (Zb rfl))))
end
def S9(om l:iM)(x:Ob):(om++l).set om.length x=om++l.set 0 x:=Ro om l 0 x
def DE(om l:iM)(x:Ob)(sl:Sl):(λ(_:Sl)=>newO x) sl (om++l)=some (.ok (.o (om.length+l.length)),om++(l++[x])):=by
 show some (Except.ok (Wv.o (om++l).length),om++l++[x])=_;rw[aS,bP]
def PL{C:Addr}{n:Str}{fs:iJ}(om l:iM)(sl:Sl)(h0:sl[0]?=some (some (.o om.length)))(hi:l[0]?=some (.ins C fs))(hl:fs.length<900):Xu C n (λ_=>newO (.dk [])) (Za 0) sl (om++l)=some (.ok (.nx,sl),om++(l++[Ob.dk []]).set 0 (.ins C (Wk n (.o (om.length+l.length)) fs))):=by
 have:=J7 (n:=n) (fv:=λ_=>newO (.dk [])) (fo:=Za 0) (sl:=sl) (om:=om++l) (h:=om.length) (DE om l (.dk []) sl) (Zb h0) ((Yp om (l++[.dk []]) 0).trans (Wu hi)) hl;rw[S9]at this;exact this
def Op:∀us:hY,T5 (Zx us)=some (us.map (·.1))
 |[]=>rfl
 |x::us=>by
  have:=Op us;show(match T5 (Zx us) with|some ns=>some (x.1::ns)|none=>none)=_;rw[this];rfl
def Ct(ns ks:iB):(sdL ns ks).length<=ns.length:=by
 unfold sdL;rw[(ZT _).length_eq];refine bF (aF _ _) ?_;have:=XI ns [];simpa using this
def G9{sl:Sl}{om:iM}{fa fb:FE}{ns:iB}{us:hY}{h:Nat}(ha:fa sl om=some (.ok (.lst (ns.map Wv.int)),om))(hb:fb sl om=some (.ok (.o h),om))(hx:om[h]?=some (.dk (Zx us)))(h1:ns.length<31)(h2:us.length<31)(gap:(YM [] ns).length / 4<=(YM [] (us.map (·.1))).length∨us.map (·.1)=[]):Tr ZQ fa fb sl om=some (.ok (.lst ((sdL ns (us.map (·.1))).map Wv.int)),om):=by
 have hl:=Ct ns (us.map (·.1));unfold Tr;rw[Zm ha];refine(Zm (a:=ns) (om1:=om) ?_).trans ?_
 ·simp[Ld,Vz,h1]
 rw[Zm hb];refine(Zm (a:=(sdL ns (us.map (·.1))).map Wv.int) (om1:=om) ?_).trans (Yk (by rw[aA];omega));unfold Rk;dsimp only;rw[hx];dsimp only;rw[Op];dsimp only;rw[aC ⟨by rw[aA];exact h2,gap⟩]
section
variable{c:CA}{om:iM}{ho hb hm hu hl hg size off:Nat}{f:hX}{kvs:iK}{gs:Gs}{rows:Mx}{told:iN}{g:Nat->Nat}{F:iC}
def Trn.lt(A:Sit c om ho hb hm hu hl hg size off f kvs gs rows told)(T:Trn off f told g F){k:Nat}(h:k∈mvL told f):g k<f.length:=by
 have h1:=(WV.mp h).1;have:=A.G.ok k h1;rw[T.mv k h]at this;exact this.2.1
def Rn(T:Trn off f told g F):((gnP off f g (XV f F)++unP off f (kept f g F)).map (·.1)).Nodup:=by
 rw[bK,aY,aY,cj];refine⟨?_,?_,?_⟩
 ·refine cg.mpr (List.Pairwise.imp_of_mem (λ{a b} ha hb h e=>?_) ((WK f).sublist bW))
  have ha:=aX.mp (aL.mp ha).2;have hb:=aX.mp (aL.mp hb).2;have e:(off:Int)+g a=(off:Int)+g b:=e;exact h (T.inj a ha b hb (by omega))
 ·refine cg.mpr (((WK f).sublist bW).imp λ{a b} h e=>?_)
  have e:(off:Int)+a=(off:Int)+b:=e;exact h (by omega)
 ·intro a ha b hb e
  obtain⟨i,hi,rfl⟩:=aO.mp ha;obtain⟨j,hj,rfl⟩:=aO.mp hb;have e:(off:Int)+g i=(off:Int)+j:=e;have hi:=aX.mp (aL.mp hi).2;have hj:=(aL.mp hj).2;rw[cf,fg,fg]at hj;have:j∈F.map g:=aO.mpr ⟨i,hi,by omega⟩;rw[aX.mpr this]at hj;exact nomatch hj.2
def Ky(A:Sit c om ho hb hm hu hl hg size off f kvs gs rows told)(T:Trn off f told g F):∀x∈gnP off f g (XV f F)++unP off f (kept f g F),(0<=x.1∧x.1<(size:Nat))∧0<=x.2∧x.2<=7:=λx hx=>by
 have hfit:=A.W.fit;rcases cZ.mp hx with hx|hx
 ·obtain⟨k,hk,rfl⟩:=aO.mp hx
  obtain⟨h1,h2⟩:=aL.mp hk;have h3:=T.lt A (T.sub k (aX.mp h2));exact⟨⟨by show(0:Int)<=(off:Int)+g k;omega,by show(off:Int)+g k<_;omega⟩,A.s7 k _ (WA h1).2⟩
 ·obtain⟨k,hk,rfl⟩:=aO.mp hx
  obtain⟨h1,h2⟩:=aL.mp hk;have h3:=(WA h1).1;exact⟨⟨by show(0:Int)<=(off:Int)+k;omega,by show(off:Int)+k<_;omega⟩,A.s7 k _ (WA h1).2⟩
abbrev tOf(c:CA)(N:Nat)(cl:iB):Ob:=.ins c.Turn (tn5 (.o (N+1)) (.o (N+2)) (.o (N+3)) (.lst (cl.map Wv.int)) (.o (N+4)))
abbrev clL(off:Nat)(told:iN)(f:hX)(g:Nat->Nat)(F:iC):iB:=sdL ((mvL told f).map λ(k:Nat)=>(off:Int)+g k) (F.map λ(k:Nat)=>(off:Int)+g k)
abbrev t2(c:CA)(om:iM)(a b:hY):iM:=om++[.ins c.Turn (tn2 (.o (om.length+1)) (.o (om.length+2))),.dk (Zx a),.dk (Zx b)]
abbrev t3(c:CA)(om:iM)(a b d:hY):iM:=om++[.ins c.Turn (tn3 (.o (om.length+1)) (.o (om.length+2)) (.o (om.length+3))),.dk (Zx a),.dk (Zx b),.dk (Zx d)]
abbrev sT(om:iM)(ho:Nat)(x y z:Option Wv):Sl:=[some (.o om.length),some (.o ho),x,y,z]
def Bj(A:Sit c om ho hb hm hu hl hg size off f kvs gs rows told)(T:Trn off f told g F):XN c.Turn 2 (Wc c) [.o ho] om=some (.ok (.o om.length),om++[tOf c om.length (clL off told f g F),.dk (Zx (goP off g F)),.dk (Zx (coP off g F)),.dk (Zx (unP off f (push f g F))),Yr c hm (om.length+5),.dk (Zx (gnP off f g (XV f F)++unP off f (kept f g F)))]):=by
 have iw:=ZS;have je:=A.few;have hml:=VS told f;have hul:=XF f f.length;have hmf:=T.few;have hFl:F.length<=30:=bF (UE T.nd T.sub) hmf;have s1:Xu c.Turn "goals" (λ_=>newO (.dk [])) (Za 0) (sT om ho none none none) (om++[.ins c.Turn []])=some (.ok (.nx,(sT om ho none none none)),om++[.ins c.Turn (tn1 (.o (om.length+1))),.dk []]):=(PL om [.ins c.Turn []] _ rfl rfl (by simp)).trans rfl;have s2:Xu c.Turn "comers" (λ_=>newO (.dk [])) (Za 0) (sT om ho none none none) (om++[.ins c.Turn (tn1 (.o (om.length+1))),.dk []])=some (.ok (.nx,(sT om ho none none none)),t2 c om (goP off g []) (coP off g [])):=(PL om [.ins c.Turn (tn1 (.o (om.length+1))),.dk []] _ rfl rfl (by simp)).trans (by rw[pf2];rfl)
 have i3:(λsl=>bnd ((fA (kN 1 (TB c)) (Zc (Za 1) Zi)) sl) ZE) (sT om ho none none none) (t2 c om (goP off g []) (coP off g []))=some (.ok (F.map λ(k:Nat)=>Wv.int ((off:Int)+k)),t2 c om (goP off g []) (coP off g [])):=by
  have:=Jn (A.grow [.ins c.Turn (tn2 (.o (om.length+1)) (.o (om.length+2))),.dk (Zx (goP off g [])),.dk (Zx (coP off g []))]);rw[T.fin]at this;refine(Zm ((ZB (Ze (Zb rfl) Zk)).trans ((YD rfl).trans this))).trans ?_;rfl
 obtain⟨iz,ig,s3,x2,rfl,rfl⟩:=XX (T:=tgN 2) (S:=Ra c) (λ(k:Nat)=>Wv.int ((off:Int)+k)) (λpre sl ig=>∃x,sl=(sT om ho x none none)∧ig=t2 c om (goP off g pre) (coP off g pre)) F [] (sl:=(sT om ho none none none)) (om:=t2 c om (goP off g []) (coP off g [])) (λpre k post hq sl ig ⟨x,h1,h2⟩=>by
  subst h1 h2;have hq:F=pre++k::post:=hq;have hkF:k∈F:=by rw[hq];simp
  have hmk:=T.mv k (T.sub k hkF);have iO:pre.length<=30:=by rw[hq,aS]at hFl;omega
  have hkn:k ∉ pre:=λz=>by
   have:=T.nd;rw[hq]at this;exact(cj.mp this).2.2 k z k (.head _) rfl
  have n1:(goP off g pre).lookup ((off:Int)+k)=none:=by
   rw[O9,aE λz=>hkn (aX.mp z)]
  have n2:(coP off g pre).lookup ((off:Int)+g k)=none:=RG λs hs=>by
   obtain⟨j,hj,e⟩:=aO.mp hs;have e:(off:Int)+g j=(off:Int)+g k:=cx Prod.fst e;have:=T.inj j (by rw[hq];exact eI _ hj) k hkF (by omega);exact hkn (this ▸ hj)
  have e1:=QU (om:=t2 c om (goP off g pre) (coP off g pre)) (sl:=(sT om ho (some (.int ((off:Int)+k))) none none)) (us:=goP off g pre) (a:=((off:Int)+k)) (s:=((off:Int)+g k)) (h:=om.length+1) (fd:=f1 (ZI c.Turn "goals") (Za 0)) (fk:=Za 2) (EF (A.grow _) hmk (i:=1) (j:=2) rfl rfl) (Yq rfl (Yp om _ 0) (lg ..)) (Zb rfl) (Yp om _ 1) n1 (by rw[aA];omega);rw[Ro,show goP off g pre++[(((off:Int)+k),((off:Int)+g k))]=goP off g (pre++[k]) by rw[goP,goP,bK];rfl]at e1;have e2:=QU (om:=t2 c om (goP off g (pre++[k])) (coP off g pre)) (sl:=(sT om ho (some (.int ((off:Int)+k))) none none)) (us:=coP off g pre) (a:=((off:Int)+g k)) (s:=((off:Int)+k)) (h:=om.length+2) (fv:=Za 2) (fd:=f1 (ZI c.Turn "comers") (Za 0)) (Zb rfl) (Yq rfl (Yp om _ 0) (lc ..)) (EF (A.grow _) hmk (i:=1) (j:=2) rfl rfl) (Yp om _ 2) n2 (by rw[aA];omega);rw[Ro,show coP off g pre++[(((off:Int)+g k),((off:Int)+k))]=coP off g (pre++[k]) by rw[coP,coP,bK];rfl]at e2;exact⟨_,_,_,rfl,(Zh e1).trans e2,_,rfl,rfl⟩) ⟨none,rfl,rfl⟩
 have s4:Xu c.Turn "pushed" (λ_=>newO (.dk [])) (Za 0) (sT om ho x2 none none) (t2 c om (goP off g ([]++F)) (coP off g ([]++F)))=some (.ok (.nx,(sT om ho x2 none none)),t3 c om (goP off g F) (coP off g F) (unP off f [])):=(PL om [.ins c.Turn (tn2 (.o (om.length+1)) (.o (om.length+2))),.dk (Zx (goP off g ([]++F))),.dk (Zx (coP off g ([]++F)))] _ rfl rfl (by simp)).trans (by rw[pf3];rfl);have i5:=IH (A.grow [.ins c.Turn (tn3 (.o (om.length+1)) (.o (om.length+2)) (.o (om.length+3))),.dk (Zx (goP off g F)),.dk (Zx (coP off g F)),.dk (Zx (unP off f []))]) (sl:=(sT om ho x2 none none)) (fo:=f1 (ZI c.Orders "board") (Za 1)) (X6 (A.grow _).S rfl);rw[Ng]at i5
 obtain⟨iz,ig,s5,y2,y3,rfl,rfl⟩:=XX (T:=QG [2,3]) (S:=Rl c) (λ(k:Nat)=>prW ((off:Int)+k,sN f k)) (λpre sl ig=>∃y2 y3,sl=(sT om ho y2 y3 none)∧ig=t3 c om (goP off g F) (coP off g F) (unP off f (pre.filter λx=>(F.map g).contains x&&!F.contains x))) (ZL f f.length) [] (sl:=(sT om ho x2 none none)) (om:=t3 c om (goP off g F) (coP off g F) (unP off f [])) (λpre k post hq sl ig ⟨y2,y3,h1,h2⟩=>by
  subst h1 h2;have hq:ZL f f.length=pre++k::post:=hq
  have hkn:k ∉ pre:=λz=>by
   have:=WK f;rw[hq]at this;exact(cj.mp this).2.2 k z k (.head _) rfl
  have iO:pre.length<=60:=by rw[hq,aS]at hul;omega
  have hpf:=aF (λx=>(F.map g).contains x&&!F.contains x) pre
  have cc:∀P:hY,VW (fB (f2 (Ws false) (Za 2) (f1 (ZI c.Turn "comers") (Za 0)))) (fB (f2 (Ws true) (Za 2) (f1 (ZI c.Turn "goals") (Za 0)))) (sT om ho (some (.int ((off:Int)+k))) (some (.int (sN f k))) none) (t3 c om (goP off g F) (coP off g F) P)=some (.ok ((F.map g).contains k&&!F.contains k),t3 c om (goP off g F) (coP off g F) P):=λP=>by
   refine Uy (ZO ((Zt (Zb rfl) (Yq rfl (Yp om _ 0) (lc ..))).trans ((SC (Yp om _ 2) false).trans ?_))) λ_=>ZO ((Zt (Zb rfl) (Yq rfl (Yp om _ 0) (lg ..))).trans ((SC (Yp om _ 1) true).trans ?_))
   ·rw[EK];rfl
   ·rw[O9]
    cases F.contains k <;> rfl
  by_cases hp:((F.map g).contains k&&!F.contains k)=true
  ·rw[hp]at cc
   have n1:(unP off f (pre.filter λx=>(F.map g).contains x&&!F.contains x)).lookup ((off:Int)+k)=none:=by
    rw[O9,aE λz=>hkn (aL.mp (aX.mp z)).1]
   have e1:=QU (om:=t3 c om (goP off g F) (coP off g F) (unP off f (pre.filter λx=>(F.map g).contains x&&!F.contains x))) (sl:=(sT om ho (some (.int ((off:Int)+k))) (some (.int (sN f k))) none)) (us:=unP off f (pre.filter λx=>(F.map g).contains x&&!F.contains x)) (a:=((off:Int)+k)) (s:=sN f k) (h:=om.length+3) (fv:=Za 3) (fd:=f1 (ZI c.Turn "pushed") (Za 0)) (fk:=Za 2) (Zb rfl) (Yq rfl (Yp om _ 0) (lp ..)) (Zb rfl) (Yp om _ 3) n1 (by rw[aA];omega);rw[Ro,show unP off f (pre.filter λx=>(F.map g).contains x&&!F.contains x)++[(((off:Int)+k),sN f k)]=unP off f ((pre++[k]).filter λx=>(F.map g).contains x&&!F.contains x) by rw[dF,unP,unP,bK,List.filter_cons_of_pos (p:=λx=>(F.map g).contains x&&!F.contains x) hp];rfl]at e1;exact⟨_,_,_,rfl,(YC (cc _)).trans e1,_,_,rfl,rfl⟩
  ·rw[cR]at hp
   rw[hp]at cc;refine⟨_,_,_,rfl,ZP (cc _),_,_,rfl,?_⟩;rw[dF,List.filter_cons_of_neg (p:=λx=>(F.map g).contains x&&!F.contains x) (by rw[hp];exact aH),fW,ce]) ⟨x2,none,rfl,rfl⟩
 have s5':=YI (fi:=λsl=>bnd ((Zn c.Board "roll" 1 (ZM c) (f1 (ZI c.Orders "board") (Za 1)) Zi) sl) ZE) (sl1:=[]) i5 s5;rw[fV]at s5';generalize hP:(ZL f f.length).filter (λx=>(F.map g).contains x&&!F.contains x)=P at s5'
 have s6:ZC 4 (Z8 ZQ [1] (λsl=>bnd ((Zn c.Orders "movers" 1 (ZZ c) (Za 1) Zi) sl) ZE) Xg (SZ c)) (sT om ho y2 y3 none) (t3 c om (goP off g F) (coP off g F) (unP off f P))=some (.ok (.nx,(sT om ho y2 y3 (some (.lst (((mvL told f).map λ(k:Nat)=>(off:Int)+g k).map Wv.int))))),t3 c om (goP off g F) (coP off g F) (unP off f P)):=by
  have AA:Sit c (t3 c om (goP off g F) (coP off g F) (unP off f P)) ho hb hm hu hl hg size off f kvs gs rows told:=A.grow _;generalize t3 c om (goP off g F) (coP off g F) (unP off f P)=st at AA;have mv:=Rm AA;refine Zv (i:=4) ((Xv (ws:=(mvL told f).map λ(k:Nat)=>Wv.int ((off:Int)+k)) (om1:=st) ((Zm ((Zy (Zb rfl) (Zz AA.S.o) (Ye _ _ _ (by decide) (by decide)) Zk rfl).trans mv)).trans rfl) (by rw[aA];omega) (Yb (λ(k:Nat)=>Wv.int ((off:Int)+k)) (λ_=>true) (λk=>Wv.int ((off:Int)+g k)) (λk hk=>rfl) (λk hk _=>EF AA (T.mv k hk) rfl rfl))).trans ?_);rw[bS.mpr (λ_ _=>rfl),aY];exact Yk (by rw[aA];omega)
 have s7:Xu c.Turn "closed" (Tr ZQ (Za 4) (f1 (ZI c.Turn "comers") (Za 0))) (Za 0) (sT om ho y2 y3 (some (.lst (((mvL told f).map λ(k:Nat)=>(off:Int)+g k).map Wv.int)))) (t3 c om (goP off g F) (coP off g F) (unP off f P))=some (.ok (.nx,(sT om ho y2 y3 (some (.lst (((mvL told f).map λ(k:Nat)=>(off:Int)+g k).map Wv.int))))),om++[.ins c.Turn (tn4 (.o (om.length+1)) (.o (om.length+2)) (.o (om.length+3)) (.lst ((clL off told f g F).map Wv.int))),.dk (Zx (goP off g F)),.dk (Zx (coP off g F)),.dk (Zx (unP off f P))]):=by
  have ek:(coP off g F).map (·.1)=F.map λ(k:Nat)=>(off:Int)+g k:=by rw[aY];rfl
  have sd:=G9 (sl:=(sT om ho y2 y3 (some (.lst (((mvL told f).map λ(k:Nat)=>(off:Int)+g k).map Wv.int))))) (om:=t3 c om (goP off g F) (coP off g F) (unP off f P)) (fa:=Za 4) (fb:=f1 (ZI c.Turn "comers") (Za 0)) (ns:=(mvL told f).map λ(k:Nat)=>(off:Int)+g k) (us:=coP off g F) (h:=om.length+2) (Zb rfl) (Yq rfl (Yp om _ 0) (lc ..)) (Yp om _ 2) (by rw[aA];omega) (by rw[aA];omega) (by
   rw[ek];exact T.gap.imp id λh=>by rw[h];rfl)
  rw[ek]at sd;exact(J7 (h:=om.length) sd (Zb rfl) (Yp om _ 0) (by simp)).trans (by rw[S9,pf4];rfl)
 generalize hC:clL off told f g F=cl at s7 ⊢
 have s8:Xu c.Turn "board" (fA (kN 2 (Xf c)) (Zc (f1 (ZI c.Board "chart") (f1 (ZI c.Orders "board") (Za 1))) (Zc (fA (kN 3 (WF c)) (Zc (f1 (ZI c.Orders "board") (Za 1)) (Zc (f1 (ZI c.Turn "goals") (Za 0)) (Zc (f1 (ZI c.Turn "comers") (Za 0)) Zi)))) Zi))) (Za 0) (sT om ho y2 y3 (some (.lst (((mvL told f).map λ(k:Nat)=>(off:Int)+g k).map Wv.int)))) (om++[.ins c.Turn (tn4 (.o (om.length+1)) (.o (om.length+2)) (.o (om.length+3)) (.lst (cl.map Wv.int))),.dk (Zx (goP off g F)),.dk (Zx (coP off g F)),.dk (Zx (unP off f P))])=some (.ok (.nx,(sT om ho y2 y3 (some (.lst (((mvL told f).map λ(k:Nat)=>(off:Int)+g k).map Wv.int))))),om++[tOf c om.length cl,.dk (Zx (goP off g F)),.dk (Zx (coP off g F)),.dk (Zx (unP off f P)),Yr c hm (om.length+5),.dk (Zx (gnP off f g (XV f F)++unP off f (kept f g F)))]):=by
  have AA:=A.grow [.ins c.Turn (tn4 (.o (om.length+1)) (.o (om.length+2)) (.o (om.length+3)) (.lst (cl.map Wv.int))),.dk (Zx (goP off g F)),.dk (Zx (coP off g F)),.dk (Zx (unP off f P))];have l1:(XV f F).length<=(ZL f f.length).length:=aF _ _;have l2:=Qb f g F;have ua:=Ph (g:=g) (F:=F) AA (hG:=om.length+1) (hC:=om.length+2) (Yp om _ 1) (Yp om _ 2);have pb:=Nh (c:=c) (size:=size) AA.W.m (Rn T) (Ky A T) (by rw[aS,aA,aA];omega);rw[aS,bP]at pb;have e:=(ZB (k:=kN 2 (Xf c)) (Ze (Lc (X6 AA.S (sl:=(sT om ho y2 y3 (some (.lst (((mvL told f).map λ(k:Nat)=>(off:Int)+g k).map Wv.int))))) (i:=1) rfl) AA.W.b (VD ..)) (Ze ((ZB (Ze (X6 AA.S (i:=1) rfl) (Ze (Yq (i:=0) (h:=om.length) rfl (Yp om _ 0) (lg ..)) (Ze (Yq (i:=0) (h:=om.length) rfl (Yp om _ 0) (lc ..)) Zk)))).trans ((YD rfl).trans ua)) Zk))).trans ((YD rfl).trans pb);exact(J7 (h:=om.length) e (Zb rfl) (Yp om _ 0) (by simp)).trans (by rw[S9,pf5];rfl)
 have hPP:unP off f P=unP off f (push f g F):=by rw[← hP]
 rw[← hPP];exact(Zm ((YD rfl).trans (Wq ((Zh s1).trans ((Zh s2).trans ((Zh (YI (sl1:=[]) i3 s3)).trans ((Zh s4).trans ((Zh s5').trans ((Zh s6).trans ((Zh s7).trans s8)))))))))).trans rfl
def CU{om:iM}{h hG:Nat}{r:iJ}{us:hY}(e0:om[h]?=some (.ins c.Turn ((Str.ofString "goals",.o hG)::r)))(e1:om[hG]?=some (.dk (Zx us)))(hl:us.length<64):Y5 c [.o h] om=some (.ok (.lst ((Yl us).map prW)),om):=by
 have hls:(Yl us).length=us.length:=(ZV us).length_eq;refine ZH (Zu ?_);unfold SI;refine(Zm (Yq rfl e0 (lg ..))).trans ?_;refine(Zm (a:=(Yl us).map prW) (om1:=om) ?_).trans (Yk (by rw[aA];omega));simp[QT,e1,Oy,hl]
def Fi{om:iM}{h hP hC:Nat}{a:Wv}{r:iJ}{us co:hY}{v:Int->Int}(e0:om[h]?=some (.ins c.Turn ((Str.ofString "goals",a)::(Str.ofString "comers",.o hC)::(Str.ofString "pushed",.o hP)::r)))(e1:om[hP]?=some (.dk (Zx us)))(e2:om[hC]?=some (.dk (Zx co)))(hl:us.length<64)(nd:(us.map (·.1)).Nodup)(hv:∀x∈us,co.lookup x.1=some (v x.1)):ZN c [.o h] om=some (.ok (.lst ((Yt (us.map (·.1))).map λx=>Wv.tup [.int x,.int ((us.lookup x).getD 0),.int (v x)])),om):=by
 have iw:=ZS;have hls:(Yt (us.map (·.1))).length=us.length:=by rw[(ZT _).length_eq,aA]
 have ek:fA (Vb ZQ) (Zc (f1 (ZI c.Turn "pushed") (Za 0)) Zi) [some (.o h)] om=some (.ok (.lst ((Yt (us.map (·.1))).map Wv.int)),om):=by
  refine(ZB (Ze (Yq rfl e0 (lp ..)) Zk)).trans ?_;unfold Vb;dsimp only;rw[e1];dsimp only;rw[Op];dsimp only;rw[aC (by rw[aA];exact hl)];exact Yk (by rw[aA];omega)
 refine ZH (Zu ((Xv (ws:=(Yt (us.map (·.1))).map Wv.int) (om1:=om) ((Zm ek).trans rfl) (by rw[aA];omega) (Yb Wv.int (λ_=>true) (λx=>Wv.tup [.int x,.int ((us.lookup x).getD 0),.int (v x)]) (λ_ _=>rfl) (λx hx _=>?_))).trans ?_))
 ·obtain⟨y,hy,rfl⟩:=aO.mp ((TC _ _).mp hx)
  have q1:us.lookup y.1=some ((us.lookup y.1).getD 0):=by rw[XM nd (k:=y.1) (s:=y.2) hy];rfl
  exact(ZB (Ze (Zb rfl) (Ze ((Zt (Yq rfl e0 (lp ..)) (Zb rfl)).trans (Rp e1 q1)) (Ze ((Zt (Yq rfl e0 (lc ..)) (Zb rfl)).trans (Rp e2 (hv y hy))) Zk)))).trans (Y0 (by simp))
 ·rw[bS.mpr (λ_ _=>rfl)]
  exact Yk (by rw[aA];omega)
end
def aCy(off:Nat)(g:Nat->Nat)(F:iC)(x:Int):Int:=((coP off g F).lookup x).getD 0
def co_nd(off:Nat){g:Nat->Nat}{F:iC}(nd:F.Nodup)(inj:∀i∈F,∀j∈F,g i=g j->i=j):((coP off g F).map (·.1)).Nodup:=by
 rw[aY];refine cg.mpr (nd.imp_of_mem λ{a b} ha hb h e=>h (inj a ha b hb ?_));have e:(off:Int)+(g a:Nat)=(off:Int)+(g b:Nat):=e;omega
def KP(off:Nat)(f:hX){l:iC}(nd:l.Nodup):((unP off f l).map (·.1)).Nodup:=by
 rw[aY];refine cg.mpr (nd.imp λ{a b} h e=>h ?_);have e:(off:Int)+(a:Nat)=(off:Int)+(b:Nat):=e;omega
def JR(off:Nat){g:Nat->Nat}{F:iC}(nd:F.Nodup)(inj:∀i∈F,∀j∈F,g i=g j->i=j){k:Nat}(h:k∈F):(coP off g F).lookup ((off:Int)+(g k:Nat))=some ((off:Int)+k):=XM (co_nd off nd inj) (aO.mpr ⟨k,h,rfl⟩)
def trn_of{rows:Mx}{f:hX}{told:iN}(off:Nat)(G:Givn rows f told)(h7:f.length<=7):Trn off f told (gO told) (VZ told f 100 (mvL told f)):=by
 have s1:=JP told f 100 (mvL told f);have ml:=VS told f;refine⟨rfl,λk h=>Dg h,λk h=>s1.subset h,(N2 _ _).sublist s1,λi hi j hj e=>?_,by omega,?_⟩
 ·have ei:=Dg (s1.subset hi)
  have ej:=Dg (s1.subset hj);rw[← e]at ej;exact C1 (by omega) hi hj ei ej
 ·generalize VZ told f 100 (mvL told f)=F
  cases F with
  |nil=>exact .inr rfl
  |cons a F=>
   left
   have l1:=XI ((mvL told f).map λ(k:Nat)=>(off:Int)+(gO told k:Nat)) [];have l2:0<(YM [] ((a::F).map λ(k:Nat)=>(off:Int)+(gO told k:Nat))).length:=List.length_pos_of_mem (Tt.mpr (.inr (.head _)));rw[aA,cI]at l1;omega
structure Tk(c:CA)(om:iM)(N:Nat)(cl:iB)(go co pu af:hY)(hm:Nat):Prop where
 t:om[N]?=some (tOf c N cl)
 g:om[N+1]?=some (.dk (Zx go))
 k:om[N+2]?=some (.dk (Zx co))
 p:om[N+3]?=some (.dk (Zx pu))
 b:om[N+4]?=some (Yr c hm (N+5))
 u:om[N+5]?=some (.dk (Zx af))
def QQ(m:String)(a b d e g:Wv)(h1:m≠"goals")(h2:m≠"comers")(h3:m≠"pushed")(h4:m≠"closed")(h5:m≠"board"):List.lookup (Str.ofString m) (tn5 a b d e g)=none:=by simp[aK,YQ,h1,h2,h3,h4,h5]
def lk_cl(a b d e g:Wv):List.lookup (Str.ofString "closed") (tn5 a b d e g)=some e:=by simp[aK,YQ]
def Df(a b d e g:Wv):List.lookup (Str.ofString "board") (tn5 a b d e g)=some g:=by simp[aK,YQ]
section
variable{c:CA}{om:iM}{N hm i:Nat}{cl:iB}{go co pu af:hY}{sl:Sl}
def Tk.grow(K:Tk c om N cl go co pu af hm)(l:iM):Tk c (om++l) N cl go co pu af hm:=⟨Wu K.t,Wu K.g,Wu K.k,Wu K.p,Wu K.b,Wu K.u⟩
def EZ(K:Tk c om N cl go co pu af hm)(hv:sl[i]?=some (some (.o N)))(hl:go.length<64):Zn c.Turn "done" 1 (Y5 c) (Za i) Zi sl om=some (.ok (.lst ((Yl go).map prW)),om):=(Zy (Zb hv) (Zz K.t) (QQ "done" _ _ _ _ _ (by decide) (by decide) (by decide) (by decide) (by decide)) Zk rfl).trans (CU K.t K.g hl)
def SK{v:Int->Int}(K:Tk c om N cl go co pu af hm)(hv:sl[i]?=some (some (.o N)))(hl:pu.length<64)(nd:(pu.map (·.1)).Nodup)(hc:∀x∈pu,co.lookup x.1=some (v x.1)):Zn c.Turn "aside" 1 (ZN c) (Za i) Zi sl om=some (.ok (.lst ((Yt (pu.map (·.1))).map λx=>Wv.tup [.int x,.int ((pu.lookup x).getD 0),.int (v x)])),om):=(Zy (Zb hv) (Zz K.t) (QQ "aside" _ _ _ _ _ (by decide) (by decide) (by decide) (by decide) (by decide)) Zk rfl).trans (Fi K.t K.p K.k hl nd hc)
def F8(K:Tk c om N cl go co pu af hm)(hv:sl[i]?=some (some (.o N)))(hl:af.length<64):Zn c.Board "roll" 1 (ZM c) (f1 (ZI c.Turn "board") (Za i)) Zi sl om=some (.ok (.lst ((Yl af).map prW)),om):=(Zy (Yq hv K.t (Df ..)) (Zz K.b) (Yh _ _ _ (by decide) (by decide)) Zk rfl).trans (Lh c K.b K.u hl)
def turn_k{ho hb hu hl hg size off:Nat}{f:hX}{kvs:iK}{gs:Gs}{rows:Mx}{told:iN}{g:Nat->Nat}{F:iC}(A:Sit c om ho hb hm hu hl hg size off f kvs gs rows told)(T:Trn off f told g F):∃l,XN c.Turn 2 (Wc c) [.o ho] om=some (.ok (.o om.length),om++l)∧Tk c (om++l) om.length (clL off told f g F) (goP off g F) (coP off g F) (unP off f (push f g F)) (gnP off f g (XV f F)++unP off f (kept f g F)) hm:=
 ⟨_,Bj A T,⟨Yp om _ 0,Yp om _ 1,Yp om _ 2,Yp om _ 3,Yp om _ 4,Yp om _ 5⟩⟩
def L3{fe:FE}{ns:iB}(h:fe sl om=some (.ok (.lst (ns.map Wv.int)),om))(hl:ns.length<64):fA (YT ZQ) (Zc fe Zi) sl om=some (.ok (.lst ((Yt ns).map Wv.int)),om):=by
 refine(ZB (Ze h Zk)).trans ?_;show(match X3 (ns.map Wv.int) with|some ns=>if ns.length<64 then ZQ ((Yt ns).map Wv.int) om else none|none=>none)=_;rw[Vz];dsimp only;rw[aC hl];exact Yk (by rw[aA,(ZT _).length_eq];omega)
end
def LU{om ig:iM}{i:Nat}{ws:iI}(h:om[i]?=some (.lst ws))(hk:∀j,j<om.length->ig[j]?=om[j]?):Xe ig (.o i)=some ws:=by
 show(match ig[i]? with|some (.lst ws)=>some ws|_=>none)=_;rw[hk i (aG.mp h).1,h]
def SE{off:Nat}{f:hX}{g:Nat->Nat}{F:iC}(nd:F.Nodup)(inj:∀i∈F,∀j∈F,g i=g j->i=j):∀x∈unP off f (push f g F),(coP off g F).lookup x.1=some (aCy off g F x.1):=λx hx=>by
 obtain⟨y,hy,rfl⟩:=aO.mp hx;have hc:=(aL.mp hy).2;rw[cf]at hc;obtain⟨k,hk,rfl⟩:=aO.mp (aX.mp hc.1);unfold aCy;show(coP off g F).lookup ((off:Int)+(g k:Nat))=some (((coP off g F).lookup ((off:Int)+(g k:Nat))).getD 0);rw[JR off nd inj hk];rfl
def inV_i(a:Int):∀l:iB,inV (.int a) (l.map V.int)=l.contains a
 |[]=>rfl
 |k::l=>by
  have ih:=inV_i a l;unfold inV at ih ⊢;rw[aU,dc,ih,eU]
  congr 1
  show(k == a)=(a == k);by_cases h:a=k
  ·subst h;simp
  ·rw[aW.mpr h,aW.mpr (λz=>h z.symm)]
def UN{om:iM}{pw:Wv}{l:iB}(a:Int)(hp:Xe om pw=some (l.map Wv.int))(neg:Bool):Tj neg (.int a) pw om=some (.ok (.bl (if neg then !l.contains a else l.contains a)),om):=by
 unfold Tj;rw[hp];dsimp only
 have h1:(UW (.int a)&&(l.map Wv.int).all UW)=true:=by
  rw[List.all_map];simp[UW]
 rw[aC h1,aY];show some (Except.ok (Wv.bl (if neg=true then !inV (.int a) (l.map V.int) else inV (.int a) (l.map V.int))),om)=_;rw[inV_i]
def fld_e{om:iM}{sl:Sl}{fe:FE}{h:Nat}{C:Addr}{n:Str}{fs:iJ}{w:Wv}(he:fe sl om=some (.ok (.o h),om))(hm:om[h]?=some (.ins C fs))(hw:fs.lookup n=some w):f1 (ZI C n) fe sl om=some (.ok w,om):=
 (Wl he).trans ((Wl (f:=Za 0) (sl:=[some (.o h)]) (Zb rfl)).symm.trans (Yq rfl hm hw))
def lk_pu(a b d e g:Wv):List.lookup (Str.ofString "pushed") (tn5 a b d e g)=some d:=by simp[aK,YQ]
def lk_co(a b d e g:Wv):List.lookup (Str.ofString "comers") (tn5 a b d e g)=some b:=by simp[aK,YQ]
def Jy(kvs:iK)(af:hY)(cl:iB)(n:Nat)(a ca:Int):iC:=(((List.range n).filter λ(b:Nat)=>Uo kvs a (b:Nat)).filter λ(b:Nat)=>(af.lookup (b:Int)).isNone).filter λ(b:Nat)=>!decide ((b:Int)=ca)&&!cl.contains (b:Int)
def Hf{kvs:iK}{af:hY}{cl:iB}{n:Nat}{a ca:Int}{b:Nat}(h:b∈Jy kvs af cl n a ca):b<n∧af.lookup (b:Int)=none:=by
 obtain⟨h1,_⟩:=aL.mp h;obtain⟨h2,h3⟩:=aL.mp h1;obtain⟨h4,_⟩:=aL.mp h2;exact⟨bO.mp h4,Option.isNone_iff_eq_none.mp h3⟩
def ES(kvs:iK)(af:hY)(cl:iB)(n:Nat)(a ca:Int):(Jy kvs af cl n a ca).length<=n:=bF (aF _ _) (bF (aF _ _) (bF (aF _ _) (by simp)))
section
variable{c:CA}{om:iM}{N hm hl i n:Nat}{cl:iB}{go co pu af:hY}{kvs:iK}{sl:Sl}{a ca:Int}
def Jp(K:Tk c om N cl go co pu af hm)(hv:sl[i]?=some (some (.o N))):f1 (ZI c.Board "chart") (f1 (ZI c.Turn "board") (Za i)) sl om=some (.ok (.o hm),om):=fld_e (Yq hv K.t (Df ..)) K.b (VD ..)
def Da{fe:FE}(K:Tk c om N cl go co pu af hm)(h2:om[hm]?=some (Y9 c (n:Nat) hl))(hv:sl[i]?=some (some (.o N)))(he:fe sl om=some (.ok (.int a),om))(ha:0<=a∧a<n):Zn c.Board "side_at" 2 (Zw c) (f1 (ZI c.Turn "board") (Za i)) (Zc fe Zi) sl om=some (.ok (ZJ (af.lookup a)),om):=
 (Zy (Yq hv K.t (Df ..)) (Zz K.b) (Yh "side_at" _ _ (by decide) (by decide)) (Ze he Zk) rfl).trans (Hd c K.b h2 K.u ha)
def FV{fe:FE}(K:Tk c om N cl go co pu af hm)(h2:om[hm]?=some (Y9 c (n:Nat) hl))(hv:sl[i]?=some (some (.o N)))(he:fe sl om=some (.ok (.int a),om))(ha:0<=a∧a<n):Z4 (Zn c.Map "need_place" 2 (ZD c) (f1 (ZI c.Board "chart") (f1 (ZI c.Turn "board") (Za i))) (Zc fe Zi)) sl om=some (.ok (.nx,sl),om):=
 Z9 ((Zy (Jp K hv) (Zz h2) (XG _ _ _ (by decide) (by decide)) (Ze he Zk) rfl).trans (Ts c h2 ha.1 ha.2))
def aneed(K:Tk c om N cl go co pu af hm)(h:(pu.lookup a).isSome=true):Y4 c [.o N,.int a] om=some (.ok .non,om):=
 Wq (ZP (ZO ((Zt (Zb rfl) (Yq rfl K.t (lk_pu ..))).trans ((SC K.p true).trans (by rw[aC rfl,h];rfl)))))
def HC{fe:FE}(K:Tk c om N cl go co pu af hm)(hv:sl[i]?=some (some (.o N)))(he:fe sl om=some (.ok (.int a),om))(h:(pu.lookup a).isSome=true):Z4 (Zn c.Turn "need_aside" 2 (Y4 c) (Za i) (Zc fe Zi)) sl om=some (.ok (.nx,sl),om):=
 Z9 ((Zy (Zb hv) (Zz K.t) (QQ "need_aside" _ _ _ _ _ (by decide) (by decide) (by decide) (by decide) (by decide)) (Ze he Zk) rfl).trans (aneed K h))
def may_in(K:Tk c om N cl go co pu af hm)(h2:om[hm]?=some (Y9 c (n:Nat) hl))(h3:om[hl]?=some (.dt kvs))(hn:n<=60)(ha:0<=a∧a<n)(hp:(pu.lookup a).isSome=true)(hc:co.lookup a=some ca):Xp c [.o N,.int a] om=some (.ok (.lst ((Jy kvs af cl n a ca).map λ(b:Nat)=>Wv.int b)),om):=by
 have iw:=ZS;have l1:((List.range n).filter λ(b:Nat)=>Uo kvs a (b:Nat)).length<=n:=bF (aF _ _) (by simp);have l2:(((List.range n).filter λ(b:Nat)=>Uo kvs a (b:Nat)).filter λ(b:Nat)=>(af.lookup (b:Int)).isNone).length<=n:=bF (aF _ _) l1;have l3:=ES kvs af cl n a ca;have s1:=FV (sl:=[some (.o N),some (.int a),none]) (i:=0) (fe:=Za 1) K h2 rfl (Zb rfl) ha;have s2:=HC (sl:=[some (.o N),some (.int a),none]) (i:=0) (fe:=Za 1) K rfl (Zb rfl) hp
 have e1:Zn c.Map "near" 2 (Vh c) (f1 (ZI c.Board "chart") (f1 (ZI c.Turn "board") (Za 0))) (Zc (Za 1) Zi) [some (.o N),some (.int a),none] om=some (.ok (.lst (((List.range n).filter λ(b:Nat)=>Uo kvs a (b:Nat)).map λ(b:Nat)=>Wv.int b)),om):=
  (Zy (Jp K rfl) (Zz h2) (XG _ _ _ (by decide) (by decide)) (Ze (Zb rfl) Zk) rfl).trans (CL c h2 h3 hn ha)
 have s3:ZC 2 (Z8 ZQ [0] (λsl=>bnd ((Zn c.Map "near" 2 (Vh c) (f1 (ZI c.Board "chart") (f1 (ZI c.Turn "board") (Za 0))) (Zc (Za 1) Zi)) sl) ZE) (U5 c) (U3 c)) [some (.o N),some (.int a),none] om=some (.ok (.nx,[some (.o N),some (.int a),some (.lst ((((List.range n).filter λ(b:Nat)=>Uo kvs a (b:Nat)).filter λ(b:Nat)=>(af.lookup (b:Int)).isNone).map λ(b:Nat)=>Wv.int b))]),om):=by
  refine Zv (i:=2) ((Xv (om1:=om) ((Zm e1).trans rfl) (by rw[aA];omega) (Yb (λ(b:Nat)=>Wv.int b) (λ(b:Nat)=>(af.lookup (b:Int)).isNone) (λ(b:Nat)=>Wv.int b) (λb hb=>?_) (λb _ _=>Zb rfl))).trans (Yk (by rw[aA];omega)));have:=bO.mp (aL.mp hb).1;exact ZO ((Wl (Da (i:=1) K h2 rfl (Zb (w:=.int b) rfl) ⟨by omega,by omega⟩)).trans (Ti _ _))
 refine ZH ((Zh s1).trans ((Zh s2).trans ((Zh s3).trans (Zu ((Xv (om1:=om) rfl (by rw[aA];omega) (Yb (λ(b:Nat)=>Wv.int b) (λ(b:Nat)=>!decide ((b:Int)=ca)&&!cl.contains (b:Int)) (λ(b:Nat)=>Wv.int b) (λb hb=>?_) (λb _ _=>Zb rfl))).trans (Yk (by rw[aA];exact bF l3 (by omega))))))));refine Uy (ZO ((Zt (Zb rfl) ((Zt (Yq (i:=1) rfl K.t (lk_co ..)) (Zb rfl)).trans (Rp K.k hc))).trans (Vk _ _ _))) λ_=>?_
 exact ZO ((Zt (Zb rfl) (Yq (i:=1) rfl K.t (lk_cl ..))).trans (UN _ rfl true))
def At{fe:FE}(K:Tk c om N cl go co pu af hm)(h2:om[hm]?=some (Y9 c (n:Nat) hl))(h3:om[hl]?=some (.dt kvs))(hn:n<=60)(hv:sl[i]?=some (some (.o N)))(he:fe sl om=some (.ok (.int a),om))(ha:0<=a∧a<n)(hp:(pu.lookup a).isSome=true)(hc:co.lookup a=some ca):Zn c.Turn "may_go" 2 (Xp c) (Za i) (Zc fe Zi) sl om=some (.ok (.lst ((Jy kvs af cl n a ca).map λ(b:Nat)=>Wv.int b)),om):=
 (Zy (Zb hv) (Zz K.t) (QQ "may_go" _ _ _ _ _ (by decide) (by decide) (by decide) (by decide) (by decide)) (Ze he Zk) rfl).trans (may_in K h2 h3 hn ha hp hc)
end
def cnt_e{om:iM}{sl:Sl}{i j:Nat}{gs:iB}{a:Int}(hi:sl[i]?=some (some (.lst (gs.map Wv.int))))(hj:sl[j]?=some (some (.int a))):Q9 (Za i) (Za j) sl om=some (.ok (.int ((gs.count a:Nat):Int)),om):=by
 unfold Q9;refine(Zm (Zb hi)).trans ((Zm (a:=()) (om1:=om) rfl).trans ((Zm (Zb hj)).trans ?_));unfold J9;dsimp only;rw[Vz]
def Ah{om:iM}{sl:Sl}{fa fb:FE}{xs ys:iI}(ha:fa sl om=some (.ok (.lst xs),om))(hb:fb sl om=some (.ok (.lst ys),om))(hl:xs.length+ys.length<=100):f2 PU fa fb sl om=some (.ok (.lst (xs++ys)),om):=by
 have:=ZS;refine(Zt ha hb).trans ?_;unfold PU;dsimp only;rw[aC (by omega)]
abbrev arW(pu:hY)(v:Int->Int)(x:Int):Wv:=.tup [.int x,.int ((pu.lookup x).getD 0),.int (v x)]
abbrev arL(pu:hY):iB:=Yt (pu.map (·.1))
def QD(kvs:iK)(af:hY)(cl:iB)(n:Nat)(v:Int->Int)(x:Int):iB:=(Jy kvs af cl n x (v x)).map λ(b:Nat)=>(b:Int)
def Sm(kvs:iK)(af:hY)(cl:iB)(n:Nat)(v:Int->Int)(ps:hY):hY:=ps.filter λx=>decide ((ps.map (·.2)).count x.2=1)&&(QD kvs af cl n v x.1).contains x.2
def Xj(gr pu:hY):hY:=((arL pu).filter λx=>(gr.lookup x).isSome).map λx=>((gr.lookup x).getD 0,(pu.lookup x).getD 0)
def Xn(gr pu:hY):iB:=(arL pu).filter λx=>!(gr.lookup x).isSome
section
variable{c:CA}{om:iM}{N hm hl i n:Nat}{cl:iB}{go co pu af:hY}{kvs:iK}{sl:Sl}{v:Int->Int}{ps:hY}
def En(K:Tk c om N cl go co pu af hm)(h2:om[hm]?=some (Y9 c (n:Nat) hl))(hp:∀x∈ps,(pu.lookup x.1).isSome=true∧(0<=x.1∧x.1<n)∧0<=x.2∧x.2<n):W9 c [.o N,.lst (ps.map prW)] om=some (.ok .non,om):=by
 obtain⟨sl1,om1,a1,x2,x3,rfl,rfl⟩:=XX (T:=QG [2,3]) (S:=TZ c) prW (λpre sl ig=>∃x2 x3,sl=[some (.o N),some (.lst (ps.map prW)),x2,x3]∧ig=om) ps [] (sl:=[some (.o N),some (.lst (ps.map prW)),none,none]) (om:=om) (λpre x post hq sl ig ⟨x2,x3,h1,jc⟩=>by
  subst h1 jc;have hx:=hp x (by rw[show ps=pre++x::post from hq];simp);refine⟨_,_,_,rfl,(Zh (FV (i:=0) K h2 rfl (Zb (i:=2) (w:=.int x.1) rfl) hx.2.1)).trans (FV (i:=0) K h2 rfl (Zb (i:=3) (w:=.int x.2) rfl) hx.2.2),_,_,rfl,rfl⟩) ⟨none,none,rfl,rfl⟩
 obtain⟨iy,om2,a2,y2,y3,rfl,rfl⟩:=XX (T:=QG [2,3]) (S:=T3 c) prW (λpre sl ig=>∃x2 x3,sl=[some (.o N),some (.lst (ps.map prW)),x2,x3]∧ig=om1) ps [] (sl:=[some (.o N),some (.lst (ps.map prW)),x2,x3]) (om:=om1) (λpre x post hq sl ig ⟨x2,x3,h1,jc⟩=>by
  subst h1 jc;have hx:=hp x (by rw[show ps=pre++x::post from hq];simp);refine⟨_,_,_,rfl,HC (i:=0) K rfl (Zb (i:=2) (w:=.int x.1) rfl) hx.1,_,_,rfl,rfl⟩) ⟨x2,x3,rfl,rfl⟩
 exact Wq ((Zh (YI (sl1:=[]) ((Zm (Zb (i:=1) (w:=.lst (ps.map prW)) rfl)).trans rfl) a1)).trans (YI (sl1:=[]) ((Zm (Zb (i:=1) (w:=.lst (ps.map prW)) rfl)).trans rfl) a2))
def aft_in(K:Tk c om N cl go co pu af hm)(h2:om[hm]?=some (Y9 c (n:Nat) hl))(h3:om[hl]?=some (.dt kvs))(hn:n<=60)(hv:∀x∈pu,co.lookup x.1=some (v x.1))(np:(pu.map (·.1)).Nodup)(nd:(ps.map (·.1)).Nodup)(hp:∀x∈ps,(pu.lookup x.1).isSome=true∧(0<=x.1∧x.1<n)∧0<=x.2∧x.2<n)(lp:ps.length<=30)(lu:pu.length<=30)(la:af.length<=30)(hk:((Yl af++Xj (Sm kvs af cl n v ps) pu).map (·.1)).Nodup) (hr:∀x∈Yl af++Xj (Sm kvs af cl n v ps) pu,(0<=x.1∧x.1<(n:Nat))∧0<=x.2∧x.2<=7):QY c [.o N,.lst (ps.map prW)] om=some (.ok (.tup [.o (om.length+1),.lst ((Xn (Sm kvs af cl n v ps) pu).map Wv.int)]),om++[.dk (Zx (Sm kvs af cl n v ps)),Yr c hm (om.length+2),.dk (Zx (Yl af++Xj (Sm kvs af cl n v ps) pu))]):=by
 have iw:=ZS;have lar:(arL pu).length=pu.length:=by rw[(ZT _).length_eq,aA]
 have las:(Yl af).length=af.length:=(ZV af).length_eq;have s1:Z4 (fA (kN 2 (W9 c)) (Zc (Za 0) (Zc (Za 1) Zi))) [some (.o N),some (.lst (ps.map prW)),none,none,none,none,none,none] om=some (.ok (.nx,[some (.o N),some (.lst (ps.map prW)),none,none,none,none,none,none]),om):=Z9 ((ZB (Ze (Zb rfl) (Ze (Zb rfl) Zk))).trans ((YD rfl).trans (En K h2 hp)))
 have s2:ZC 2 (XE ZQ 2 [] (λsl=>bnd ((Za 1) sl) ZE) Xg (Pi c)) [some (.o N),some (.lst (ps.map prW)),none,none,none,none,none,none] om=some (.ok (.nx,[some (.o N),some (.lst (ps.map prW)),some (.lst ((ps.map (·.2)).map Wv.int)),none,none,none,none,none]),om):=by
  have cm:=Yb (cT:=Xg) (f:=Pi c) (mk:=λw=>VM [] w [some (.o N),some (.lst (ps.map prW)),none,none,none,none,none,none]) (om:=om) prW (λ_=>true) (λx=>Wv.int x.2) (l:=ps) (λx hx=>rfl) (λx hx _=>Zb rfl);rw[bS.mpr (λ_ _=>rfl)]at cm;refine Zv (i:=2) ((OC (ws:=ps.map prW) rfl (by simp only[aA];omega) (MK _) (us:=(ps.map (·.2)).map Wv.int) ?_).trans (Yk (by simp only[aA];omega)));rw[aY];exact cm
 have s3:ZC 3 (λ_=>newO (.dk [])) [some (.o N),some (.lst (ps.map prW)),some (.lst ((ps.map (·.2)).map Wv.int)),none,none,none,none,none] om=some (.ok (.nx,[some (.o N),some (.lst (ps.map prW)),some (.lst ((ps.map (·.2)).map Wv.int)),some (.o om.length),none,none,none,none]),om++[.dk (Zx [])]):=by
  have:=DE om [] (.dk []) [some (.o N),some (.lst (ps.map prW)),some (.lst ((ps.map (·.2)).map Wv.int)),none,none,none,none,none];rw[ce]at this;exact Zv (i:=3) this
 obtain⟨sl1,om1,a4,x4,x5,rfl,rfl⟩:=XX (T:=QG [4,5]) (S:=PK c) prW (λpre sl ig=>∃x4 x5,sl=[some (.o N),some (.lst (ps.map prW)),some (.lst ((ps.map (·.2)).map Wv.int)),some (.o om.length),x4,x5,none,none]∧ig=om++[.dk (Zx (pre.filter λx=>decide ((ps.map (·.2)).count x.2=1)&&(QD kvs af cl n v x.1).contains x.2))]) ps [] (sl:=[some (.o N),some (.lst (ps.map prW)),some (.lst ((ps.map (·.2)).map Wv.int)),some (.o om.length),none,none,none,none]) (om:=om++[.dk (Zx [])]) (λpre x post hq sl ig ⟨x4,x5,h1,jc⟩=>by
  subst h1 jc;have hq:ps=pre++x::post:=hq;have hx:=hp x (by rw[hq];simp);have Kg:=K.grow [.dk (Zx (pre.filter λx=>decide ((ps.map (·.2)).count x.2=1)&&(QD kvs af cl n v x.1).contains x.2))]
  obtain⟨px,hpx,ex⟩:∃y∈pu,y.1=x.1:=by
   obtain⟨s,e⟩:=aV.mp hx.1;exact⟨_,Va e,rfl⟩
  have hcv:=hv px hpx;rw[ex]at hcv;have lpre:pre.length<=30:=by rw[hq,aS]at lp;omega
  have lf:=aF (λ(x:Int × Int)=>decide ((ps.map (·.2)).count x.2=1)&&(QD kvs af cl n v x.1).contains x.2) pre
  have hnone:(pre.filter λ(x:Int × Int)=>decide ((ps.map (·.2)).count x.2=1)&&(QD kvs af cl n v x.1).contains x.2).lookup x.1=none:=RG λs hs=>by
   have hs:=(aL.mp hs).1;rw[hq,bK,aU]at nd;exact(cj.mp nd).2.2 x.1 (aO.mpr ⟨_,hs,rfl⟩) x.1 (.head _) rfl
  have t:VW (fB (f2 kEq (Q9 (Za 2) (Za 5)) (fC (.int 1)))) (fB (f2 (Tj false) (Za 5) (Zn c.Turn "may_go" 2 (Xp c) (Za 0) (Zc (Za 4) Zi)))) [some (.o N),some (.lst (ps.map prW)),some (.lst ((ps.map (·.2)).map Wv.int)),some (.o om.length),some (.int x.1),some (.int x.2),none,none] (om++[.dk (Zx (pre.filter λx=>decide ((ps.map (·.2)).count x.2=1)&&(QD kvs af cl n v x.1).contains x.2))])=some (.ok (decide ((ps.map (·.2)).count x.2=1)&&(QD kvs af cl n v x.1).contains x.2),om++[.dk (Zx (pre.filter λx=>decide ((ps.map (·.2)).count x.2=1)&&(QD kvs af cl n v x.1).contains x.2))]):=by
   refine Uy (ZO ((Zt (cnt_e rfl rfl) Zs).trans ((Wi _ _ _).trans ?_))) λ_=>ZO ((Zt (Zb rfl) (At (i:=0) Kg (Wu h2) (Wu h3) hn rfl (Zb rfl) hx.2.1 hx.1 hcv)).trans ((UN x.2 (l:=QD kvs af cl n v x.1) (by unfold QD;rw[aY];rfl) false).trans rfl))
   rw[show decide (((List.count x.2 (ps.map (·.2)):Nat):Int)=1)=decide ((ps.map (·.2)).count x.2=1) from decide_eq_decide.mpr (by omega)]
  by_cases hb:(decide ((ps.map (·.2)).count x.2=1)&&(QD kvs af cl n v x.1).contains x.2)=true
  ·rw[hb]at t
   have p:=QU (fv:=Za 5) (fd:=Za 3) (fk:=Za 4) (sl:=[some (.o N),some (.lst (ps.map prW)),some (.lst ((ps.map (·.2)).map Wv.int)),some (.o om.length),some (.int x.1),some (.int x.2),none,none]) (om:=om++[.dk (Zx (pre.filter λx=>decide ((ps.map (·.2)).count x.2=1)&&(QD kvs af cl n v x.1).contains x.2))]) (h:=om.length) (a:=x.1) (s:=x.2) (Zb rfl) (Zb rfl) (Zb rfl) (Yp om _ 0) hnone (by omega);rw[S9]at p;refine⟨_,_,_,rfl,(YC t).trans p,_,_,rfl,?_⟩;rw[dF,cJ,aC hb];rfl
  ·rw[cR]at hb
   rw[hb]at t;refine⟨_,_,_,rfl,ZP t,_,_,rfl,?_⟩;rw[dF,cJ,aE (by rw[hb];exact aH),fW,ce]) ⟨none,none,rfl,rfl⟩
 rw[fV]at a4;change VF (QG [4,5]) (PK c) (ps.map prW) _ _=some (.ok (.nx,[some (.o N),some (.lst (ps.map prW)),some (.lst ((ps.map (·.2)).map Wv.int)),some (.o om.length),x4,x5,none,none]),om++[.dk (Zx (Sm kvs af cl n v ps))]) at a4;generalize hgr:Sm kvs af cl n v ps=gr at a4 hk hr ⊢;have Kg:=K.grow [.dk (Zx gr)];have hd:(om++[.dk (Zx gr)])[om.length]?=some (.dk (Zx gr)):=Yp om _ 0;have as:∀sl:Sl,sl[0]?=some (some (.o N))->Zn c.Turn "aside" 1 (ZN c) (Za 0) Zi sl (om++[.dk (Zx gr)])=some (.ok (.lst ((arL pu).map (arW pu v))),om++[.dk (Zx gr)]):=λsl h=>SK Kg h (by omega) np hv
 have lw:(Xj gr pu).length<=30:=by
  unfold Xj;rw[aA];exact bF (aF _ _) (by omega)
 have ep:=Nh (c:=c) (om:=om++[.dk (Zx gr)]) (us:=Yl af++Xj gr pu) (Wu h2) hk hr (by rw[aS];omega);generalize hom2:om++[Ob.dk (Zx gr)]=om2 at a4 Kg hd as ep
 have all3:((arL pu).map (arW pu v)).all (Go 3)=true:=by
  rw[List.all_map];exact de.mpr λ_ _=>rfl
 have ll:(Xn gr pu).length<=30:=bF (aF _ _) (by omega)
 have s5:ZC 6 (XE ZQ 3 [3] (λsl=>bnd ((Zn c.Turn "aside" 1 (ZN c) (Za 0) Zi) sl) ZE) (Of c) (Q7 c)) [some (.o N),some (.lst (ps.map prW)),some (.lst ((ps.map (·.2)).map Wv.int)),some (.o om.length),x4,x5,none,none] om2=some (.ok (.nx,[some (.o N),some (.lst (ps.map prW)),some (.lst ((ps.map (·.2)).map Wv.int)),some (.o om.length),x4,x5,some (.lst ((Xj gr pu).map prW)),none]),om2):=by
  have cm:=Yb (cT:=Of c) (f:=Q7 c) (mk:=λw=>VM [3] w [some (.o N),some (.lst (ps.map prW)),some (.lst ((ps.map (·.2)).map Wv.int)),some (.o om.length),x4,x5,none,none]) (om:=om2) (arW pu v) (λx=>(gr.lookup x).isSome) (λx=>prW ((gr.lookup x).getD 0,(pu.lookup x).getD 0)) (l:=arL pu) (λx hx=>ZO ((v2 rfl rfl).trans ((SC hd false).trans rfl))) (λx hx hc=>(ZB (Ze ((v2 rfl rfl).trans (Rp (s:=(gr.lookup x).getD 0) hd (by obtain⟨s,e⟩:=aV.mp hc;rw[e];rfl))) (Ze (Zb rfl) Zk))).trans (Y0 (by simp)));refine Zv (i:=6) ((OC (ws:=(arL pu).map (arW pu v)) ((Zm (as _ rfl)).trans rfl) (by simp only[aA];omega) all3 (us:=(Xj gr pu).map prW) ?_).trans (Yk (by simp only[aA];omega)));rw[show(Xj gr pu).map prW=((arL pu).filter λx=>(gr.lookup x).isSome).map λx=>prW ((gr.lookup x).getD 0,(pu.lookup x).getD 0) by unfold Xj;rw[aY];rfl];exact cm
 have s6:ZC 7 (XE ZQ 3 [3] (λsl=>bnd ((Zn c.Turn "aside" 1 (ZN c) (Za 0) Zi) sl) ZE) (Pt c) (Pu c)) [some (.o N),some (.lst (ps.map prW)),some (.lst ((ps.map (·.2)).map Wv.int)),some (.o om.length),x4,x5,some (.lst ((Xj gr pu).map prW)),none] om2=some (.ok (.nx,[some (.o N),some (.lst (ps.map prW)),some (.lst ((ps.map (·.2)).map Wv.int)),some (.o om.length),x4,x5,some (.lst ((Xj gr pu).map prW)),some (.lst ((Xn gr pu).map Wv.int))]),om2):=by
  have cm:=Yb (cT:=Pt c) (f:=Pu c) (mk:=λw=>VM [3] w [some (.o N),some (.lst (ps.map prW)),some (.lst ((ps.map (·.2)).map Wv.int)),some (.o om.length),x4,x5,some (.lst ((Xj gr pu).map prW)),none]) (om:=om2) (arW pu v) (λx=>!(gr.lookup x).isSome) (λx=>Wv.int x) (l:=arL pu) (λx hx=>ZO ((v2 rfl rfl).trans ((SC hd true).trans rfl))) (λx hx hc=>Zb rfl);exact Zv (i:=7) ((OC (ws:=(arL pu).map (arW pu v)) ((Zm (as _ rfl)).trans rfl) (by simp only[aA];omega) all3 (us:=(Xn gr pu).map Wv.int) cm).trans (Yk (by simp only[aA];omega)))
 have ec:=Ah (sl:=[some (.o N),some (.lst (ps.map prW)),some (.lst ((ps.map (·.2)).map Wv.int)),some (.o om.length),x4,x5,some (.lst ((Xj gr pu).map prW)),some (.lst ((Xn gr pu).map Wv.int))]) (F8 (i:=0) Kg rfl (by omega)) (Zb (i:=6) rfl) (by simp only[aA];omega);rw[← bK]at ec;refine ZH ((Zh s1).trans ((Zh s2).trans ((Zh s3).trans ((Zh (YI (sl1:=[]) ((Zm (Zb (i:=1) (w:=.lst (ps.map prW)) rfl)).trans rfl) a4)).trans ((Zh s5).trans ((Zh s6).trans (Zu ((ZB (Ze ((ZB (Ze (Jp (i:=0) Kg rfl) (Ze ec Zk))).trans ((YD rfl).trans ep)) (Ze (Zb rfl) Zk))).trans ((Y0 (by simp)).trans ?_)))))))));subst hom2;rw[aS,bP];rfl
end
def Ei{f:hX}{told:iN}(hf:f.length<=60){k y:Nat}{s:Int}(h:k∈VZ told f 100 (mvL told f))(e:at' told k=some (.move y))(hy:y ∉ VZ told f 100 (mvL told f))(hs:at' f y=some s):at' f y≠at' f k:=λz=>by
 have q:=Jm hf h;have o:=I0 hf h e;unfold Yo at q;rw[e]at q;dsimp only at q;have hc:(VZ told f 100 (mvL told f)).contains y=false:=by rw[← cR,aX];exact hy
 rw[hc,Bool.and_false]at q;have q:VH told f k y=0:=q;unfold VH at q;have h1:∀st,Og told f k y st=false:=λst=>by unfold Og;rw[bJ z];rfl
 rw[o,h1,h1,hs]at q
 revert q
 cases decide (at' told y=some (.move k)) <;> intro q <;> cases q
section
variable{f:hX}{told:iN}{off:Nat}{g:Nat->Nat}{F:iC}
def De{rows:Mx}(G:Givn rows f told){k:Nat}(h:k∈mvL told f):k∈ZL f f.length:=by
 obtain⟨h1,g',e⟩:=WV.mp h;have:=G.ok k h1;rw[e]at this;exact aL.mpr ⟨bO.mpr h1,by have:=this.1;revert this;cases at' f k <;> simp⟩
def af_go{rows:Mx}(G:Givn rows f told)(T:Trn off f told g F){k:Nat}(h:k∈F):(gnP off f g (XV f F)++unP off f (kept f g F)).lookup ((off:Int)+g k)=some (sN f k):=
 XM (Rn T) (eI _ (aO.mpr ⟨k,aL.mpr ⟨De G (T.sub k h),aX.mpr h⟩,rfl⟩))
def af_st(T:Trn off f told g F){k:Nat}(h:k∈ZL f f.length)(h1:k ∉ F)(h2:k ∉ push f g F):(gnP off f g (XV f F)++unP off f (kept f g F)).lookup ((off:Int)+k)=some (sN f k):=by
 refine XM (Rn T) (bY _ (aO.mpr ⟨k,aL.mpr ⟨h,?_⟩,rfl⟩));have c1:F.contains k=false:=by rw[← cR,aX];exact h1
 have c2:(F.map g).contains k=false:=by
  rw[← cR];intro z;exact h2 (aL.mpr ⟨h,by rw[z,c1];rfl⟩)
 rw[c1,c2];rfl
end
section
variable{c:CA}{om:iM}{ho hb hm hu hl hg size off N:Nat}{f:hX}{kvs:iK}{gs:Gs}{rows:Mx}{told:iN}{g:Nat->Nat}{F:iC}{cl:iB}
def IM{sl:Sl}{i k:Nat}{fe:FE}(A:Sit c om ho hb hm hu hl hg size off f kvs gs rows told)(hk:k<f.length)(s0:sl[i]?=some (some (.o ho)))(he:fe sl om=some (.ok (.int ((off:Int)+k)),om)):Zn c.Board "side_at" 2 (Zw c) (f1 (ZI c.Orders "board") (Za i)) (Zc fe Zi) sl om=some (.ok (ZJ (at' f k)),om):=(Zy (X6 A.S s0) (Zz A.W.b) (Yh _ _ _ (by decide) (by decide)) (Ze he Zk) rfl).trans (Ox A.W hk)
abbrev TkO(c:CA)(om:iM)(N:Nat)(off:Nat)(f:hX)(told:iN)(g:Nat->Nat)(F:iC)(hm:Nat):Prop:=Tk c om N (clL off told f g F) (goP off g F) (coP off g F) (unP off f (push f g F)) (gnP off f g (XV f F)++unP off f (kept f g F)) hm
def Uk{om:iM}{sl:Sl}{i:Nat}(k:Nat){ws:iI}{w:Wv}(h:sl[i]?=some (some (.tup ws)))(hw:ws[k]?=some w):f2 kIx (Za i) (fC (.int (k:Nat))) sl om=some (.ok w,om):=(Zt (Zb h) Zs).trans (ZW (k:=k) rfl hw)
def SU(A:Sit c om ho hb hm hu hl hg size off f kvs gs rows told){k:Nat}(h:k<f.length):(0:Int)<=(off:Int)+k∧(off:Int)+k<size:=by
 have:=A.W.fit;omega
def Gg(A:Sit c om ho hb hm hu hl hg size off f kvs gs rows told)(T:Trn off f told g F)(K:TkO c om N off f told g F hm)(h7:f.length<=7):XT c [.o ho,.o N] om=some (.ok (.bl true),om):=by
 have iw:=ZS;have ul:=XF f f.length;have pl:(push f g F).length<=(ZL f f.length).length:=aF _ _;have lF:F.length<=30:=bF (UE T.nd T.sub) T.few;have ls:(Yl (goP off g F)).length=F.length:=by rw[(ZV _).length_eq,aA]
 have la:(arL (unP off f (push f g F))).length=(push f g F).length:=by rw[(ZT _).length_eq,aA,aA]
 have d1:∀sl:Sl,sl[1]?=some (some (.o N))->Zn c.Turn "done" 1 (Y5 c) (Za 1) Zi sl om=some (.ok (.lst ((Yl (goP off g F)).map prW)),om):=λsl h=>EZ K h (by rw[aA];omega)
 have a1:∀sl:Sl,sl[1]?=some (some (.o N))->Zn c.Turn "aside" 1 (ZN c) (Za 1) Zi sl om=some (.ok (.lst ((arL (unP off f (push f g F))).map (arW (unP off f (push f g F)) (aCy off g F)))),om):=λsl h=>SK K h (by rw[aA];omega) (KP off f ((WK f).sublist bW)) (SE T.nd T.inj)
 have s1:ZC 2 (Z8 ZQ [] (λsl=>bnd ((Zn c.Turn "done" 1 (Y5 c) (Za 1) Zi) sl) ZE) Xg (Vi c)) [some (.o ho),some (.o N),none,none,none] om=some (.ok (.nx,[some (.o ho),some (.o N),some (.lst (((Yl (goP off g F)).map (·.1)).map Wv.int)),none,none]),om):=by
  have cm:=Yb (cT:=Xg) (f:=Vi c) (mk:=λw=>Xq [] w [some (.o ho),some (.o N),none,none,none]) (om:=om) prW (λ_=>true) (λx=>Wv.int x.1) (l:=Yl (goP off g F)) (λx hx=>rfl) (λx hx _=>Uk 0 (ws:=[.int x.1,.int x.2]) rfl rfl);rw[bS.mpr (λ_ _=>rfl)]at cm;refine Zv (i:=2) ((Xv (om1:=om) (om2:=om) (us:=((Yl (goP off g F)).map (·.1)).map Wv.int) ((Zm (d1 _ rfl)).trans rfl) (by rw[aA];omega) ?_).trans (Yk (by simp only[aA];omega)));rw[aY];exact cm
 have s2:ZC 3 (Z8 ZQ [] (λsl=>bnd ((Zn c.Turn "aside" 1 (ZN c) (Za 1) Zi) sl) ZE) Xg (VA c)) [some (.o ho),some (.o N),some (.lst (((Yl (goP off g F)).map (·.1)).map Wv.int)),none,none] om=some (.ok (.nx,[some (.o ho),some (.o N),some (.lst (((Yl (goP off g F)).map (·.1)).map Wv.int)),some (.lst ((arL (unP off f (push f g F))).map Wv.int)),none]),om):=by
  have cm:=Yb (cT:=Xg) (f:=VA c) (mk:=λw=>Xq [] w [some (.o ho),some (.o N),some (.lst (((Yl (goP off g F)).map (·.1)).map Wv.int)),none,none]) (om:=om) (arW (unP off f (push f g F)) (aCy off g F)) (λ_=>true) (λx=>Wv.int x) (l:=arL (unP off f (push f g F))) (λx hx=>rfl) (λx hx _=>Uk 0 (ws:=[.int x,.int (((unP off f (push f g F)).lookup x).getD 0),.int (aCy off g F x)]) rfl rfl);rw[bS.mpr (λ_ _=>rfl)]at cm;exact Zv (i:=3) ((Xv (om1:=om) (om2:=om) (us:=(arL (unP off f (push f g F))).map Wv.int) ((Zm (a1 _ rfl)).trans rfl) (by rw[aA];omega) cm).trans (Yk (by simp only[aA];omega)))
 obtain⟨y3,f3⟩:=Ug (S:=U7 c) (i:=4) (om:=om) (sl:=[some (.o ho),some (.o N),some (.lst (((Yl (goP off g F)).map (·.1)).map Wv.int)),some (.lst ((arL (unP off f (push f g F))).map Wv.int)),none]) (by simp) (l:=(unP off f (ZL f f.length)).map prW) none (λw hw=>by
  obtain⟨p,hp,rfl⟩:=aO.mp hw;obtain⟨k,hk,rfl⟩:=aO.mp hp;have kl:=(WA hk).1;by_cases z1:k∈F
  ·refine ZP (JI (ZO ((Zt (Uk 0 (i:=4) (ws:=[.int ((off:Int)+k),.int (sN f k)]) rfl rfl) (Zb (i:=2) rfl)).trans ((UN _ rfl true).trans ?_))))
   rw[aC rfl,aX.mpr (aO.mpr ⟨_,(ZV _).mem_iff.mpr (aO.mpr ⟨k,z1,rfl⟩),rfl⟩)];rfl
  ·have c1:((Yl (goP off g F)).map (·.1)).contains ((off:Int)+k)=false:=by
    rw[← cR,aX];intro z;obtain⟨q,hq,e⟩:=aO.mp z;obtain⟨j,hj,rfl⟩:=aO.mp ((ZV _).mem_iff.mp hq);have e:(off:Int)+j=(off:Int)+k:=e;exact z1 ((show j=k by omega) ▸ hj)
   have t1:=ZO (b:=true) (om1:=om) ((Zt (om1:=om) (Uk 0 (i:=4) (sl:=[some (.o ho),some (.o N),some (.lst (((Yl (goP off g F)).map (·.1)).map Wv.int)),some (.lst ((arL (unP off f (push f g F))).map Wv.int)),some (prW ((off:Int)+k,sN f k))]) (ws:=[.int ((off:Int)+k),.int (sN f k)]) rfl rfl) (Zb (i:=2) rfl)).trans ((UN _ rfl true).trans (by rw[aC rfl,c1];rfl)));by_cases z2:k∈push f g F
   ·refine ZP ((MY t1).trans (JI (ZO ((Zt (Uk 0 (i:=4) (ws:=[.int ((off:Int)+k),.int (sN f k)]) rfl rfl) (Zb (i:=3) rfl)).trans ((UN _ rfl true).trans ?_)))))
    rw[aC rfl,aX.mpr ((TC _ _).mpr (aO.mpr ⟨_,aO.mpr ⟨k,z2,rfl⟩,rfl⟩))];rfl
   ·have c2:(arL (unP off f (push f g F))).contains ((off:Int)+k)=false:=by
     rw[← cR,aX];intro z;obtain⟨q,hq,e⟩:=aO.mp ((TC _ _).mp z);obtain⟨j,hj,rfl⟩:=aO.mp hq;have e:(off:Int)+j=(off:Int)+k:=e;exact z2 ((show j=k by omega) ▸ hj)
    refine ZP ((MY t1).trans ((MY (ZO ((Zt (Uk 0 (i:=4) (ws:=[.int ((off:Int)+k),.int (sN f k)]) rfl rfl) (Zb (i:=3) rfl)).trans ((UN _ rfl true).trans (by rw[aC rfl,c2];rfl))))).trans (ZO ((Zt (Da (i:=1) K A.W.m rfl (Uk 0 (i:=4) (ws:=[.int ((off:Int)+k),.int (sN f k)]) rfl rfl) (SU A kl)) (Uk 1 (i:=4) (ws:=[.int ((off:Int)+k),.int (sN f k)]) rfl rfl)).trans ?_))));rw[af_st T hk z1 z2];exact(Vk _ _ _).trans (by rw[bJ rfl];rfl))
 obtain⟨y4,f4⟩:=Ug (S:=U8 c) (i:=4) (om:=om) (sl:=[some (.o ho),some (.o N),some (.lst (((Yl (goP off g F)).map (·.1)).map Wv.int)),some (.lst ((arL (unP off f (push f g F))).map Wv.int)),none]) (by simp) (l:=(Yl (goP off g F)).map prW) y3 (λw hw=>by
  obtain⟨p,hp,rfl⟩:=aO.mp hw;obtain⟨k,hk,rfl⟩:=aO.mp ((ZV _).mem_iff.mp hp);have hu':=De A.G (T.sub k hk);have kl:=WA hu';refine ZP (ZO ((Zt (Da (i:=1) K A.W.m rfl (Uk 1 (i:=4) (ws:=[.int ((off:Int)+k),.int ((off:Int)+g k)]) rfl rfl) (SU A (T.lt A (T.sub k hk)))) (IM (i:=0) A kl.1 rfl (Uk 0 (i:=4) (ws:=[.int ((off:Int)+k),.int ((off:Int)+g k)]) rfl rfl))).trans ?_));rw[af_go A.G T hk,kl.2];exact(Vk _ _ _).trans (by rw[bJ rfl];rfl))
 exact ZH ((Zh s1).trans ((Zh s2).trans ((Zh (YI (sl1:=[]) (IH A (X6 A.S rfl)) f3)).trans ((Zh (YI (sl1:=[]) ((Zm (d1 _ rfl)).trans rfl) f4)).trans (Zu Zs)))))
end
def in_prs(om:iM){l:hY}{p:Int × Int}(h:p∈l):Ga true (prW p) (.lst (l.map prW)) om=some (.ok (.bl false),om):=by
 have e1:Xd om (prW p)=some (PyData.tuple [.int p.1,.int p.2]):=rfl;have l1:=Kd [p];have l2:Wp (PyData.tuple [.int p.1,.int p.2])=true:=rfl;unfold Ga;rw[e1,py_prs];dsimp only;rw[aC (by rw[l2,Kd];rfl),aC rfl];have:((l.map λp=>PyData.tuple [.int p.1,.int p.2]).any λe=>e.eqv (PyData.tuple [.int p.1,.int p.2]))=true:=dS.mpr ⟨_,aO.mpr ⟨p,h,rfl⟩,PySem.SeqAt.eqv_refl _ rfl⟩;rw[this];rfl
section
variable{c:CA}{om:iM}{ho hb hm hu hl hg size off N:Nat}{f:hX}{kvs:iK}{gs:Gs}{rows:Mx}{told:iN}{g:Nat->Nat}{F:iC}{cl:iB}
def KA{y:Nat}(off:Nat)(h:y∈push f g F):(unP off f (push f g F)).lookup ((off:Int)+y)=some (sN f y):=XM (KP off f ((WK f).sublist bW)) (aO.mpr ⟨y,h,rfl⟩)
def Mg{x:Int}(h:x∈arL (unP off f (push f g F))):∃y∈push f g F,x=(off:Int)+y:=by
 obtain⟨q,hq,e⟩:=aO.mp ((TC _ _).mp h);obtain⟨j,hj,rfl⟩:=aO.mp hq;exact⟨j,hj,e.symm⟩
def QJ{y:Nat}(h:y∈push f g F):y∈ZL f f.length∧y ∉ F∧∃k∈F,g k=y:=by
 obtain⟨h1,h2⟩:=aL.mp h;rw[cf]at h2;obtain⟨k,hk,e⟩:=aO.mp (aX.mp h2.1);exact⟨h1,λz=>(by rw[aX.mpr z]at h2;exact absurd h2.2 aH),k,hk,e⟩
def GP(A:Sit c om ho hb hm hu hl hg size off f kvs gs rows told)(T:Trn off f told g F)(K:TkO c om N off f told g F hm)(h7:f.length<=7):XU c [.o ho,.o N] om=some (.ok (.bl true),om):=by
 have iw:=ZS;have ul:=XF f f.length;have pl:(push f g F).length<=(ZL f f.length).length:=aF _ _;have lF:F.length<=30:=bF (UE T.nd T.sub) T.few;have d1:∀sl:Sl,sl[1]?=some (some (.o N))->Zn c.Turn "done" 1 (Y5 c) (Za 1) Zi sl om=some (.ok (.lst ((Yl (goP off g F)).map prW)),om):=λsl h=>EZ K h (by rw[aA];omega)
 have a1:∀sl:Sl,sl[1]?=some (some (.o N))->Zn c.Turn "aside" 1 (ZN c) (Za 1) Zi sl om=some (.ok (.lst ((arL (unP off f (push f g F))).map (arW (unP off f (push f g F)) (aCy off g F)))),om):=λsl h=>SK K h (by rw[aA];omega) (KP off f ((WK f).sublist bW)) (SE T.nd T.inj)
 obtain⟨y3,f3⟩:=Ug (S:=Vn c) (i:=2) (om:=om) (sl:=[some (.o ho),some (.o N),none]) (by simp) (l:=(arL (unP off f (push f g F))).map (arW (unP off f (push f g F)) (aCy off g F))) none (λw hw=>by
  obtain⟨x,hx,rfl⟩:=aO.mp hw;obtain⟨y,hy,rfl⟩:=Mg hx;obtain⟨yu,yn,k,hk,gk⟩:=QJ hy;have ku:=De A.G (T.sub k hk);obtain⟨kl,ks⟩:=WA ku;obtain⟨yl,ys⟩:=WA yu;have e1:((unP off f (push f g F)).lookup ((off:Int)+y)).getD 0=sN f y:=by rw[KA off hy];rfl
  have e2:aCy off g F ((off:Int)+y)=(off:Int)+k:=by unfold aCy;rw[← gk,JR off T.nd T.inj hk];rfl
  have jb:sN f k≠sN f y:=λz=>by
   have:=Ei (f:=f) (told:=told) A.G.few (k:=k) (y:=y) (s:=sN f y) (by rw[T.fin];exact hk) (by rw[T.mv k (T.sub k hk),gk]) (by rw[T.fin];exact yn) ys;rw[ys,ks,z]at this;exact this rfl
  show Vn c [some (.o ho),some (.o N),some (.tup [.int ((off:Int)+y),.int (((unP off f (push f g F)).lookup ((off:Int)+y)).getD 0),.int (aCy off g F ((off:Int)+y))])] om=some (.ok (.nx,[some (.o ho),some (.o N),some (.tup [.int ((off:Int)+y),.int (((unP off f (push f g F)).lookup ((off:Int)+y)).getD 0),.int (aCy off g F ((off:Int)+y))])]),om);rw[e1,e2];have i0:=Uk (om:=om) (sl:=[some (.o ho),some (.o N),some (.tup [.int ((off:Int)+y),.int (sN f y),.int ((off:Int)+k)])]) (i:=2) 0 rfl rfl;have i1:=Uk (om:=om) (sl:=[some (.o ho),some (.o N),some (.tup [.int ((off:Int)+y),.int (sN f y),.int ((off:Int)+k)])]) (i:=2) 1 rfl rfl;have i2:=Uk (om:=om) (sl:=[some (.o ho),some (.o N),some (.tup [.int ((off:Int)+y),.int (sN f y),.int ((off:Int)+k)])]) (i:=2) 2 rfl rfl;have q1:=(ZO (b:=false) ((Zt ((ZB (Ze i2 (Ze i0 Zk))).trans (Y0 (by simp))) (d1 _ rfl)).trans (in_prs om (l:=Yl (goP off g F)) (p:=((off:Int)+k,(off:Int)+y)) ((ZV _).mem_iff.mpr (aO.mpr ⟨k,hk,by rw[gk]⟩)))));have q2:=ZO (b:=false) ((Zt (IM (i:=0) A yl rfl i0) i1).trans (by rw[ys];exact(Vk _ _ _).trans (by rw[bJ rfl];rfl)));have q3:=ZO (b:=false) ((Wl (IM (i:=0) A kl rfl i2)).trans ((Ti _ _).trans (by rw[ks];rfl)));have q4:=ZO (b:=false) ((Zt (IM (i:=0) A kl rfl i2) i1).trans (by rw[ks];exact(Wi _ _ _).trans (by rw[aJ jb])));exact(Zh (ZP ((Nr q1).trans q2))).trans (ZP ((Nr q3).trans q4)))
 exact ZH ((Zh (YI (sl1:=[]) ((Zm (a1 _ rfl)).trans rfl) f3)).trans (Zu Zs))
end
def Bz{l m:iB}(h:l.Perm m):Yt l=Yt m:=Ud ((ZT _).trans (h.trans (ZT _).symm)) (Wo _) (Wo _)
def JL(f:hX)(g:Nat->Nat)(F:iC):(XV f F++kept f g F++push f g F).Perm (ZL f f.length):=by
 have h1:=fM (λx=>F.contains x) (ZL f f.length);have h2:=fM (λx=>!(F.map g).contains x) ((ZL f f.length).filter λx=>!F.contains x);rw[d5,d5]at h2;refine List.Perm.trans ?_ h1;rw[bP];refine List.Perm.append_left _ (List.Perm.trans ?_ h2);have e1:kept f g F=(ZL f f.length).filter λx=>(!(F.map g).contains x)&&!F.contains x:=dy λx _=>Bool.and_comm _ _
 have e2:push f g F=(ZL f f.length).filter λx=>(!!(F.map g).contains x)&&!F.contains x:=dy λx _=>by rw[Bool.not_not]
 rw[e1,e2]
def HP(c:CA){om:iM}{α:Type}(φ:α->Wv)(s:α->Int){l:List α}(h:∀x∈l,∃ws,φ x=.tup ws∧ws[1]?=some (.int (s x)))(hl:l.length<60):Yd c [.lst (l.map φ)] om=some (.ok (.lst ((Yt (l.map s)).map Wv.int)),om):=by
 have iw:=ZS
 have cm:=Yb (cT:=Xg) (f:=Vu c) (mk:=λw=>Xq [] w [some (.lst (l.map φ))]) (om:=om) φ (λ_=>true) (λx=>Wv.int (s x)) (l:=l) (λx hx=>rfl) (λx hx _=>by
  obtain⟨ws,e,e1⟩:=h x hx;rw[e];exact Uk 1 rfl e1)
 rw[bS.mpr (λ_ _=>rfl)]at cm
 have e:Z8 ZQ [] (λsl=>bnd ((Za 0) sl) ZE) Xg (Vu c) [some (.lst (l.map φ))] om=some (.ok (.lst ((l.map s).map Wv.int)),om):=by
  refine(Xv (om1:=om) (om2:=om) (us:=(l.map s).map Wv.int) (ws:=l.map φ) rfl (by rw[aA];omega) ?_).trans (Yk (by simp only[aA];omega));rw[aY];exact cm
 exact ZH (Zu (L3 e (by rw[aA];omega)))
mutual
def Ou(om:iM)(n:Nat):∀(k:Nat) (w:Wv),small n w->fzW om n k w=w
 |0,_,_=>rfl
 |k+1,.o h,s=>by unfold fzW;rw[aE (by have:h<n:=s;omega)]
 |k+1,.lst ws,s=>by unfold fzW;rw[fz_smalls om n k ws s]
 |k+1,.tup ws,s=>by unfold fzW;rw[fz_smalls om n k ws s]
 |_+1,.non,_=>rfl
 |_+1,.bl _,_=>rfl
 |_+1,.int _,_=>rfl
 |_+1,.str _,_=>rfl
 |_+1,.g _,_=>rfl
def fz_smalls(om:iM)(n:Nat):∀(k:Nat) (ws:iI),smalls n ws->ws.map (fzW om n k)=ws
 |_,[],_=>rfl
 |k,w::ws,⟨h,r⟩=>by rw[aU,Ou om n k w h,fz_smalls om n k ws r]
end
def frz_ok{S:FS}{sl sl1:Sl}{om:iM}{ws:iI}{i:Nat}(h:S sl om=some (.ok (.nx,sl1),om++[.lst ws]))(hi:sl1[i]?=some (some (.o om.length)))(hs:∀(j:Nat) w,j≠i->sl1[j]?=some (some w)->small om.length w)(hw:smalls om.length ws):P7 S sl om=some (.ok (.nx,sl1.set i (some (.lst ws))),om):=by
 have he:(om++[Ob.lst ws])[om.length]?=some (.lst ws):=Yp om _ 0
 have h0:fzW (om++[.lst ws]) om.length 4 (.o om.length)=.lst ws:=by
  unfold fzW;rw[aC (aM _),he];dsimp only;rw[fz_smalls _ _ _ _ hw]
 have e:sl1.map (Option.map (fzW (om++[.lst ws]) om.length 4))=sl1.set i (some (.lst ws)):=by
  apply cX;intro j;rw[bC,gF];by_cases hj:i=j
  ·subst hj
   rw[hi,aC rfl,aC (aG.mp hi).1];show some (some (fzW (om++[.lst ws]) om.length 4 (.o om.length)))=_;rw[h0]
  ·rw[aE hj]
   match hq:sl1[j]? with
   |none=>rfl
   |some none=>rfl
   |some (some w)=>
    show some (some (fzW (om++[.lst ws]) om.length 4 w))=_;rw[Ou _ _ _ _ (hs j w (λz=>hj z.symm) hq)]
 unfold P7;rw[h];dsimp only;rw[e,aC];refine⟨gX,λj w hq=>?_⟩;by_cases hj:j=i
 ·subst hj
  rw[hi]at hq;cases hq;rw[h0];exact .own (aM _) he (FzWs.of_smalls hw)
 ·rw[Ou _ _ _ _ (hs j w hj hq)]
  exact .same (hs j w hj hq)
def DC{l:iC}{k:Nat}(h:k<l.length):l.getD k 0∈l:=by
 rw[aR,aN h];exact dR h
def C6(a:Int){m:Nat}(h:0<m):∃k:Nat,a % (m:Int)=k∧k<m:=by
 have h1:=eM a (show(m:Int)≠0 by omega);have h2:=dG a (show 0<(m:Int) by omega);exact⟨(a % m).toNat,by omega,by omega⟩
abbrev nL(l:iC):Wv:=.lst (l.map λ(k:Nat)=>Wv.int (k:Int))
def Ap(l:iC):nL l=.lst ((l.map λ(k:Nat)=>(k:Int)).map Wv.int):=by rw[aY];rfl
def modv5{sl:Sl}{om:iM}{fa fb:FE}{a q:Int}(h:fa sl om=some (.ok (.int a),om))(h2:fb sl om=some (.ok (.int q),om))(hq:0<q):f2 YY fa fb sl om=some (.ok (.int (a % q)),om):=(Zt h h2).trans (by simp[kIc,L2.ret,hq])
def LJ(om:iM)(l:iB):Wn false (.lst (l.map Wv.int)) (.lst []) om=some (.ok (.bl l.isEmpty),om):=by
 have h2:Xd om (.lst [])=some (.list []):=rfl;have h3:Wp (.list [])=true:=TD [];unfold Wn;rw[FD,h2];dsimp only;rw[TD l,h3];cases l <;> rfl
def X7{α:Type}{n:Nat}(φ:α->Wv)(h:∀x,small n (φ x)):∀l:List α,smalls n (l.map φ)
 |[]=>True.intro
 |x::l=>⟨h x,X7 φ h l⟩
section
variable{c:CA}{ns:iB}
def pick_e{sl:Sl}{om:iM}{i q:Nat}{l:iC}(h0:sl[0]?=some (some (Yu ns)))(hl:sl[i]?=some (some (nL l)))(hp:0<l.length):∃k,k∈l∧f2 kIx (Za i) (f2 YY (fA (kN 2 (Zp c)) (Zc (Za 0) (Zc (fC (.int (q:Nat))) Zi))) (fA XW (Zc (Za i) Zi))) sl om=some (.ok (.int (k:Int)),om):=by
 obtain⟨j,hj,iR⟩:=C6 (ns.getD q 0) hp;refine⟨l.getD j 0,DC iR,(Zt (Zb hl) ((modv5 (Rz c (ns:=ns) (k:=q) (i:=0) (fe:=fC (.int (q:Nat))) h0 Zs) ((ZB (Ze (Zb hl) Zk)).trans (Vr (xs:=l.map λ(k:Nat)=>Wv.int (k:Int)) rfl)) (by rw[aA];omega)).trans ?_)).trans (SR (xs:=l) (f:=λ(k:Nat)=>Wv.int (k:Int)) (k:=j) rfl iR 0)⟩;rw[aA,hj]
abbrev slF(ns:iB)(x1 x2 x3 x4 x5 x6 x7 x8 x9:Option Wv):Sl:=[some (Yu ns),x1,x2,x3,x4,x5,x6,x7,x8,x9]
variable{om:iM}{ho hb hm hu hl hg size off N:Nat}{f:hX}{kvs:iK}{gs:Gs}{rows:Mx}{told:iN}{g:Nat->Nat}{F:iC}
def ET(A:Sit c om ho hb hm hu hl hg size off f kvs gs rows told)(T:Trn off f told g F)(K:TkO c om N off f told g F hm)(h7:f.length<=7)(hz:0<size)(w1 w2 w4:Option Wv):∃(qs:hY) (x6 x7:Option Wv),Zr (ZC 5 (fA Xm Zi)) (XH (λsl=>bnd ((Zn c.Turn "aside" 1 (ZN c) (Za 3) Zi) sl) ZE) (tgN 6) (Lg c)) (slF ns w1 w2 (some (.o N)) w4 none none none none none) om=some (.ok (.nx,slF ns w1 w2 (some (.o N)) w4 (some (.o om.length)) x6 x7 none none),om++[.lst (qs.map prW)]) ∧ qs.map (·.1)=arL (unP off f (push f g F))∧(∀p∈qs,0<=p.2∧p.2<(size:Int))∧(∀w,x6=some w->small om.length w)∧(∀w,x7=some w->small om.length w):=by
 have iw:=ZS;have ul:=XF f f.length;have pl:(push f g F).length<=(ZL f f.length).length:=aF _ _;have la:(arL (unP off f (push f g F))).length=(push f g F).length:=by rw[(ZT _).length_eq,aA,aA]
 have s1:ZC 5 (fA Xm Zi) (slF ns w1 w2 (some (.o N)) w4 none none none none none) om=some (.ok (.nx,slF ns w1 w2 (some (.o N)) w4 (some (.o om.length)) none none none none),om++[.lst (([]:hY).map prW)]):=Zv (i:=5) ((ZB Zk).trans (by unfold Xm;rw[aC (by simp)];rfl));have e2:=SK (sl:=slF ns w1 w2 (some (.o N)) w4 (some (.o om.length)) none none none none) (i:=3) (v:=aCy off g F) (K.grow [.lst (([]:hY).map prW)]) rfl (by rw[aA];omega) (KP off f ((WK f).sublist bW)) (SE T.nd T.inj)
 obtain⟨iz,ig,oA,qs,x6,x7,rfl,rfl,q1,q2,q3,q4⟩:=XX (T:=tgN 6) (S:=Lg c) (arW (unP off f (push f g F)) (aCy off g F)) (λpre sl ig=>∃(qs:hY) (x6 x7:Option Wv),sl=slF ns w1 w2 (some (.o N)) w4 (some (.o om.length)) x6 x7 none none∧ig=om++[.lst (qs.map prW)]∧qs.map (·.1)=pre∧(∀p∈qs,0<=p.2∧p.2<(size:Int))∧(∀w,x6=some w->small om.length w)∧(∀w,x7=some w->small om.length w)) (arL (unP off f (push f g F))) [] (sl:=slF ns w1 w2 (some (.o N)) w4 (some (.o om.length)) none none none none) (om:=om++[.lst (([]:hY).map prW)]) (λpre x post hq sl ig ⟨qs,x6,x7,h1,h2,h3,h4,h5,h6⟩=>by
  subst h1 h2;have hq:arL (unP off f (push f g F))=pre++x::post:=hq;obtain⟨y,hy,ex⟩:=Mg (off:=off) (f:=f) (g:=g) (F:=F) (x:=x) (by rw[hq];simp);subst ex;obtain⟨yu,yn,k,hk,gk⟩:=QJ hy;have yl:=(WA yu).1;have Kg:=K.grow [.lst (qs.map prW)]
  have lq:qs.length<=7:=by
   have:=cx List.length h3;rw[aA]at this;rw[hq,aS]at la;omega
  have i0:=Uk (om:=om++[.lst (qs.map prW)]) (sl:=slF ns w1 w2 (some (.o N)) w4 (some (.o om.length)) (some (arW (unP off f (push f g F)) (aCy off g F) ((off:Int)+y))) x7 none none) (i:=6) 0 rfl rfl;have em:=At (i:=3) (ca:=(off:Int)+k) Kg (Wu A.W.m) (Wu A.W.l) A.W.few rfl i0 (SU A yl) (by rw[KA off hy];rfl) (by rw[← gk];exact JR off T.nd T.inj hk);have hin:∀b∈Jy kvs (gnP off f g (XV f F)++unP off f (kept f g F)) (clL off told f g F) size ((off:Int)+y) ((off:Int)+k),b<size:=λb hb=>(Hf hb).1
  generalize Jy kvs (gnP off f g (XV f F)++unP off f (kept f g F)) (clL off told f g F) size ((off:Int)+y) ((off:Int)+k)=ms at em hin;have s7:=Zv (i:=7) em;have i0':=Uk (om:=om++[.lst (qs.map prW)]) (sl:=slF ns w1 w2 (some (.o N)) w4 (some (.o om.length)) (some (arW (unP off f (push f g F)) (aCy off g F) ((off:Int)+y))) (some (nL ms)) none none) (i:=6) 0 rfl rfl;have sm6:∀w,some (arW (unP off f (push f g F)) (aCy off g F) ((off:Int)+y))=some w->small om.length w:=λw e=>by cases e;exact⟨True.intro,True.intro,True.intro,True.intro⟩
  have sm7:∀w,some (nL ms)=some w->small om.length w:=λw e=>by cases e;exact X7 (n:=om.length) (λ(k:Nat)=>Wv.int (k:Int)) (λ_=>True.intro) ms
  have put:∀(fe:FE) (b:Nat),b<size->fe (slF ns w1 w2 (some (.o N)) w4 (some (.o om.length)) (some (arW (unP off f (push f g F)) (aCy off g F) ((off:Int)+y))) (some (nL ms)) none none) (om++[.lst (qs.map prW)])=some (.ok (.int (b:Int)),om++[.lst (qs.map prW)])->∃j6:hY,Z4 (MB (Za 5) (fA YW (Zc (f2 kIx (Za 6) (fC (.int 0))) (Zc fe Zi)))) (slF ns w1 w2 (some (.o N)) w4 (some (.o om.length)) (some (arW (unP off f (push f g F)) (aCy off g F) ((off:Int)+y))) (some (nL ms)) none none) (om++[.lst (qs.map prW)])=some (.ok (.nx,slF ns w1 w2 (some (.o N)) w4 (some (.o om.length)) (some (arW (unP off f (push f g F)) (aCy off g F) ((off:Int)+y))) (some (nL ms)) none none),om++[.lst (List.map prW j6)])∧j6.map (·.1)=pre++[(off:Int)+y]∧∀p∈j6,0<=p.2∧p.2<(size:Int):=λfe b hb he=>by
   refine⟨qs++[((off:Int)+y,(b:Int))],?_,by rw[bK,h3];rfl,λp hp=>?_⟩
   ·have:=ID (om:=om) (l:=[]) (i:=5) (ws:=qs.map prW) (w:=prW ((off:Int)+y,(b:Int))) (sl:=slF ns w1 w2 (some (.o N)) w4 (some (.o om.length)) (some (arW (unP off f (push f g F)) (aCy off g F) ((off:Int)+y))) (some (nL ms)) none none) rfl ((ZB (Ze i0' (Ze he Zk))).trans (Y0 (by simp))) (by rw[aA];omega)
    rw[bK];exact this
   ·rcases cZ.mp hp with hp|hp
    ·exact h4 p hp
    ·cases cN.mp hp
     exact⟨by show(0:Int)<=(b:Int);omega,by show(b:Int)<(size:Int);omega⟩
  by_cases hm0:ms=[]
  ·obtain⟨j6,p1,p2,p3⟩:=put (fC (.int 0)) 0 hz Zs
   refine⟨_,_,_,rfl,(Zh s7).trans ((YC (ZO ((Zt (Zb (i:=7) rfl) ((ZB Zk).trans (Yk (ws:=[]) (by simp)))).trans ?_))).trans p1),j6,_,_,rfl,rfl,p2,p3,sm6,sm7⟩;have:=LJ (om++[.lst (qs.map prW)]) (ms.map λ(k:Nat)=>(k:Int));rw[← Ap]at this;rw[show(ms.map λ(k:Nat)=>(k:Int)).isEmpty=true by rw[hm0];rfl]at this;exact this
  ·have lm:0<ms.length:=List.length_pos_iff.mpr hm0
   obtain⟨b,hb,he⟩:=pick_e (c:=c) (ns:=ns) (om:=om++[.lst (qs.map prW)]) (sl:=slF ns w1 w2 (some (.o N)) w4 (some (.o om.length)) (some (arW (unP off f (push f g F)) (aCy off g F) ((off:Int)+y))) (some (nL ms)) none none) (i:=7) (q:=25) (l:=ms) rfl rfl lm;obtain⟨j6,p1,p2,p3⟩:=put _ b (hin b hb) he;refine⟨_,_,_,rfl,(Zh s7).trans ((Qq (ZO ((Zt (Zb (i:=7) rfl) ((ZB Zk).trans (Yk (ws:=[]) (by simp)))).trans ?_))).trans p1),j6,_,_,rfl,rfl,p2,p3,sm6,sm7⟩;have:=LJ (om++[.lst (qs.map prW)]) (ms.map λ(k:Nat)=>(k:Int));rw[← Ap]at this;rw[show(ms.map λ(k:Nat)=>(k:Int)).isEmpty=false by cases ms with|nil=>exact absurd rfl hm0|cons a l=>rfl]at this;exact this) ⟨[],none,none,rfl,rfl,rfl,λp hp=>(nomatch hp),λw e=>(nomatch e),λw e=>(nomatch e)⟩
 exact⟨qs,x6,x7,(Zh s1).trans (YI (sl1:=[]) ((Zm e2).trans rfl) oA),q1,q2,q3,q4⟩
end
def cnt1{a:Int}:∀{qs:hY},(qs.map (·.2)).count a=1->∀{p q:Int × Int},p∈qs->q∈qs->p.2=a->q.2=a->p=q
 |r::l,h,p,q,hp,hq,ep,eq=>by
  rw[aU,List.count_cons]at h;by_cases hr:r.2=a
  ·rw[aC (df.mpr hr)]at h
   have h0:(l.map (·.2)).count a=0:=by omega
   have no:∀x∈l,x.2≠a:=λx hx e=>List.count_eq_zero.mp h0 (aO.mpr ⟨x,hx,e⟩)
   rcases aT.mp hp with rfl|hp
   ·rcases aT.mp hq with rfl|hq
    ·rfl
    ·exact absurd eq (no q hq)
   ·exact absurd ep (no p hp)
  ·rw[aE (λz=>hr (df.mp z))]at h
   have hp:p∈l:=(aT.mp hp).resolve_left λz=>hr (z ▸ ep)
   have hq:q∈l:=(aT.mp hq).resolve_left λz=>hr (z ▸ eq)
   exact cnt1 (by omega) hp hq ep eq
section
variable{kvs:iK}{af pu qs:hY}{cl:iB}{n:Nat}{v:Int->Int}
def QX{x a:Int}(h:(Sm kvs af cl n v qs).lookup x=some a):(x,a)∈qs∧(qs.map (·.2)).count a=1∧af.lookup a=none:=by
 obtain⟨h1,h2⟩:=aL.mp (Va h);rw[cf]at h2;refine⟨h1,bD h2.1,?_⟩;obtain⟨b,hb,e⟩:=aO.mp (aX.mp h2.2);have:=(Hf hb).2;rw[e]at this;exact this
def Jj{p:Int × Int}(h:p∈Xj (Sm kvs af cl n v qs) pu):∃x∈arL pu,(Sm kvs af cl n v qs).lookup x=some p.1∧p.2=(pu.lookup x).getD 0:=by
 obtain⟨x,hx,rfl⟩:=aO.mp h;obtain⟨h1,h2⟩:=aL.mp hx;obtain⟨s,e⟩:=aV.mp h2;exact⟨x,h1,by rw[e];rfl,rfl⟩
def BB(np:(pu.map (·.1)).Nodup)(na:(af.map (·.1)).Nodup):((Yl af++Xj (Sm kvs af cl n v qs) pu).map (·.1)).Nodup:=by
 rw[bK];refine cj.mpr ⟨((ZV af).map _).nodup_iff.mpr na,?_,λa ha b hb e=>?_⟩
 ·unfold Xj
  rw[aY];have hs:(((arL pu).filter λx=>((Sm kvs af cl n v qs).lookup x).isSome)).Nodup:=((ZT _).nodup_iff.mpr np).sublist bW;refine cg.mpr (List.Pairwise.imp_of_mem (λ{x y} hx hy ne e=>ne ?_) hs);obtain⟨a,ea⟩:=aV.mp (aL.mp hx).2;obtain⟨b,eb⟩:=aV.mp (aL.mp hy).2;have e:((Sm kvs af cl n v qs).lookup x).getD 0=((Sm kvs af cl n v qs).lookup y).getD 0:=e;rw[ea,eb]at e;have e:a=b:=e;subst e;obtain⟨m1,c1,_⟩:=QX ea;obtain⟨m2,_,_⟩:=QX eb;exact(d7 (cnt1 c1 m1 m2 rfl rfl)).1
 ·subst e
  obtain⟨p,hp,rfl⟩:=aO.mp hb;obtain⟨x,_,ex,_⟩:=Jj hp;obtain⟨q,hq,eq⟩:=aO.mp ha;have hq:=(ZV af).mem_iff.mp hq;have:=XM na (k:=q.1) (s:=q.2) hq;rw[eq,(QX ex).2.2]at this;cases this
def BG(gr pu:hY):((arL pu).filter λx=>(Xn gr pu).contains x)=Xn gr pu:=dy λx hx=>by
 by_cases h:(gr.lookup x).isSome=true
 ·rw[h]
  show(Xn gr pu).contains x=false;rw[← cR,aX];intro z;have:=(aL.mp z).2;rw[h]at this;cases this
 ·rw[cR]at h
  rw[h];exact aX.mpr (aL.mpr ⟨hx,by rw[h];rfl⟩)
def HR(gr pu:hY):((Xj gr pu).map (·.2)++(Xn gr pu).map λx=>(pu.lookup x).getD 0).Perm ((arL pu).map λx=>(pu.lookup x).getD 0):=by
 have h:=(fM (λx=>(gr.lookup x).isSome) (arL pu)).map λx=>(pu.lookup x).getD 0
 rw[bK]at h;unfold Xj Xn;rw[aY];exact h
end
def LI(off:Nat)(f:hX)(g:Nat->Nat)(F:iC):((arL (unP off f (push f g F))).map λx=>((unP off f (push f g F)).lookup x).getD 0).Perm ((push f g F).map (sN f)):=by
 refine((ZT _).map _).trans (List.Perm.of_eq ?_);rw[aY,aY];refine cC λy hy=>?_
 show((unP off f (push f g F)).lookup ((off:Int)+y)).getD 0=sN f y;rw[KA off hy];rfl
def F6(off:Nat)(f:hX)(g:Nat->Nat)(F:iC):(gnP off f g (XV f F)++unP off f (kept f g F)).map (·.2)=(XV f F).map (sN f)++(kept f g F).map (sN f):=by
 rw[bK,aY,aY];rfl
section
variable{c:CA}{ns:iB}
def Dp(c:CA)(ns:iB):∃(W:Wv) (om:iM) (ho hb hm hu hl hg size off N:Nat) (f:hX) (kvs:iK) (gs:Gs) (rows:Mx) (told:iN) (F:iC), (∀S:FS,Zr (ZC 1 (fA (kN 1 (Wm c)) (Zc (Za 0) Zi))) (Zr (ZC 2 (fA (kN 4 (XJ c)) (Zc (f2 kIx (Za 1) (fC (.int 0))) (Zc (f2 kIx (Za 1) (fC (.int 1))) (Zc (f2 kIx (Za 1) (fC (.int 2))) (Zc (f2 kIx (Za 1) (fC (.int 3))) Zi)))))) (Zr (ZC 3 (fA (XN c.Turn 2 (Wc c)) (Zc (Za 2) Zi))) S)) (slF ns none none none none none none none none none) []=S (slF ns (some W) (some (.o ho)) (some (.o N)) none none none none none none) om) ∧ Sit c om ho hb hm hu hl hg size off f kvs gs rows told∧Trn off f told (gO told) F∧TkO c om N off f told (gO told) F hm∧f.length<=7∧0<size∧small om.length W:=by
 obtain⟨ia,off,size,rows,f,told,h2,h7,h1,k4,lk,hf,hs,G,ew⟩:=Dw c ns;have s1:ZC 1 (fA (kN 1 (Wm c)) (Zc (Za 0) Zi)) (slF ns none none none none none none none none none) []=some (.ok (.nx,slF ns (some (.tup [ZF ia off size,.lst (rows.map Yg),.o 0,.o 1])) none none none none none none none none),[.lst (f.map ZJ),.lst (told.map odW)]):=Zv (i:=1) ((ZB (Ze (Zb rfl) Zk)).trans ((YD rfl).trans ew));have wk:∀(om:iM) (sl:Sl) (k:Nat) (v:Wv),sl[1]?=some (some (.tup [ZF ia off size,.lst (rows.map Yg),.o 0,.o 1]))->[ZF ia off size,.lst (rows.map Yg),.o 0,.o 1][k]?=some v->f2 kIx (Za 1) (fC (.int (k:Nat))) sl om=some (.ok v,om):=λom sl k v h1 h2=>(Zt (Zb h1) Zs).trans (ZW (k:=k) rfl h2)
 obtain⟨kvs,gs,eg,mo,t⟩:=D3 (c:=c) lk hf h1 k4 h7 hs G [.lst (f.map ZJ),.lst (told.map odW)] (tw:=.o 1) (λig h=>LU rfl h) (sw:=.o 0) (λig h=>LU rfl h);have A1:Sit c ([.lst (f.map ZJ),.lst (told.map odW)]++[Y9 c size 3,.dt kvs,Yr c 2 5,.dk (Zx (Xi off f ia)),YV c 4 7,.dk (Y7 c off gs)]) 6 4 2 5 3 7 size off f kvs gs rows told:=⟨⟨rfl,rfl,⟨Xi off f ia,rfl,by rw[hf]⟩,rfl,by omega,k4⟩,⟨rfl,rfl⟩,G,t,hs⟩;have s2:ZC 2 (fA (kN 4 (XJ c)) (Zc (f2 kIx (Za 1) (fC (.int 0))) (Zc (f2 kIx (Za 1) (fC (.int 1))) (Zc (f2 kIx (Za 1) (fC (.int 2))) (Zc (f2 kIx (Za 1) (fC (.int 3))) Zi))))) (slF ns (some (.tup [ZF ia off size,.lst (rows.map Yg),.o 0,.o 1])) none none none none none none none none) [.lst (f.map ZJ),.lst (told.map odW)]=some (.ok (.nx,slF ns (some (.tup [ZF ia off size,.lst (rows.map Yg),.o 0,.o 1])) (some (.o 6)) none none none none none none none),[.lst (f.map ZJ),.lst (told.map odW)]++[Y9 c size 3,.dt kvs,Yr c 2 5,.dk (Zx (Xi off f ia)),YV c 4 7,.dk (Y7 c off gs)]):=Zv (i:=2) ((ZB (Ze (wk _ _ 0 _ rfl rfl) (Ze (wk _ _ 1 _ rfl rfl) (Ze (wk _ _ 2 _ rfl rfl) (Ze (wk _ _ 3 _ rfl rfl) Zk))))).trans ((YD rfl).trans eg));generalize [.lst (f.map ZJ),.lst (told.map odW)]++[Y9 c size 3,.dt kvs,Yr c 2 5,.dk (Zx (Xi off f ia)),YV c 4 7,.dk (Y7 c off gs)]=om1 at s2 A1;have T:=trn_of off G (by omega);obtain⟨l,e3,K⟩:=turn_k A1 T;have s3:ZC 3 (fA (XN c.Turn 2 (Wc c)) (Zc (Za 2) Zi)) (slF ns (some (.tup [ZF ia off size,.lst (rows.map Yg),.o 0,.o 1])) (some (.o 6)) none none none none none none none) om1=some (.ok (.nx,slF ns (some (.tup [ZF ia off size,.lst (rows.map Yg),.o 0,.o 1])) (some (.o 6)) (some (.o om1.length)) none none none none none none),om1++l):=Zv (i:=3) ((ZB (Ze (Zb rfl) Zk)).trans e3);have l6:6<(om1++l).length:=(aG.mp (A1.grow l).S.o).1;refine⟨_,_,6,4,2,5,3,7,size,off,om1.length,f,kvs,gs,rows,told,_,λS=>(Zh s1).trans ((Zh s2).trans (Zh s3)),A1.grow l,T,K,by omega,by omega,?_⟩;refine⟨⟨True.intro,True.intro,True.intro,True.intro⟩,?_,?_,?_,True.intro⟩
 ·exact X7 (λr=>Yg r) (λr=>X7 (n:=(om1++l).length) Wv.bl (λ_=>True.intro) r) rows
 ·show 0<_;omega
 ·show 1<_;omega
end
section
variable{c:CA}{ns:iB}{om:iM}{ho hb hm hu hl hg size off N:Nat}{f:hX}{kvs:iK}{gs:Gs}{rows:Mx}{told:iN}{g:Nat->Nat}{F:iC}
def oroll{sl:Sl}{i:Nat}(A:Sit c om ho hb hm hu hl hg size off f kvs gs rows told)(h:sl[i]?=some (some (.o ho))):Zn c.Board "roll" 1 (ZM c) (f1 (ZI c.Orders "board") (Za i)) Zi sl om=some (.ok (.lst ((unP off f (ZL f f.length)).map prW)),om):=by
 refine(Zy (X6 A.S h) (Zz A.W.b) (Yh _ _ _ (by decide) (by decide)) Zk rfl).trans ((JB A.W).trans ?_);rw[Ng];rfl
def Kt{sl:Sl}{fe:FE}{α:Type}(φ:α->Wv)(s:α->Int){l:List α}(he:fe sl om=some (.ok (.lst (l.map φ)),om))(h:∀x∈l,∃ws,φ x=.tup ws∧ws[1]?=some (.int (s x)))(hl:l.length<60):fA (kN 1 (Yd c)) (Zc fe Zi) sl om=some (.ok (.lst ((Yt (l.map s)).map Wv.int)),om):=(ZB (Ze he Zk)).trans ((YD rfl).trans (HP c φ s h hl))
def Eh{sl:Sl}{fa fb:FE}{a b u:iB}(ha:fa sl om=some (.ok (.lst ((Yt a).map Wv.int)),om))(hb:fb sl om=some (.ok (.lst ((Yt b).map Wv.int)),om))(hp:(a++b).Perm u)(hl:a.length+b.length<60):fA (YT ZQ) (Zc (f2 PU fa fb) Zi) sl om=some (.ok (.lst ((Yt u).map Wv.int)),om):=by
 have la:(Yt a).length=a.length:=(ZT a).length_eq;have lb:(Yt b).length=b.length:=(ZT b).length_eq;have e:=Ah ha hb (by rw[aA,aA];omega);rw[← bK]at e;have:=L3 e (by rw[aS];omega);rw[Bz (((ZT a).append (ZT b)).trans hp)]at this;exact this
def CI(A:Sit c om ho hb hm hu hl hg size off f kvs gs rows told)(T:Trn off f told g F)(K:TkO c om N off f told g F hm)(h7:f.length<=7)(hz:0<size)(W:Wv)(hW:small om.length W):∃ig iz, (Zr (sIf (fOr (SM (Xb (fA (kN 2 (XT c)) (Zc (Za 2) (Zc (Za 3) Zi))))) (SM (Xb (fA (kN 2 (XU c)) (Zc (Za 2) (Zc (Za 3) Zi)))))) (Yc (fC (.bl false))) Yy)
    (Zr (ZC 4 (fA (kN 1 (Yd c)) (Zc (Zn c.Board "roll" 1 (ZM c) (f1 (ZI c.Orders "board") (Za 2)) Zi) Zi)))
    (Zr (sIf (fB (f2 kNe (fA (YT ZQ) (Zc (f2 PU (fA (kN 1 (Yd c)) (Zc (Zn c.Board "roll" 1 (ZM c) (f1 (ZI c.Turn "board") (Za 3)) Zi) Zi)) (fA (kN 1 (Yd c)) (Zc (Zn c.Turn "aside" 1 (ZN c) (Za 3) Zi) Zi))) Zi)) (Za 4))) (Yc (fC (.bl false))) Yy)
    (Zr (P7 (Zr (ZC 5 (fA Xm Zi)) (XH (λsl=>bnd ((Zn c.Turn "aside" 1 (ZN c) (Za 3) Zi) sl) ZE) (tgN 6) (Lg c))))
    (Zr (ZC 8 (fA (kN 2 (QY c)) (Zc (Za 3) (Zc (Za 5) Zi))))
    (Zr (ZC 9 (Z8 ZQ [8] (λsl=>bnd ((Zn c.Turn "aside" 1 (ZN c) (Za 3) Zi) sl) ZE) (MD c) (Lx c)))
    (Zr (sIf (fB (f2 kNe (fA XW (Zc (Za 9) Zi)) (fA XW (Zc (f2 kIx (Za 8) (fC (.int 1))) Zi)))) (Yc (fC (.bl false))) Yy)
    (Yc (f2 kEq (fA (YT ZQ) (Zc (f2 PU (fA (kN 1 (Yd c)) (Zc (Zn c.Board "roll" 1 (ZM c) (f2 kIx (Za 8) (fC (.int 0))) Zi) Zi)) (fA (kN 1 (Yd c)) (Zc (Za 9) Zi))) Zi)) (Za 4))))))))))
    (slF ns (some W) (some (.o ho)) (some (.o N)) none none none none none none) om=some (.ok (.rt (.bl true),iz),ig):=by
 have iw:=ZS;have ul:=XF f f.length;have pl:(push f g F).length<=(ZL f f.length).length:=aF _ _;have gk:=Qb f g F;have la:(arL (unP off f (push f g F))).length=(push f g F).length:=by rw[(ZT _).length_eq,aA,aA]
 have np:=KP off f ((WK f).sublist (bW (p:=λx=>(F.map g).contains x&&!F.contains x)));have na:=Rn T;have lN:=(aG.mp K.t).1;have lo:=(aG.mp A.S.o).1;have lu:((ZL f f.length).map (sN f)).length<=7:=by rw[aA];omega
 have laf:(gnP off f g (XV f F)++unP off f (kept f g F)).length<=7:=by rw[aS,aA,aA];omega
 have lsa:(Yl (gnP off f g (XV f F)++unP off f (kept f g F))).length<=7:=by rw[(ZV _).length_eq];exact laf
 have pr1:∀x:Int × Int,∃ws,prW x=.tup ws∧ws[1]?=some (.int x.2):=λx=>⟨_,rfl,rfl⟩
 have ar1:∀x:Int,∃ws,arW (unP off f (push f g F)) (aCy off g F) x=.tup ws∧ws[1]?=some (.int (((unP off f (push f g F)).lookup x).getD 0)):=λx=>⟨_,rfl,rfl⟩
 have pm:=(JL f g F).map (sN f);rw[bK,bK,← F6 off]at pm;have c4:fOr (SM (Xb (fA (kN 2 (XT c)) (Zc (Za 2) (Zc (Za 3) Zi))))) (SM (Xb (fA (kN 2 (XU c)) (Zc (Za 2) (Zc (Za 3) Zi))))) (slF ns (some W) (some (.o ho)) (some (.o N)) none none none none none none) om=some (.ok false,om):=(Nr (Re (b:=true) (Xy ((ZB (Ze (Zb rfl) (Ze (Zb rfl) Zk))).trans ((YD rfl).trans (Gg A T K h7)))))).trans (Re (b:=true) (Xy ((ZB (Ze (Zb rfl) (Ze (Zb rfl) Zk))).trans ((YD rfl).trans (GP A T K h7)))));have s5:=Zv (i:=4) (Kt (c:=c) prW (·.2) (oroll (sl:=slF ns (some W) (some (.o ho)) (some (.o N)) none none none none none none) (i:=2) A rfl) (λx _=>pr1 x) (by rw[aA];omega));rw[show(unP off f (ZL f f.length)).map (·.2)=(ZL f f.length).map (sN f) by rw[aY];rfl]at s5;have as3:∀(l:iM) (sl:Sl),sl[3]?=some (some (.o N))->Zn c.Turn "aside" 1 (ZN c) (Za 3) Zi sl (om++l)=some (.ok (.lst ((arL (unP off f (push f g F))).map (arW (unP off f (push f g F)) (aCy off g F)))),om++l):=λl sl h=>SK (K.grow l) h (by rw[aA];omega) np (SE T.nd T.inj)
 have c6:=Eh (u:=(ZL f f.length).map (sN f)) (Kt (c:=c) prW (·.2) (F8 (sl:=slF ns (some W) (some (.o ho)) (some (.o N)) (some (.lst ((Yt ((ZL f f.length).map (sN f))).map Wv.int))) none none none none none) (i:=3) K rfl (by omega)) (λx _=>pr1 x) (by omega)) (Kt (c:=c) (arW (unP off f (push f g F)) (aCy off g F)) (λx=>((unP off f (push f g F)).lookup x).getD 0) (by have:=as3 [] (slF ns (some W) (some (.o ho)) (some (.o N)) (some (.lst ((Yt ((ZL f f.length).map (sN f))).map Wv.int))) none none none none none) rfl;rw[ce]at this;exact this) (λx _=>ar1 x) (by omega)) (((((ZV _).map _).append (LI off f g F))).trans pm) (by rw[aA,aA];omega);have c6':=ZO ((Zt c6 (Zb (i:=4) rfl)).trans (Ht (FD om _) (FD om _) (TD _) true));obtain⟨qs,x6,x7,e7,q1,q2,q3,q4⟩:=ET (c:=c) (ns:=ns) A T K h7 hz (some W) (some (.o ho)) (some (.lst ((Yt ((ZL f f.length).map (sN f))).map Wv.int)))
 have lq:qs.length<=7:=by
  have:=cx List.length q1;rw[aA]at this;omega
 have s7:=frz_ok (i:=5) e7 rfl (λj w hj hw=>by
  match j,hj,hw with
  |0,_,hw=>cases hw;exact X7 (n:=om.length) Wv.int (λ_=>True.intro) ns
  |1,_,hw=>cases hw;exact hW
  |2,_,hw=>cases hw;exact lo
  |3,_,hw=>cases hw;exact lN
  |4,_,hw=>cases hw;exact X7 (n:=om.length) Wv.int (λ_=>True.intro) _
  |5,hj,_=>exact absurd rfl hj
  |6,_,hw=>exact q3 w (bT hw)
  |7,_,hw=>exact q4 w (bT hw)
  |8,_,hw=>cases hw
  |9,_,hw=>cases hw
  |j+10,_,hw=>cases hw) (X7 (n:=om.length) prW (λ_=>⟨True.intro,True.intro,True.intro⟩) qs)
 have e8:=aft_in (v:=aCy off g F) (ps:=qs) K A.W.m A.W.l A.W.few (SE T.nd T.inj) np (by rw[q1];exact(ZT _).nodup_iff.mpr np) (λx hx=>by
  obtain⟨y,hy,ex⟩:=Mg (off:=off) (f:=f) (g:=g) (F:=F) (x:=x.1) (by rw[← q1];exact aO.mpr ⟨x,hx,rfl⟩);rw[ex];exact⟨by rw[KA off hy];rfl,SU A (WA (QJ hy).1).1,q2 x hx⟩) (by omega) (by rw[aA];omega) (by omega) (BB np na) (λp hp=>by
  rcases cZ.mp hp with hp|hp
  ·exact Ky A T p ((ZV _).mem_iff.mp hp)
  ·obtain⟨x,hx,ex,e2⟩:=Jj hp
   obtain⟨m1,_,_⟩:=QX ex;obtain⟨y,hy,oB⟩:=Mg hx;refine⟨q2 _ m1,?_⟩;rw[e2,oB,KA off hy];exact A.s7 y _ (WA (QJ hy).1).2)
 generalize hgr:Sm kvs (gnP off f g (XV f F)++unP off f (kept f g F)) (clL off told f g F) size (aCy off g F) qs=gr at e8;have s8:=Zv (i:=8) (sl:=slF ns (some W) (some (.o ho)) (some (.o N)) (some (.lst ((Yt ((ZL f f.length).map (sN f))).map Wv.int))) (some (.lst (qs.map prW))) x6 x7 none none) ((ZB (Ze (Zb (i:=3) rfl) (Ze (Zb (i:=5) rfl) Zk))).trans ((YD rfl).trans e8));have ll:(Xn gr (unP off f (push f g F))).length<=7:=bF (aF _ _) (by omega);have lw:(Xj gr (unP off f (push f g F))).length<=7:=by unfold Xj;rw[aA];exact bF (aF _ _) (by omega)
 have hb1:(om++[.dk (Zx gr),Yr c hm (om.length+2),.dk (Zx (Yl (gnP off f g (XV f F)++unP off f (kept f g F))++Xj gr (unP off f (push f g F))))])[om.length+1]?=some (Yr c hm (om.length+2)):=Yp om _ 1;have hb2:(om++[.dk (Zx gr),Yr c hm (om.length+2),.dk (Zx (Yl (gnP off f g (XV f F)++unP off f (kept f g F))++Xj gr (unP off f (push f g F))))])[om.length+2]?=some (.dk (Zx (Yl (gnP off f g (XV f F)++unP off f (kept f g F))++Xj gr (unP off f (push f g F))))):=Yp om _ 2;have as4:=λsl h=>as3 [.dk (Zx gr),Yr c hm (om.length+2),.dk (Zx (Yl (gnP off f g (XV f F)++unP off f (kept f g F))++Xj gr (unP off f (push f g F))))] sl h
 generalize hom3:om++[Ob.dk (Zx gr),Yr c hm (om.length+2),.dk (Zx (Yl (gnP off f g (XV f F)++unP off f (kept f g F))++Xj gr (unP off f (push f g F))))]=jd at s8 hb1 hb2 as4
 have s9:ZC 9 (Z8 ZQ [8] (λsl=>bnd ((Zn c.Turn "aside" 1 (ZN c) (Za 3) Zi) sl) ZE) (MD c) (Lx c)) (slF ns (some W) (some (.o ho)) (some (.o N)) (some (.lst ((Yt ((ZL f f.length).map (sN f))).map Wv.int))) (some (.lst (qs.map prW))) x6 x7 (some (.tup [.o (om.length+1),.lst ((Xn gr (unP off f (push f g F))).map Wv.int)])) none) jd=some (.ok (.nx,slF ns (some W) (some (.o ho)) (some (.o N)) (some (.lst ((Yt ((ZL f f.length).map (sN f))).map Wv.int))) (some (.lst (qs.map prW))) x6 x7 (some (.tup [.o (om.length+1),.lst ((Xn gr (unP off f (push f g F))).map Wv.int)])) (some (.lst ((Xn gr (unP off f (push f g F))).map (arW (unP off f (push f g F)) (aCy off g F)))))),jd):=by
  have cm:=Yb (cT:=MD c) (f:=Lx c) (mk:=λw=>Xq [8] w (slF ns (some W) (some (.o ho)) (some (.o N)) (some (.lst ((Yt ((ZL f f.length).map (sN f))).map Wv.int))) (some (.lst (qs.map prW))) x6 x7 (some (.tup [.o (om.length+1),.lst ((Xn gr (unP off f (push f g F))).map Wv.int)])) none)) (om:=jd) (arW (unP off f (push f g F)) (aCy off g F)) (λx=>(Xn gr (unP off f (push f g F))).contains x) (arW (unP off f (push f g F)) (aCy off g F)) (l:=arL (unP off f (push f g F))) (λx hx=>ZO ((Zt (Uk 0 (i:=0) (ws:=[.int x,.int (((unP off f (push f g F)).lookup x).getD 0),.int (aCy off g F x)]) rfl rfl) (Uk 1 (i:=1) (ws:=[.o (om.length+1),.lst ((Xn gr (unP off f (push f g F))).map Wv.int)]) rfl rfl)).trans ((UN x rfl false).trans rfl))) (λx hx _=>Zb rfl);rw[BG]at cm;exact Zv (i:=9) ((Xv (om1:=jd) (om2:=jd) ((Zm (as4 _ rfl)).trans rfl) (by rw[aA];omega) cm).trans (Yk (by rw[aA];omega)))
 have c10:fB (f2 kNe (fA XW (Zc (Za 9) Zi)) (fA XW (Zc (f2 kIx (Za 8) (fC (.int 1))) Zi))) (slF ns (some W) (some (.o ho)) (some (.o N)) (some (.lst ((Yt ((ZL f f.length).map (sN f))).map Wv.int))) (some (.lst (qs.map prW))) x6 x7 (some (.tup [.o (om.length+1),.lst ((Xn gr (unP off f (push f g F))).map Wv.int)])) (some (.lst ((Xn gr (unP off f (push f g F))).map (arW (unP off f (push f g F)) (aCy off g F)))))) jd=some (.ok false,jd):=by
  refine ZO ((Zt ((ZB (Ze (Zb (i:=9) rfl) Zk)).trans (Vr (xs:=(Xn gr (unP off f (push f g F))).map (arW (unP off f (push f g F)) (aCy off g F))) rfl)) ((ZB (Ze (Uk 1 (i:=8) (ws:=[.o (om.length+1),.lst ((Xn gr (unP off f (push f g F))).map Wv.int)]) rfl rfl) Zk)).trans (Vr (xs:=(Xn gr (unP off f (push f g F))).map Wv.int) rfl))).trans ((Vk _ _ _).trans ?_));rw[aA,aA,bJ rfl];rfl
 have r0:=(Zy (C:=c.Board) (m:="roll") (g:=ZM c) (n:=1) (sl:=slF ns (some W) (some (.o ho)) (some (.o N)) (some (.lst ((Yt ((ZL f f.length).map (sN f))).map Wv.int))) (some (.lst (qs.map prW))) x6 x7 (some (.tup [.o (om.length+1),.lst ((Xn gr (unP off f (push f g F))).map Wv.int)])) (some (.lst ((Xn gr (unP off f (push f g F))).map (arW (unP off f (push f g F)) (aCy off g F)))))) (Uk 0 (i:=8) (ws:=[.o (om.length+1),.lst ((Xn gr (unP off f (push f g F))).map Wv.int)]) rfl rfl) (Zz hb1) (Yh _ _ _ (by decide) (by decide)) Zk rfl).trans (Lh c hb1 hb2 (by rw[aS];omega))
 have e11:=Eh (u:=(ZL f f.length).map (sN f)) (Kt (c:=c) prW (·.2) r0 (λx _=>pr1 x) (by rw[(ZV _).length_eq,aS];omega)) (Kt (c:=c) (arW (unP off f (push f g F)) (aCy off g F)) (λx=>((unP off f (push f g F)).lookup x).getD 0) (Zb (i:=9) rfl) (λx _=>ar1 x) (by omega)) (by
  refine List.Perm.trans (List.Perm.append_right _ ((ZV _).map _)) ?_;rw[bK,bP];exact(((ZV _).map _).append ((HR gr _).trans (LI off f g F))).trans pm) (by rw[aA,aA,(ZV _).length_eq,aS];omega)
 exact⟨_,_,(Zh (ZP c4)).trans ((Zh s5).trans ((Zh (ZP c6')).trans ((Zh s7).trans ((Zh s8).trans ((Zh s9).trans ((Zh (ZP c10)).trans (Zu ((Zt e11 (Zb (i:=4) rfl)).trans (Ht (FD jd _) (FD jd _) (TD _) false)))))))))⟩
end
def FQ(c:CA)(ns:iB):∃om,B1 c [Yu ns] []=some (.ok (.bl true),om):=by
 obtain⟨W,om,ho,hb,hm,hu,hl,hg,size,off,N,f,kvs,gs,rows,told,F,e,A,T,K,h7,hz,hW⟩:=Dp c ns;obtain⟨ig,iz,e2⟩:=CI (ns:=ns) A T K h7 hz W hW;exact⟨ig,ZH ((e _).trans e2)⟩
open PySem L2 PyProof.Rows
def LS:bootBuiltins "any"=some (.builtin "any"):=by decide +kernel
def DN:bootBuiltins "min"=some (.builtin "min"):=by decide +kernel
def Fw:bootBuiltins "max"=some (.builtin "max"):=by decide +kernel
structure All(K:W.Frag)(mg:g7)(c:CA):Prop where
 a0:AtC K mg c.Board "Board" ["chart","units"]
 a1:AtC K mg c.Map "Map" ["links","size"]
 a2:AtC K mg c.Orders "Orders" ["board","given"]
 a3:AtC K mg c.Turn "Turn" ["board","closed","comers","goals","pushed"]
 a4:ExF K mg c.Crowded "Crowded"
 a5:ExF K mg c.NoPlace "NoPlace"
 a6:ExF K mg c.NoSide "NoSide"
 a7:ExF K mg c.NoUnit "NoUnit"
 a8:ExF K mg c.OutOfReach "OutOfReach"
 a9:∃t,mg "FACED"=some (.int 2 t)
 aa:∃t,mg "FREE"=some (.int 0 t)
 ab:∃t,mg "HELD"=some (.int 3 t)
 ac:∃t,mg "LAST_SIDE"=some (.int 7 t)
 ad:∃t,mg "RIVAL"=some (.int 1 t)
 ae:mg "STAND"=some (.ref c.STAND)
 af:GTup K c.STAND
 ag:mg "any"=none
 ah:mg "len"=none
 ai:mg "max"=none
 aj:mg "min"=none
 ak:mg "range"=none
 al:mg "set"=none
 am:mg "sorted"=none
 an:GF K mg "_law_cell_at" st_0 ["script","k"]
 ao:GF K mg "_law_frame" st_1 ["script"]
 ap:GF K mg "_law_links" st_2 ["script","many"]
 aq:GF K mg "_law_sides" st_3 ["script","many"]
 ar:GF K mg "_law_order_by" st_4 ["cell","k","links","sides"]
 au:GF K mg "_law_orders" st_5 ["script","links","sides"]
 av:GF K mg "_law_world" st_6 ["script"]
 aw:NF K c.Map "Map.__init__" st_7 ["self","size"]
 ax:MF K c.Map "need_place" "Map.need_place" st_8 ["self","at"]
 ay:MF K c.Map "link" "Map.link" st_9 ["self","a","b"]
 az:GF K mg "_law_chart" Ad ["frame","links"]
 b0:NF K c.Board "Board.__init__" AY ["self","chart"]
 b1:MF K c.Board "post" "Board.post" AI ["self","at","side"]
 b2:GF K mg "_law_board" Au ["frame","links","sides"]
 b3:NF K c.Orders "Orders.__init__" A3 ["self","board"]
 b4:MF K c.Board "side_at" "Board.side_at" Aj ["self","at"]
 b5:MF K c.Board "need_unit" "Board.need_unit" Aw ["self","at"]
 b6:MF K c.Orders "stand" "Orders.stand" AX ["self","at"]
 b7:MF K c.Orders "need_all" "Orders.need_all" st_18 ["self","places","units"]
 b8:MF K c.Map "beside" "Map.beside" B8 ["self","a","b"]
 b9:MF K c.Orders "need_beside" "Orders.need_beside" st_20 ["self","at","goal"]
 ba:MF K c.Orders "move" "Orders.move" st_21 ["self","at","goal"]
 bb:MF K c.Orders "aid" "Orders.aid" Av ["self","at","helped","goal"]
 bc:GF K mg "_law_give" st_23 ["orders","off","told","k"]
 bd:GF K mg "_law_given" BY ["frame","links","sides","told"]
 be:MF K c.Orders "goal_of" "Orders.goal_of" AZ ["self","at"]
 bf:MF K c.Orders "movers" "Orders.movers" st_26 ["self"]
 bg:MF K c.Board "roll" "Board.roll" An ["self"]
 bh:MF K c.Orders "told" "Orders.told" A4 ["self","at"]
 bi:GF K mg "is_cut" AJ ["orders","at"]
 bj:GF K mg "fits" Am ["orders","helped","goal"]
 bk:GF K mg "counts" As ["orders","at"]
 bl:GF K mg "backs" st_32 ["orders","helper","at"]
 bm:GF K mg "backing" B4 ["orders","at"]
 bn:GF K mg "force" AQ ["orders","at"]
 bo:GF K mg "weigh_movers" A9 ["orders"]
 bp:GF K mg "is_outdone" AN ["orders","forces","at"]
 bq:GF K mg "force_against" AF ["orders","at","side"]
 br:GF K mg "overcomes" AK ["orders","at","goal","strength"]
 bs:GF K mg "firmness" Ao ["orders","at"]
 bt:GF K mg "hindrance" Ag ["orders","forces","at"]
 bu:GF K mg "hindrances" AM ["orders"]
 bv:GF K mg "fault" Ar ["orders","found","at","places"]
 bw:GF K mg "strikes" st_43 ["orders"]
 bx:GF K mg "settled" A0 ["orders"]
 bz:GF K mg "units_after" Af ["board","goals","comers"]
 c0:GF K mg "posted_board" Ac ["chart","units"]
 c1:NF K c.Turn "Turn.__init__" AH ["self","orders"]
 c2:MF K c.Turn "aside" "Turn.aside" AG ["self"]
 c3:MF K c.Turn "done" "Turn.done" st_49 ["self"]
 c4:GF K mg "_law_pushed" Ax ["orders","turn"]
 c5:GF K mg "_law_stands" BX ["orders","turn"]
 c6:GF K mg "_law_sorted" st_52 ["rows"]
 c7:MF K c.Turn "need_aside" "Turn.need_aside" B6 ["self","at"]
 c8:MF K c.Map "near" "Map.near" B5 ["self","a"]
 c9:MF K c.Turn "may_go" "Turn.may_go" AE ["self","at"]
 ca:GF K mg "check_told" AS ["turn","told"]
 cb:GF K mg "after" st_57 ["turn","told"]
 cc:GF K mg "law" Ea ["script"]
section
variable{K:W.Frag}{mg:g7}{c:CA}(T:All K mg c)
def Z3:GO K mg 1 "_law_cell_at" 2 (Zp c):=gOk T.an ["script","k"] λhr hu Sc=>(Zg (Y1 (HA (Zf 1) (WU rfl T.ah (Zd (Zf 0) Zj))) (Ys (ZR (Zf 0) (Zf 1))))
      (Ys Zl))
def OU:GO K mg 2 "_law_frame" 1 (W1 c):=gOk T.ao ["script","many"] λhr hu Sc=>(Zg (YZ 1 (XA Zl (Y2 (Z6 (Z3 T) (Zd (Zf 0) (Zd Zl Zj))) Zl)))
      (Zg (Y1 (XO hu (Y2 (UC (Z6 (Z3 T) (Zd (Zf 0) (Zd Zl Zj))) Zl) Zl) Zl) (Ys (Yz (Zd (Zf 1) (Zd (Y2 (UC (Z6 (Z3 T) (Zd (Zf 0) (Zd Zl Zj))) Zl) (qe_sub Zl (Zf 1))) (Zd Zl Zj))))))
      (Ys (Yz (Zd (Zf 1) (Zd Zl (Zd (Zf 1) Zj)))))))
def OO:GO K mg 2 "_law_links" 2 (UK c):=gOk T.ap ["script","many","bits","links","a","b"] λhr hu Sc=>(Zg (YZ 2 (Y2 (Z6 (Z3 T) (Zd (Zf 0) (Zd Zl Zj))) Zl))
      (Zg (Y1 (XO hu (Y2 (Z6 (Z3 T) (Zd (Zf 0) (Zd Zl Zj))) Zl) Zl) (Zq (YZ 2 Zl)))
      (Zg (WT 3 (cOk ["many"]) (YB rfl T.ak (Zf 1)) Y6 (qe_rep RI (Zd VN Zj) (Zf 1)))
      (Zg (WR 4 (YB rfl T.ak (Zf 1)) (Zq (WR 5 (YB rfl T.ak (Zf 4)) (Zg (U9 (SQ hu (Y2 (Zf 2) Zl) Zl) (ZR (Zf 3) (Zf 4)) (Zf 5))
      (Zg (U9 (SQ hu (Y2 (Zf 2) Zl) Zl) (ZR (Zf 3) (Zf 5)) (Zf 4))
      (Zq (YZ 2 (UC (Zf 2) Zl))))))))
      (Ys (Zf 3))))))
def PD:GO K mg 2 "_law_links" 2 (Wy c):=GO.tidy (OO T)
def OH:GO K mg 2 "_law_sides" 2 (WX c):=gOk T.aq ["script","many","sides","k","cell"] λhr hu Sc=>(Zg (YZ 2 (N4 Zj))
      (Zg (WR 3 (YB rfl T.ak (Zf 1)) (Zg (YZ 4 (Z6 (Z3 T) (Zd (Zf 0) (Zd (XA Zl (Zf 3)) Zj))))
      (Zq (NA (XO hu (Y2 (Zf 4) Zl) Zl) (Zq (Z0 (Uq (Zf 2) Lm))) (Zq (NA (XO hu (Y2 (UC (Zf 4) Zl) Zl) Zl) (Zq (Z0 (Uq (Zf 2) (Y2 (UC (Zf 4) Zl) Zl)))) (Zq (Z0 (Uq (Zf 2) (Y2 (UC (Zf 4) Zl) Zl))))))))))
      (Ys (Zf 2))))
def Rs:GO K mg 1 "_law_order_by" 4 (Y3 c):=gOk T.ar ["cell","k","links","sides","near","goal","able"] λhr hu Sc=>(Zg (WT 4 (cOk ["k","links"]) (YB rfl T.ak (WU rfl T.ah (Zd (Zf 3) Zj))) (YG (Xz (ZR (ZR (Zf 2) (Zf 1)) (Zf 0)))) (Zf 0))
      (Zg (Y1 (U0 (ZR (Zf 3) (Zf 1))) (Ys Lm))
      (Zg (Y1 (PW.pt (On (Oa (Xz (Zf 4))) (Su (XO hu (Y2 (Zf 0) Zl) Zl)))) (Ys (Yz (Zd Xs Zj))))
      (Zg (YZ 5 (ZR (Zf 4) (Y2 (UC (Zf 0) Zl) (WU rfl T.ah (Zd (Zf 4) Zj)))))
      (Zg (Y1 (HA (Y2 (Zf 0) Zl) Zl) (Ys (Yz (Zd Xs (Zd (Zf 5) Zj)))))
      (Zg (WT 6 (cOk ["k","links","sides","goal"]) (YB rfl T.ak (WU rfl T.ah (Zd (Zf 3) Zj))) (YG (PW.pt (Vq (Uc hu (Zf 0) (Zf 1)) (Vq (QR (ZR (Zf 3) (Zf 0))) (WZ (PW.pt (On (XO hu (Zf 0) (Zf 4)) (Su (Xz (ZR (ZR (Zf 2) (Zf 0)) (Zf 4))))))))))) (Zf 0))
      (Zg (Y1 (Oa (Xz (Zf 6))) (Ys (Yz (Zd Xs Zj))))
      (Ys (Yz (Zd Xs (Zd (ZR (Zf 6) (Y2 (UC (Zf 0) Zl) (WU rfl T.ah (Zd (Zf 6) Zj)))) (Zd (Zf 5) Zj))))))))))))
def Qx:GO K mg 2 "_law_orders" 3 (Wf c):=gOk T.au ["script","links","sides"] λhr hu Sc=>(Ys (UX (cOk ["script","links","sides"]) (YB rfl T.ak (WU rfl T.ah (Zd (Zf 2) Zj))) Y6 (Z6 (Rs T) (Zd (Z6 (Z3 T) (Zd (Zf 1) (Zd (XA Zl (Zf 0)) Zj))) (Zd (Zf 0) (Zd (Zf 2) (Zd (Zf 3) Zj)))))))
def OK:GO K mg 3 "_law_world" 1 (Wm c):=gOk T.av ["script","frame","links","sides","twice","pushed","k","told"] λhr hu Sc=>(Zg (YZ 1 (Z6 (OU T) (Zd (Zf 0) Zj)))
      (Zg (Y1 (XO hu (Y2 (Z6 (Z3 T) (Zd (Zf 0) (Zd Zl Zj))) Zl) Zl) (Zq (YZ 1 (Yz (Zd Zl (Zd (Cv rfl rfl T.aj DN (Zd (ZR (Zf 1) Zl) (Zd Zl Zj))) (Zd (BK rfl rfl T.ai Fw (Zd (ZR (Zf 1) Zl) (Zd Zl Zj))) Zj)))))))
      (Zg (YZ 2 (Z6 (PD T) (Zd (Zf 0) (Zd (ZR (Zf 1) Zl) Zj))))
      (Zg (YZ 3 (Z6 (OH T) (Zd (Zf 0) (Zd (ZR (Zf 1) Zl) Zj))))
      (Zg (YZ 4 (SQ hu (Y2 (Z6 (Z3 T) (Zd (Zf 0) (Zd Zl Zj))) Zl) Zl))
      (Zg (YZ 5 (RQ (Ab (ZR (Zf 1) Zl) Zl) (NW (SQ hu (Y2 (Z6 (Z3 T) (Zd (Zf 0) (Zd Zl Zj))) Zl) Zl))))
      (Zg (Y1 (Xz (Zf 5)) (Zg (WT 2 (cOkO ["frame"]) (YB rfl T.ak (ZR (Zf 1) Zl)) Y6 (UX (cOk ["a"]) (YB rfl T.ak (ZR (Zf 1) Zl)) Y6 (DM hu (Zf 1) (Zf 0))))
      (Zq (WR 6 (YB rfl T.ak Zl) (Zq (U9 (Y2 (Zf 6) Zl) (Zf 3) (Zf 6)))))))
      (Zg (Y1 (Xz (Zf 4)) (Zg (WR 6 (YB rfl T.ak Zl) (Zq (U9 (Y2 (Zf 6) Zl) (Zf 3) (XA Zl (Zf 6)))))
      (Zq (U9 Lm (Zf 3) Zl))))
      (Zg (YZ 7 (Z6 (Qx T) (Zd (Zf 0) (Zd (Zf 2) (Zd (Zf 3) Zj)))))
      (Zg (Y1 (Xz (Zf 5)) (Zg (U9 (Yz (Zd Xs (Zd Zl Zj))) (Zf 7) Zl)
      (Zg (U9 (Yz (Zd Xs (Zd Zl (Zd Zl Zj)))) (Zf 7) Zl)
      (Zq (Y1 (Ae (Y2 (UC (Z6 (Z3 T) (Zd (Zf 0) (Zd Zl Zj))) Zl) Zl) Zl) (Zq (U9 (Yz (Zd Xs Zj)) (Zf 7) Zl)))))))
      (Zg (Y1 (Xz (Zf 4)) (Zg (U9 (Yz (Zd Xs (Zd Zl Zj))) (Zf 7) Zl)
      (Zg (U9 (Yz (Zd Xs Zj)) (Zf 7) Zl)
      (Zq (U9 (Yz (Zd Xs (Zd Zl (Zd Zl Zj)))) (Zf 7) Zl)))))
      (Ys (Yz (Zd (Zf 1) (Zd (Zf 2) (Zd (Zf 3) (Zd (Zf 7) Zj)))))))))))))))))
def KS:NO K mg 1 c.Map 2 (Vx c):=nOk T.aw ["self","size"] λhr hu Sc=>(Zg (Tp T.a1 (Zf 1) (Zf 0))
      (Zq (Tp T.a1 Fx (Zf 0))))
def Z1:MO K mg 1 c.Map "need_place" 2 (ZD c):=mOk T.ax ["self","at"] λhr hu Sc=>(Zq (Y1 (PW.pt (On (HA (Zf 1) Zl) (Su (qt_ge (Zf 1) (Ym T.a1 (Zf 0)))))) (Zq (Td T.a5 (UH (Zf 1) (Vc Tf))))))
def L4:MO K mg 2 c.Map "link" 3 (SA c):=mOk T.ay ["self","a","b"] λhr hu Sc=>(Zg (Z0 (ZX T.a1 (Z1 T) (Zf 0) (Zd (Zf 1) Zj)))
      (Zg (Z0 (ZX T.a1 (Z1 T) (Zf 0) (Zd (Zf 2) Zj)))
      (Zg (Y1 (XO hu (Zf 1) (Zf 2)) (Zq (Td T.a8 (Vc (UH (Zf 1) (Vc Tf))))))
      (Zg (X0 hu VN (Ym T.a1 (Zf 0)) (Yz (Zd (Zf 1) (Zd (Zf 2) Zj))))
      (Zq (X0 hu VN (Ym T.a1 (Zf 0)) (Yz (Zd (Zf 2) (Zd (Zf 1) Zj)))))))))
def OV:GO K mg 3 "_law_chart" 2 (WY c):=gOk T.az ["frame","links","chart","a","b"] λhr hu Sc=>(Zg (YZ 2 (KH T.a1 (KS T) (Zd (ZR (Zf 0) Zl) Zj)))
      (Zg (WR 3 (YB rfl T.ak (ZR (Zf 0) Zl)) (Zq (WR 4 (YB rfl T.ak (Zf 3)) (Zq (Y1 (Xz (ZR (ZR (Zf 1) (Zf 3)) (Zf 4))) (Zq (Z0 (ZX T.a1 (L4 T) (Zf 2) (Zd (XA (ZR (Zf 0) Zl) (Zf 3)) (Zd (XA (ZR (Zf 0) Zl) (Zf 4)) Zj))))))))))
      (Ys (Zf 2))))
def TQ:NO K mg 1 c.Board 2 (Xk c):=nOk T.b0 ["self","chart"] λhr hu Sc=>(Zg (Tp T.a0 (Zf 1) (Zf 0))
      (Zq (Tp T.a0 WH (Zf 0))))
def TW:MO K mg 2 c.Board "post" 3 (W7 c):=mOk T.b1 ["self","at","side"] λhr hu Sc=>(Zg (Z0 (ZX T.a1 (Z1 T) (Ym T.a0 (Zf 0)) (Zd (Zf 1) Zj)))
      (Zg (Y1 (PW.pt (On (HA (Zf 2) Zl) (Su (Ae (Zf 2) (To rfl T.ac))))) (Zq (Td T.a6 (UH (Zf 2) (Vc Tf)))))
      (Zg (Y1 (P3 hu (Zf 1) (Ym T.a0 (Zf 0))) (Zq (Td T.a4 (Vc (UH (Zf 1) Tf)))))
      (Zq (X0 hu (Zf 2) (Ym T.a0 (Zf 0)) (Zf 1))))))
def OW:GO K mg 4 "_law_board" 3 (W6 c):=gOk T.b2 ["frame","links","sides","board","k"] λhr hu Sc=>(Zg (YZ 3 (KH T.a0 (TQ T) (Zd (Z6 (OV T) (Zd (Zf 0) (Zd (Zf 1) Zj))) Zj)))
      (Zg (WR 4 (YB rfl T.ak (ZR (Zf 0) Zl)) (Zq (Y1 (QR (ZR (Zf 2) (Zf 4))) (Zq (Z0 (ZX T.a0 (TW T) (Zf 3) (Zd (XA (ZR (Zf 0) Zl) (Zf 4)) (Zd (ZR (Zf 2) (Zf 4)) Zj))))))))
      (Ys (Zf 3))))
def Pr:NO K mg 1 c.Orders 2 (XZ c):=nOk T.b3 ["self","board"] λhr hu Sc=>(Zg (Tp T.a2 (Zf 1) (Zf 0))
      (Zq (Tp T.a2 WH (Zf 0))))
def ZU:MO K mg 2 c.Board "side_at" 2 (Zw c):=mOk T.b4 ["self","at"] λhr hu Sc=>(Zg (Z0 (ZX T.a1 (Z1 T) (Ym T.a0 (Zf 0)) (Zd (Zf 1) Zj)))
      (Ys (BD hu (Ym T.a0 (Zf 0)) (Zf 1))))
def X5:MO K mg 3 c.Board "need_unit" 2 (YA c):=mOk T.b5 ["self","at"] λhr hu Sc=>(Zq (Y1 (U0 (ZX T.a0 (ZU T) (Zf 0) (Zd (Zf 1) Zj))) (Zq (Td T.a7 (Vc (UH (Zf 1) Tf))))))
def QB:MO K mg 4 c.Orders "stand" 2 (Ve c):=mOk T.b6 ["self","at"] λhr hu Sc=>(Zg (Z0 (ZX T.a0 (X5 T) (Ym T.a2 (Zf 0)) (Zd (Zf 1) Zj)))
      (Zq (X0 hu (MG rfl T.ae) (Ym T.a2 (Zf 0)) (Zf 1))))
def Vf:MO K mg 4 c.Orders "need_all" 3 (YO c):=mOk T.b7 ["self","places","units","at"] λhr hu Sc=>(Zg (WR 3 (ZY (Zf 1)) (Zq (Z0 (ZX T.a1 (Z1 T) (Ym T.a0 (Ym T.a2 (Zf 0))) (Zd (Zf 3) Zj)))))
      (Zq (WR 3 (ZY (Zf 2)) (Zq (Z0 (ZX T.a0 (X5 T) (Ym T.a2 (Zf 0)) (Zd (Zf 3) Zj)))))))
def O2:MO K mg 2 c.Map "beside" 3 (UR c):=mOk T.b8 ["self","a","b"] λhr hu Sc=>(Zg (Z0 (ZX T.a1 (Z1 T) (Zf 0) (Zd (Zf 1) Zj)))
      (Zg (Z0 (ZX T.a1 (Z1 T) (Zf 0) (Zd (Zf 2) Zj)))
      (Ys (qe_din hu (Yz (Zd (Zf 1) (Zd (Zf 2) Zj))) (Ym T.a1 (Zf 0))))))
def Xr:MO K mg 3 c.Orders "need_beside" 3 (Z7 c):=mOk T.b9 ["self","at","goal"] λhr hu Sc=>(Zq (Y1 (Oa (Xz (ZX T.a1 (O2 T) (Ym T.a0 (Ym T.a2 (Zf 0))) (Zd (Zf 1) (Zd (Zf 2) Zj))))) (Zq (Td T.a8 (Vc (UH (Zf 2) (Vc (UH (Zf 1) Tf))))))))
def Pp:MO K mg 5 c.Orders "move" 3 (V7 c):=mOk T.ba ["self","at","goal"] λhr hu Sc=>(Zg (Z0 (ZX T.a2 (Vf T) (Zf 0) (Zd (RV (Zd (Zf 1) (Zd (Zf 2) Zj))) (Zd (RV (Zd (Zf 1) Zj)) Zj))))
      (Zg (Z0 (ZX T.a2 (Xr T) (Zf 0) (Zd (Zf 1) (Zd (Zf 2) Zj))))
      (Zq (X0 hu (Yz (Zd Xs (Zd (Zf 2) Zj))) (Ym T.a2 (Zf 0)) (Zf 1)))))
def OQ:MO K mg 5 c.Orders "aid" 4 (UG c):=mOk T.bb ["self","at","helped","goal"] λhr hu Sc=>(Zg (Z0 (ZX T.a2 (Vf T) (Zf 0) (Zd (RV (Zd (Zf 1) (Zd (Zf 2) (Zd (Zf 3) Zj)))) (Zd (RV (Zd (Zf 1) (Zd (Zf 2) Zj))) Zj))))
      (Zg (Y1 (XO hu (Zf 2) (Zf 1)) (Zq (Td T.a8 (Vc (UH (Zf 1) (Vc Tf))))))
      (Zg (Z0 (ZX T.a2 (Xr T) (Zf 0) (Zd (Zf 1) (Zd (Zf 3) Zj))))
      (Zg (Y1 (Uc hu (Zf 3) (Zf 2)) (Zq (Z0 (ZX T.a2 (Xr T) (Zf 0) (Zd (Zf 2) (Zd (Zf 3) Zj))))))
      (Zq (X0 hu (Yz (Zd Xs (Zd (Zf 2) (Zd (Zf 3) Zj)))) (Ym T.a2 (Zf 0)) (Zf 1)))))))
def Lq:GO K mg 6 "_law_give" 4 (VI c):=gOk T.bc ["orders","off","told","k","order"] λhr hu Sc=>(Zg (YZ 4 (ZR (Zf 2) (Zf 3)))
      (Zg (Y1 (U0 (Zf 4)) (Zq BP))
      (Zq (NA (XO hu (ZR (Zf 4) Zl) Xs) (Zq (Z0 (ZX T.a2 (QB T) (Zf 0) (Zd (XA (Zf 1) (Zf 3)) Zj)))) (Zq (NA (XO hu (ZR (Zf 4) Zl) Xs) (Zq (Z0 (ZX T.a2 (Pp T) (Zf 0) (Zd (XA (Zf 1) (Zf 3)) (Zd (XA (Zf 1) (ZR (Zf 4) Zl)) Zj))))) (Zq (Z0 (ZX T.a2 (OQ T) (Zf 0) (Zd (XA (Zf 1) (Zf 3)) (Zd (XA (Zf 1) (ZR (Zf 4) Zl)) (Zd (XA (Zf 1) (ZR (Zf 4) Zl)) Zj))))))))))))
def O0:GO K mg 7 "_law_given" 4 (XJ c):=gOk T.bd ["frame","links","sides","told","orders","k"] λhr hu Sc=>(Zg (YZ 4 (KH T.a2 (Pr T) (Zd (Z6 (OW T) (Zd (Zf 0) (Zd (Zf 1) (Zd (Zf 2) Zj)))) Zj)))
      (Zg (WR 5 (YB rfl T.ak (ZR (Zf 0) Zl)) (Zq (Z0 (Z6 (Lq T) (Zd (Zf 4) (Zd (ZR (Zf 0) Zl) (Zd (Zf 3) (Zd (Zf 5) Zj))))))))
      (Ys (Zf 4))))
def ZK:MO K mg 1 c.Orders "goal_of" 2 (Zo c):=mOk T.be ["self","at","order"] λhr hu Sc=>(Zg (YZ 2 (II hu (Ym T.a2 (Zf 0)) (Zf 1) (MG rfl T.ae)))
      (Zg (Y1 (XO hu (UL T.af (Zf 2) Zl) Xs) (Ys (UL T.af (Zf 2) Zl)))
      (Ys Lm)))
def Xh:MO K mg 2 c.Orders "movers" 1 (ZZ c):=mOk T.bf ["self"] λhr hu Sc=>(Ys (VP YE rfl T.am (Zd (Fq YE (cOk ["self"]) rfl (Ym T.a2 (Zf 0)) (λ_ _ _ _=>(YG (QR (ZX T.a2 (ZK T) (Zf 1) (Zd (Zf 0) Zj))))) (λ_ _ _ _=>(Zf 0))) Zj)))
def YH:MO K mg 1 c.Board "roll" 1 (ZM c):=mOk T.bg ["self"] λhr hu Sc=>(Ys (ND YE rfl rfl T.am (Ym T.a0 (Zf 0))))
def Vw:MO K mg 4 c.Orders "told" 2 (YK c):=mOk T.bh ["self","at"] λhr hu Sc=>(Zg (Z0 (ZX T.a0 (X5 T) (Ym T.a2 (Zf 0)) (Zd (Zf 1) Zj)))
      (Ys (II hu (Ym T.a2 (Zf 0)) (Zf 1) (MG rfl T.ae))))
def GX:GO K mg 5 "is_cut" 2 (Oe c):=gOk T.bi ["orders","at","order","own","comers"] λhr hu Sc=>(Zg (YZ 2 (ZX T.a2 (Vw T) (Zf 0) (Zd (Zf 1) Zj)))
      (Zg (Y1 (Uc hu (UL T.af (Zf 2) Zl) Xs) (Ys VN))
      (Zg (YZ 3 (ZX T.a0 (ZU T) (Ym T.a2 (Zf 0)) (Zd (Zf 1) Zj)))
      (Zg (WT 4 (cOk ["orders","at","own"]) (ZY (YR T.a2 (Xh T) (Zf 0))) (YG (PW.pt (Vq (XO hu (ZX T.a2 (ZK T) (Zf 1) (Zd (Zf 0) Zj)) (Zf 2)) (WZ (Uc hu (ZX T.a0 (ZU T) (Ym T.a2 (Zf 1)) (Zd (Zf 0) Zj)) (Zf 3)))))) (Zf 0))
      (Ys (Es rfl rfl T.ag LS (Zd (UX (cOk ["order"]) (ZY (Zf 4)) Y6 (DM hu (Zf 0) (UL T.af (Zf 1) Zl))) Zj)))))))
def Bx:GO K mg 2 "fits" 3 (Jw c):=gOk T.bj ["orders","helped","goal"] λhr hu Sc=>(Zg (Y1 (XO hu (Zf 2) (Zf 1)) (Ys (qe_isN (ZX T.a2 (ZK T) (Zf 0) (Zd (Zf 1) Zj)))))
      (Ys (SQ hu (ZX T.a2 (ZK T) (Zf 0) (Zd (Zf 1) Zj)) (Zf 2))))
def Gi:GO K mg 6 "counts" 2 (PH c):=gOk T.bk ["orders","at","order"] λhr hu Sc=>(Zg (YZ 2 (ZX T.a2 (Vw T) (Zf 0) (Zd (Zf 1) Zj)))
      (Ys (RQ (SQ hu (UL T.af (Zf 2) Zl) Xs) (RQ (Z6 (Bx T) (Zd (Zf 0) (Zd (UL T.af (Zf 2) Zl) (Zd (UL T.af (Zf 2) Zl) Zj)))) (NW (qe_not (Z6 (GX T) (Zd (Zf 0) (Zd (Zf 1) Zj)))))))))
def Ep:GO K mg 7 "backs" 3 (Mm c):=gOk T.bl ["orders","helper","at","order"] λhr hu Sc=>(Zg (YZ 3 (ZX T.a2 (Vw T) (Zf 0) (Zd (Zf 1) Zj)))
      (Ys (RQ (SQ hu (UL T.af (Zf 3) Zl) Xs) (RQ (SQ hu (UL T.af (Zf 3) Zl) (Zf 2)) (NW (Z6 (Gi T) (Zd (Zf 0) (Zd (Zf 1) Zj))))))))
def Sh:GO K mg 8 "backing" 2 (Ue c):=gOk T.bm ["orders","at"] λhr hu Sc=>(Ys (Ek YE (HZ ["helper","side"] ["orders","at"]) rfl (λ_ _ _ _=>Vy rfl (Yi (YX (i:=0) (show(["helper","side","orders","at"]:iD).Nodup by decide +kernel) rfl (Or.inl rfl)) (Yi (YX (i:=1) (show(["helper","side","orders","at"]:iD).Nodup by decide +kernel) rfl (Or.inl rfl)) Wh))) (ZY (YR T.a0 (YH T) (Ym T.a2 (Zf 0)))) (λ_ _ _ _=>(YG (Xz (Z6 (Ep T) (Zd (Zf 2) (Zd (Zf 0) (Zd (Zf 3) Zj))))))) (λ_ _ _ _=>(Zf 1))))
def FX:GO K mg 9 "force" 2 (Mq c):=gOk T.bn ["orders","at"] λhr hu Sc=>(Zg (Y1 (U0 (ZX T.a2 (ZK T) (Zf 0) (Zd (Zf 1) Zj))) (Ys Zl))
      (Ys (XA Zl (WU rfl T.ah (Zd (Z6 (Sh T) (Zd (Zf 0) (Zd (Zf 1) Zj))) Zj)))))
def QH:GO K mg 10 "weigh_movers" 1 (Wg c):=gOk T.bo ["orders","forces","at"] λhr hu Sc=>(Zg (YZ 1 WH)
      (Zg (WR 2 (ZY (YR T.a2 (Xh T) (Zf 0))) (Zq (X0 hu (Z6 (FX T) (Zd (Zf 0) (Zd (Zf 2) Zj))) (Zf 1) (Zf 2))))
      (Ys (Zf 1))))
def O3:GO K mg 2 "is_outdone" 3 (W3 c):=gOk T.bp ["orders","forces","at","goal","rivals"] λhr hu Sc=>(Zg (YZ 3 (ZX T.a2 (ZK T) (Zf 0) (Zd (Zf 2) Zj)))
      (Zg (Ke (j:=4) YE (cOk ["orders","at","goal"]) rfl (Zf 1) (λ_ _ _ _=>(YG (PW.pt (Vq (Uc hu (Zf 0) (Zf 2)) (WZ (XO hu (ZX T.a2 (ZK T) (Zf 1) (Zd (Zf 0) Zj)) (Zf 3))))))) (λ_ _ _ _=>(Zf 0)) Sc.nd rfl (Or.inl rfl) (by with_unfolding_all rfl))
      (Ys (Es rfl rfl T.ag LS (Zd (UX (cOk ["forces","at"]) (ZY (Zf 4)) Y6 (qe_ge (WD hu (Zf 1) (Zf 0)) (WD hu (Zf 1) (Zf 2)))) Zj)))))
def RJ:GO K mg 9 "force_against" 3 (WS c):=gOk T.bq ["orders","at","side"] λhr hu Sc=>(Zg (Y1 (U0 (ZX T.a2 (ZK T) (Zf 0) (Zd (Zf 1) Zj))) (Ys Zl))
      (Ys (XA Zl (WU rfl T.ah (Zd (UX (cOk ["side"]) (ZY (Z6 (Sh T) (Zd (Zf 0) (Zd (Zf 1) Zj)))) (YG (Uc hu (Zf 0) (Zf 1))) (Zf 0)) Zj)))))
def Rg:GO K mg 10 "overcomes" 4 (WL c):=gOk T.br ["orders","at","goal","strength","side"] λhr hu Sc=>(Zg (YZ 4 (ZX T.a0 (ZU T) (Ym T.a2 (Zf 0)) (Zd (Zf 2) Zj)))
      (Ys (RQ (DM hu (Zf 4) (ZX T.a0 (ZU T) (Ym T.a2 (Zf 0)) (Zd (Zf 1) Zj))) (NW (Ab (Z6 (RJ T) (Zd (Zf 0) (Zd (Zf 1) (Zd (Zf 4) Zj)))) (Zf 3))))))
def LD:GO K mg 9 "firmness" 2 (UF c):=gOk T.bs ["orders","at"] λhr hu Sc=>(Zg (Y1 (QR (ZX T.a2 (ZK T) (Zf 0) (Zd (Zf 1) Zj))) (Ys Zl))
      (Ys (XA Zl (WU rfl T.ah (Zd (Z6 (Sh T) (Zd (Zf 0) (Zd (Zf 1) Zj))) Zj)))))
def MS:GO K mg 11 "hindrance" 3 (Tm c):=gOk T.bt ["orders","forces","at","goal"] λhr hu Sc=>(Zg (YZ 3 (ZX T.a2 (ZK T) (Zf 0) (Zd (Zf 2) Zj)))
      (Zg (Y1 (Xz (Z6 (O3 T) (Zd (Zf 0) (Zd (Zf 1) (Zd (Zf 2) Zj))))) (Ys (To rfl T.ad)))
      (Zg (Y1 (U0 (ZX T.a0 (ZU T) (Ym T.a2 (Zf 0)) (Zd (Zf 3) Zj))) (Ys (To rfl T.aa)))
      (Zg (Y1 (XO hu (ZX T.a2 (ZK T) (Zf 0) (Zd (Zf 3) Zj)) (Zf 2)) (Ys (Dy (Xz (Z6 (Rg T) (Zd (Zf 0) (Zd (Zf 2) (Zd (Zf 3) (Zd (WD hu (Zf 1) (Zf 3)) Zj)))))) (To rfl T.aa) (To rfl T.a9))))
      (Ys (Dy (Xz (Z6 (Rg T) (Zd (Zf 0) (Zd (Zf 2) (Zd (Zf 3) (Zd (Z6 (LD T) (Zd (Zf 0) (Zd (Zf 3) Zj))) Zj)))))) (To rfl T.aa) (To rfl T.ab)))))))
def OY:GO K mg 12 "hindrances" 1 (W8 c):=gOk T.bu ["orders","forces","found","at"] λhr hu Sc=>(Zg (YZ 1 (Z6 (QH T) (Zd (Zf 0) Zj)))
      (Zg (YZ 2 WH)
      (Zg (Bu fU rfl (Zf 1) (qpg 3) (Nt 3) (Zq (X0 hu (Z6 (MS T) (Zd (Zf 0) (Zd (Zf 1) (Zd (Zf 3) Zj)))) (Zf 2) (Zf 3))))
      (Ys (Zf 2)))))
def Fo:GO K mg 2 "fault" 4 (M9 c):=gOk T.bv ["orders","found","at","places"] λhr hu Sc=>(Zg (Y1 (PW.pt (Vq (XO hu (WD hu (Zf 1) (Zf 2)) (To rfl T.ab)) (WZ (D0 (ZX T.a2 (ZK T) (Zf 0) (Zd (Zf 2) Zj)) (Zf 3))))) (Ys (To rfl T.aa)))
      (Ys (WD hu (Zf 1) (Zf 2))))
def JM:GO K mg 13 "strikes" 1 (Rq c):=gOk T.bw ["orders","found","left","struck","count","faults","fallen"] λhr hu Sc=>(Zg (YZ 1 (Z6 (OY T) (Zd (Zf 0) Zj)))
      (Zg (YZ 2 (YR T.a2 (Xh T) (Zf 0)))
      (Zg (YZ 3 (N4 Zj))
      (Zg (YZ 4 Zl)
      (Zq (FY 100 fU (Xz VN) (Zg (WT 5 (cOk ["orders","found","left","count"]) (ZY (Zf 2)) Y6 (Yz (Zd (Zf 4) (Zd (Zf 0) (Zd (Z6 (Fo T) (Zd (Zf 1) (Zd (Zf 2) (Zd (Zf 0) (Zd (Zf 3) Zj))))) Zj)))))
      (Zg (WT 6 (cOk []) (ZY (Zf 5)) (YG (Uc hu (ZR (Zf 0) Zl) (To rfl T.aa))) (Zf 0))
      (Zg (Y1 (XO hu (Zf 6) (RV Zj)) (Ys (Zf 3)))
      (Zg (Z0 (GW (Zf 3) (Zf 6)))
      (Zg (YZ 2 (UX (cOk []) (ZY (Zf 5)) (YG (XO hu (ZR (Zf 0) Zl) (To rfl T.aa))) (ZR (Zf 0) Zl)))
      (Zq (YZ 4 (XA (Zf 4) Zl))))))))))))))
def Kx:GO K mg 13 "strikes" 1 (UP c):=GO.tidy (JM T)
def Io:GO K mg 14 "settled" 1 (TB c):=gOk T.bx ["orders","struck"] λhr hu Sc=>(Zg (YZ 1 (UX (cOk []) (ZY (Z6 (Kx T) (Zd (Zf 0) Zj))) Y6 (ZR (Zf 0) Zl)))
      (Ys (UX (cOk ["struck"]) (ZY (YR T.a2 (Xh T) (Zf 0))) (YG (Lf (Zf 0) (Zf 1))) (Zf 0))))
def Pv:GO K mg 2 "units_after" 3 (WF c):=gOk T.bz ["board","goals","comers","moved","stayed"] λhr hu Sc=>(Zg (WQ (j:=3) YE (HZ ["at","side"] ["goals"]) rfl (λ_ _ _ _=>Vy rfl (Yi (YX (i:=0) (show(["at","side","goals"]:iD).Nodup by decide +kernel) rfl (Or.inl rfl)) (Yi (YX (i:=1) (show(["at","side","goals"]:iD).Nodup by decide +kernel) rfl (Or.inl rfl)) Wh))) (ZY (YR T.a0 (YH T) (Zf 0))) (λ_ _ _ _=>(YG (P3 hu (Zf 0) (Zf 2)))) (λ_ _ _ _=>(Yz (Zd (WD hu (Zf 2) (Zf 0)) (Zd (Zf 1) Zj)))) Sc.nd rfl (Or.inl rfl) (by with_unfolding_all rfl))
      (Zg (WQ (j:=4) YE (HZ ["at","side"] ["goals","comers"]) rfl (λ_ _ _ _=>Vy rfl (Yi (YX (i:=0) (show(["at","side","goals","comers"]:iD).Nodup by decide +kernel) rfl (Or.inl rfl)) (Yi (YX (i:=1) (show(["at","side","goals","comers"]:iD).Nodup by decide +kernel) rfl (Or.inl rfl)) Wh))) (ZY (YR T.a0 (YH T) (Zf 0))) (λ_ _ _ _=>(YG (PW.pt (Vq (Rj hu (Zf 0) (Zf 2)) (WZ (Rj hu (Zf 0) (Zf 3))))))) (λ_ _ _ _=>(Yz (Zd (Zf 0) (Zd (Zf 1) Zj)))) Sc.nd rfl (Or.inl rfl) (by with_unfolding_all rfl))
      (Ys (Le (Zf 3) (Zf 4)))))
def UU:GO K mg 3 "posted_board" 2 (Xf c):=gOk T.c0 ["chart","units","board","at","side"] λhr hu Sc=>(Zg (YZ 2 (KH T.a0 (TQ T) (Zd (Zf 0) Zj)))
      (Zg (FJ (ZY (Zf 1)) (Vy rfl (Yi (qpg 3) (Yi (qpg 4) Wh))) (S4 [3,4]) (Zq (Z0 (ZX T.a0 (TW T) (Zf 2) (Zd (Zf 3) (Zd (Zf 4) Zj))))))
      (Ys (Zf 2))))
def NZ:NO K mg 15 c.Turn 2 (Wc c):=nOk T.c1 ["self","orders","at","side","wanted"] λhr hu Sc=>(Zg (Tp T.a3 WH (Zf 0))
      (Zg (Tp T.a3 WH (Zf 0))
      (Zg (WR 2 (ZY (Z6 (Io T) (Zd (Zf 1) Zj))) (Zg (X0 hu (ZX T.a2 (ZK T) (Zf 1) (Zd (Zf 2) Zj)) (Ym T.a3 (Zf 0)) (Zf 2))
      (Zq (X0 hu (Zf 2) (Ym T.a3 (Zf 0)) (ZX T.a2 (ZK T) (Zf 1) (Zd (Zf 2) Zj))))))
      (Zg (Tp T.a3 WH (Zf 0))
      (Zg (FJ (ZY (YR T.a0 (YH T) (Ym T.a2 (Zf 1)))) (Vy rfl (Yi (qpg 2) (Yi (qpg 3) Wh))) (S4 [2,3]) (Zq (Y1 (PW.pt (Vq (P3 hu (Zf 2) (Ym T.a3 (Zf 0))) (WZ (Rj hu (Zf 2) (Ym T.a3 (Zf 0)))))) (Zq (X0 hu (Zf 3) (Ym T.a3 (Zf 0)) (Zf 2))))))
      (Zg (WT 4 (cOk ["orders"]) (ZY (YR T.a2 (Xh T) (Zf 1))) Y6 (ZX T.a2 (ZK T) (Zf 1) (Zd (Zf 0) Zj)))
      (Zg (Tp T.a3 (Ik YE rfl rfl T.am rfl T.al (Zf 4) (Ym T.a3 (Zf 0))) (Zf 0))
      (Zq (Tp T.a3 (Z6 (UU T) (Zd (Ym T.a0 (Ym T.a2 (Zf 1))) (Zd (Z6 (Pv T) (Zd (Ym T.a2 (Zf 1)) (Zd (Ym T.a3 (Zf 0)) (Zd (Ym T.a3 (Zf 0)) Zj)))) Zj))) (Zf 0))))))))))
def Y8:MO K mg 1 c.Turn "aside" 1 (ZN c):=mOk T.c2 ["self"] λhr hu Sc=>(Ys (UX (cOk ["self"]) (ZY (KI YE rfl rfl T.am (Zd (Ym T.a3 (Zf 0)) Zj))) Y6 (Yz (Zd (Zf 0) (Zd (WD hu (Ym T.a3 (Zf 1)) (Zf 0)) (Zd (WD hu (Ym T.a3 (Zf 1)) (Zf 0)) Zj))))))
def US:MO K mg 1 c.Turn "done" 1 (Y5 c):=mOk T.c3 ["self"] λhr hu Sc=>(Ys (ND YE rfl rfl T.am (Ym T.a3 (Zf 0))))
def Pz:GO K mg 3 "_law_pushed" 2 (XU c):=gOk T.c4 ["orders","turn","row"] λhr hu Sc=>(Zg (WR 2 (ZY (YR T.a3 (Y8 T) (Zf 1))) (Zg (Y1 (PW.pt (On (BH hu (Yz (Zd (ZR (Zf 2) Zl) (Zd (ZR (Zf 2) Zl) Zj))) (YR T.a3 (US T) (Zf 1))) (Su (Uc hu (ZX T.a0 (ZU T) (Ym T.a2 (Zf 0)) (Zd (ZR (Zf 2) Zl) Zj)) (ZR (Zf 2) Zl))))) (Ys VN))
      (Zq (Y1 (PW.pt (On (U0 (ZX T.a0 (ZU T) (Ym T.a2 (Zf 0)) (Zd (ZR (Zf 2) Zl) Zj))) (Su (XO hu (ZX T.a0 (ZU T) (Ym T.a2 (Zf 0)) (Zd (ZR (Zf 2) Zl) Zj)) (ZR (Zf 2) Zl))))) (Ys VN)))))
      (Ys VN))
def Pg:GO K mg 3 "_law_stands" 2 (XT c):=gOk T.c5 ["orders","turn","leaving","away","pair"] λhr hu Sc=>(Zg (WT 2 (cOk []) (ZY (YR T.a3 (US T) (Zf 1))) Y6 (ZR (Zf 0) Zl))
      (Zg (WT 3 (cOk []) (ZY (YR T.a3 (Y8 T) (Zf 1))) Y6 (ZR (Zf 0) Zl))
      (Zg (WR 4 (ZY (YR T.a0 (YH T) (Ym T.a2 (Zf 0)))) (Zq (Y1 (PW.pt (Vq (Lf (ZR (Zf 4) Zl) (Zf 2)) (Vq (Lf (ZR (Zf 4) Zl) (Zf 3)) (WZ (Uc hu (ZX T.a0 (ZU T) (Ym T.a3 (Zf 1)) (Zd (ZR (Zf 4) Zl) Zj)) (ZR (Zf 4) Zl)))))) (Ys VN))))
      (Zg (WR 4 (ZY (YR T.a3 (US T) (Zf 1))) (Zq (Y1 (Uc hu (ZX T.a0 (ZU T) (Ym T.a3 (Zf 1)) (Zd (ZR (Zf 4) Zl) Zj)) (ZX T.a0 (ZU T) (Ym T.a2 (Zf 0)) (Zd (ZR (Zf 4) Zl) Zj))) (Ys VN))))
      (Ys VN)))))
def XD:GO K mg 1 "_law_sorted" 1 (Yd c):=gOk T.c6 ["rows"] λhr hu Sc=>(Ys (VP YE rfl T.am (Zd (UX (cOk []) (ZY (Zf 0)) Y6 (ZR (Zf 0) Zl)) Zj)))
def Vd:MO K mg 1 c.Turn "need_aside" 2 (Y4 c):=mOk T.c7 ["self","at"] λhr hu Sc=>(Zq (Y1 (Rj hu (Zf 1) (Ym T.a3 (Zf 0))) (Zq (Td T.a7 (Vc (UH (Zf 1) Tf))))))
def Jk:MO K mg 2 c.Map "near" 2 (Vh c):=mOk T.c8 ["self","a"] λhr hu Sc=>(Zg (Z0 (ZX T.a1 (Z1 T) (Zf 0) (Zd (Zf 1) Zj)))
      (Ys (UX (cOk ["self","a"]) (YB rfl T.ak (Ym T.a1 (Zf 0))) (YG (P3 hu (Yz (Zd (Zf 2) (Zd (Zf 0) Zj))) (Ym T.a1 (Zf 1)))) (Zf 0))))
def U1:MO K mg 3 c.Turn "may_go" 2 (Xp c):=mOk T.c9 ["self","at","empty"] λhr hu Sc=>(Zg (Z0 (ZX T.a1 (Z1 T) (Ym T.a0 (Ym T.a3 (Zf 0))) (Zd (Zf 1) Zj)))
      (Zg (Z0 (ZX T.a3 (Vd T) (Zf 0) (Zd (Zf 1) Zj)))
      (Zg (WT 2 (cOk ["self"]) (ZY (ZX T.a1 (Jk T) (Ym T.a0 (Ym T.a3 (Zf 0))) (Zd (Zf 1) Zj))) (YG (U0 (ZX T.a0 (ZU T) (Ym T.a3 (Zf 1)) (Zd (Zf 0) Zj)))) (Zf 0))
      (Ys (UX (cOk ["self","at"]) (ZY (Zf 2)) (YG (PW.pt (Vq (Uc hu (Zf 0) (WD hu (Ym T.a3 (Zf 1)) (Zf 2))) (WZ (Lf (Zf 0) (Ym T.a3 (Zf 1))))))) (Zf 0))))))
def O4:GO K mg 2 "check_told" 2 (W9 c):=gOk T.ca ["turn","told","at","goal"] λhr hu Sc=>(Zg (FJ (ZY (Zf 1)) (Vy rfl (Yi (qpg 2) (Yi (qpg 3) Wh))) (S4 [2,3]) (Zg (Z0 (ZX T.a1 (Z1 T) (Ym T.a0 (Ym T.a3 (Zf 0))) (Zd (Zf 2) Zj)))
      (Zq (Z0 (ZX T.a1 (Z1 T) (Ym T.a0 (Ym T.a3 (Zf 0))) (Zd (Zf 3) Zj))))))
      (Zq (FJ (ZY (Zf 1)) (Vy rfl (Yi (qpg 2) (Yi (qpg 3) Wh))) (S4 [2,3]) (Zq (Z0 (ZX T.a3 (Vd T) (Zf 0) (Zd (Zf 2) Zj)))))))
def FK:GO K mg 4 "after" 2 (QY c):=gOk T.cb ["turn","told","goals","goers","at","goal","went","lost"] λhr hu Sc=>(Zg (Z0 (Z6 (O4 T) (Zd (Zf 0) (Zd (Zf 1) Zj))))
      (Zg (WQ (j:=2) YE (HZ ["at","goal"] []) rfl (λ_ _ _ _=>Vy rfl (Yi (YX (i:=0) (show(["at","goal"]:iD).Nodup by decide +kernel) rfl (Or.inl rfl)) (Yi (YX (i:=1) (show(["at","goal"]:iD).Nodup by decide +kernel) rfl (Or.inl rfl)) Wh))) (ZY (Zf 1)) (λ_ _ _ _=>Y6) (λ_ _ _ _=>(Zf 1)) Sc.nd rfl (Or.inl rfl) (by with_unfolding_all rfl))
      (Zg (YZ 3 WH)
      (Zg (FJ (ZY (Zf 1)) (Vy rfl (Yi (qpg 4) (Yi (qpg 5) Wh))) (S4 [4,5]) (Zq (Y1 (PW.pt (Vq (XO hu (Ez (Zf 2) (Zf 5)) Zl) (WZ (D0 (Zf 5) (ZX T.a3 (U1 T) (Zf 0) (Zd (Zf 4) Zj)))))) (Zq (X0 hu (Zf 5) (Zf 3) (Zf 4))))))
      (Zg (WQ (j:=6) YE (HZ ["at","side","source"] ["goers"]) rfl (λ_ _ _ _=>Vy rfl (Yi (YX (i:=0) (show(["at","side","source","goers"]:iD).Nodup by decide +kernel) rfl (Or.inl rfl)) (Yi (YX (i:=1) (show(["at","side","source","goers"]:iD).Nodup by decide +kernel) rfl (Or.inl rfl)) (Yi (YX (i:=2) (show(["at","side","source","goers"]:iD).Nodup by decide +kernel) rfl (Or.inl rfl)) Wh)))) (ZY (YR T.a3 (Y8 T) (Zf 0))) (λ_ _ _ _=>(YG (P3 hu (Zf 0) (Zf 3)))) (λ_ _ _ _=>(Yz (Zd (WD hu (Zf 3) (Zf 0)) (Zd (Zf 1) Zj)))) Sc.nd rfl (Or.inl rfl) (by with_unfolding_all rfl))
      (Zg (WQ (j:=7) YE (HZ ["at","side","source"] ["goers"]) rfl (λ_ _ _ _=>Vy rfl (Yi (YX (i:=0) (show(["at","side","source","goers"]:iD).Nodup by decide +kernel) rfl (Or.inl rfl)) (Yi (YX (i:=1) (show(["at","side","source","goers"]:iD).Nodup by decide +kernel) rfl (Or.inl rfl)) (Yi (YX (i:=2) (show(["at","side","source","goers"]:iD).Nodup by decide +kernel) rfl (Or.inl rfl)) Wh)))) (ZY (YR T.a3 (Y8 T) (Zf 0))) (λ_ _ _ _=>(YG (Rj hu (Zf 0) (Zf 3)))) (λ_ _ _ _=>(Zf 0)) Sc.nd rfl (Or.inl rfl) (by with_unfolding_all rfl))
      (Ys (Yz (Zd (Z6 (UU T) (Zd (Ym T.a0 (Ym T.a3 (Zf 0))) (Zd (Le (YR T.a0 (YH T) (Ym T.a3 (Zf 0))) (Zf 6)) Zj))) (Zd (Zf 7) Zj))))))))))
def ok_law{f:Addr}{fd:FuncData}(F:Fun K "law" "law" Ea f fd):FnO K mg 17 f fd ["script"] 1 (B1 c):=IQ (N:=["script","world","orders","turn","all_units","told","row","free","found","lost"]) F ⟨rfl,rfl,rfl,by decide +kernel,rfl,by decide +kernel,by decide +kernel⟩ λhr hu Sc=>(Zg (YZ 1 (Z6 (OK T) (Zd (Zf 0) Zj)))
      (Zg (YZ 2 (Z6 (O0 T) (Zd (ZR (Zf 1) Zl) (Zd (ZR (Zf 1) Zl) (Zd (ZR (Zf 1) Zl) (Zd (ZR (Zf 1) Zl) Zj))))))
      (Zg (YZ 3 (KH T.a3 (NZ T) (Zd (Zf 2) Zj)))
      (Zg (Y1 (PW.pt (On (Oa (Xz (Z6 (Pg T) (Zd (Zf 2) (Zd (Zf 3) Zj))))) (Su (Oa (Xz (Z6 (Pz T) (Zd (Zf 2) (Zd (Zf 3) Zj)))))))) (Ys VN))
      (Zg (YZ 4 (Z6 (XD T) (Zd (YR T.a0 (YH T) (Ym T.a2 (Zf 2))) Zj)))
      (Zg (Y1 (Uc hu (VP YE rfl T.am (Zd (Le (Z6 (XD T) (Zd (YR T.a0 (YH T) (Ym T.a3 (Zf 3))) Zj)) (Z6 (XD T) (Zd (YR T.a3 (Y8 T) (Zf 3)) Zj))) Zj)) (Zf 4)) (Ys VN))
      (Bn (YZ 5 (N4 Zj)) (WR 6 (ZY (YR T.a3 (Y8 T) (Zf 3))) (Zg (YZ 7 (ZX T.a3 (U1 T) (Zf 3) (Zd (ZR (Zf 6) Zl) Zj)))
      (Zq (NA (XO hu (Zf 7) (RV Zj)) (Zq (Z0 (Uq (Zf 5) (Yz (Zd (ZR (Zf 6) Zl) (Zd Zl Zj)))))) (Zq (Z0 (Uq (Zf 5) (Yz (Zd (ZR (Zf 6) Zl) (Zd (ZR (Zf 7) (Y2 (Z6 (Z3 T) (Zd (Zf 0) (Zd Zl Zj))) (WU rfl T.ah (Zd (Zf 7) Zj)))) Zj))))))))))
      (Zg (YZ 8 (Z6 (FK T) (Zd (Zf 3) (Zd (Zf 5) Zj))))
      (Zg (WT 9 (cOk ["found"]) (ZY (YR T.a3 (Y8 T) (Zf 3))) (YG (D0 (ZR (Zf 0) Zl) (ZR (Zf 1) Zl))) (Zf 0))
      (Zg (Y1 (Uc hu (WU rfl T.ah (Zd (Zf 9) Zj)) (WU rfl T.ah (Zd (ZR (Zf 8) Zl) Zj))) (Ys VN))
      (Ys (SQ hu (VP YE rfl T.am (Zd (Le (Z6 (XD T) (Zd (YR T.a0 (YH T) (ZR (Zf 8) Zl)) Zj)) (Z6 (XD T) (Zd (Zf 9) Zj))) Zj)) (Zf 4)))))))))))))
end
def ypkF{K:W.Frag}:∀{l:List yRF},J3 K l=l.map JD->∀(i:Nat) {C:Option Addr} {n q:Str} {f:Addr} {s:Stmt},nth l i=some (C,n,f,q,s)->(ylk K C n,W.isFn K (.ref f)&&W.keepIn K (.ref f),fnV K f q)=JD (C,n,f,q,s)
 |_::_,h,0,_,_,_,_,_,e=>by cases e;exact(dJ h).1
 |_::_,h,i+1,_,_,_,_,_,e=>ypkF (dJ h).2 i e
def Em{K:W.Frag}:∀{l:List yRN},EA K l=l.map (λr=>some r.2.2)->∀(i:Nat) {C:Option Addr} {n:Str} {v:iG},nth l i=some (C,n,v)->ylk K C n=some v
 |_::_,h,0,_,_,_,e=>by cases e;exact(dJ h).1
 |_::_,h,i+1,_,_,_,e=>Em (dJ h).2 i e
def ypkI{K:W.Frag}:∀{l:List (Str × Int)},CF K l=l.map (λr=>some r.2)->∀(i:Nat) {n:Str} {v:Int},nth l i=some (n,v)->Bv (W.nsIn K mainGlobals n)=some v
 |_::_,h,0,_,_,e=>by cases e;exact(dJ h).1
 |_::_,h,i+1,_,_,e=>ypkI (dJ h).2 i e
section
variable{K:W.Frag}{h:Heap}{mg:g7}{n q:Str}{f C:Addr}{s:Stmt}{ps:iD}
abbrev yBg(n q:Str)(s:Stmt)(ps:iD):Prop:=∀(kV doc pm:Value) (an:Option Addr) (i9 ct:Value) (us:iA),us.length=ps.length->bindArgs (W.fnOf n q (QW s) (UD s) (YF s) .none kV doc pm an i9 ct) ⟨us,[]⟩=pure (ps.zip us)
def yfF{o:Option Addr}(g:J3 K ytF=ytF.map JD)(i:Nat)(e:nth ytF i=some (o,n,f,q,s))(b:yBg n q s ps):ylk K o n=some (some (.ref f))∧W.isFn K (.ref f)=true∧W.keepIn K (.ref f)=true∧∃fd,Fun K n q s f fd∧Binds K fd ps []:=by
 obtain⟨h1,h2⟩:=d7 (ypkF g i e);obtain⟨h2,h3⟩:=d7 h2;obtain⟨h2,h4⟩:=bH.mp h2;obtain⟨h5,h6⟩:=CB h3;have F:Fun K n q s f _:=⟨⟨_,_,_,_,_,_,_,_,_,rfl,h5,h6⟩,h4⟩;exact⟨h1,h2,h4,_,F,F.binds b⟩
def ygF(X:K.In h)(G:h.Ns mainGlobals mg)(g:J3 K ytF=ytF.map JD)(i:Nat)(e:nth ytF i=some (none,n,f,n,s))(b:yBg n n s ps:=by first|exact(λ_ _ _ _ _ _ us hl=>match us,hl with|[_,_],_=>rfl)|exact(λ_ _ _ _ _ _ us hl=>match us,hl with|[_,_,_],_=>rfl)|exact(λ_ _ _ _ _ _ us hl=>match us,hl with|[_],_=>rfl)|exact(λ_ _ _ _ _ _ us hl=>match us,hl with|[_,_,_,_],_=>rfl)):GF K mg n s ps:=by
 obtain⟨a,_,c,fd,F,B⟩:=yfF g i e b;exact⟨f,fd,F,B,W.mg_of X G a,c⟩
def ymF(g:J3 K ytF=ytF.map JD)(i:Nat)(e:nth ytF i=some (some C,n,f,q,s))(b:yBg n q s ps:=by first|exact(λ_ _ _ _ _ _ us hl=>match us,hl with|[_,_],_=>rfl)|exact(λ_ _ _ _ _ _ us hl=>match us,hl with|[_,_,_],_=>rfl)|exact(λ_ _ _ _ _ _ us hl=>match us,hl with|[_],_=>rfl)|exact(λ_ _ _ _ _ _ us hl=>match us,hl with|[_,_,_,_],_=>rfl)):MF K C n q s ps:=by
 obtain⟨a,b,c,fd,F,B⟩:=yfF g i e b;exact⟨f,fd,F,B,⟨a,b,c⟩⟩
abbrev yCC(K:W.Frag)(C:Addr):Prop:=W.plainGet K C Str.empty=true∧W.hasDictIn K C=true∧W.plainOver K C=true∧W.makesIn K C=true∧W.keepIn K (.ref C)=true
def ynF(g:J3 K ytF=ytF.map JD)(i:Nat)(c:yCC K C)(e:nth ytF i=some (yrM C "__init__" f q s))(b:yBg "__init__" q s ps:=by exact(λ_ _ _ _ _ _ us hl=>match us,hl with|[_,_],_=>rfl)):NF K C q s ps:=by
 obtain⟨a,b,_,fd,F,B⟩:=yfF g i e b;exact⟨f,fd,F,B,⟨c.2.2.2.1,a,b,c.2.2.2.2⟩⟩
def ymN(X:K.In h)(G:h.Ns mainGlobals mg)(g:EA K ytN=ytN.map λr=>some r.2.2)(i:Nat){v:iG}(e:nth ytN i=some (none,n,v)):mg n=v:=by
 cases v with
 |none=>exact W.mg_none_of X G (Em g i e)
 |some v=>exact W.mg_of X G (Em g i e)
def ymI(X:K.In h)(G:h.Ns mainGlobals mg)(g:CF K ytI=ytI.map λr=>some r.2)(i:Nat){v:Int}(e:nth ytI i=some (n,v)):∃t,mg n=some (.int v t):=by
 obtain⟨t,a⟩:=int_l (ypkI g i e);exact⟨t,W.mg_of X G a⟩
def yaC(X:K.In h)(G:h.Ns mainGlobals mg)(g:EA K ytN=ytN.map λr=>some r.2.2)(i:Nat)(c:yCC K C){fs:iD}(e:nth ytN i=some (ynC n C):=by rfl)(e2:nth ytN (i+1)=some (ynS C):=by rfl)(a:fs.foldr (λf (p:Nat->Prop) j=>nth ytN j=some (some C,f,none)∧p (j+1)) (λ_=>True) (i+2):=by repeat (first|trivial|refine⟨rfl,?_⟩)):AtC K mg C n fs:=
 ⟨⟨c.1,c.2.1,c.2.2.1,Em g _ e2⟩,ymN X G g i e,by
  clear e e2;revert a;generalize i+2=k;intro a
  induction fs generalizing k with
  |nil=>intro f m;cases m
  |cons y fs ih=>intro f m;cases m with
   |head=>exact Em g k a.1
   |tail _ m=>exact ih _ a.2 f m⟩
end
def gk_F{l:W.OpenLaw}{w:World}{K:W.Frag}{h:Heap}{mg:g7}{fa:Addr}(g:GK K)(X:K.In h)(G:h.Ns mainGlobals mg)(oC:mg "law"=some (.ref fa)):∃fd:FuncData,(∀(s:Shared) (v:Value),BindsTo s fd ⟨[v],[]⟩ [("script",v)])∧∀base:Heap,K.In base->base.Ns mainGlobals mg->FnOk l.prog w K mg base (CXw l.prog w) 17 fa fd ["script"] (A8 K):=by
 obtain⟨g0,g⟩:=d7 g;obtain⟨g1,g⟩:=d7 g;obtain⟨g2,g⟩:=d7 g;obtain⟨g3,g⟩:=d7 g;obtain⟨_,_,_,_,g4⟩:=tup_l g;unfold yobB at g2;simp only[cf,de]at g2;have T:All K mg ⟨367,146,443,308,31,44,56,68,80,92,372,λC D=>(W.kitOne K (.ref C) D).getD false,λO C=>decide (W.exmOne K (.ref C) (.ref O)=some true)⟩:=⟨yaC X G g1 0 (g2.1 _ (.head _)),yaC X G g1 4 (g2.1 _ (.tail _ (.head _))),yaC X G g1 8 (g2.1 _ (.tail _ (.tail _ (.head _)))),yaC X G g1 12 (g2.1 _ (.tail _ (.tail _ (.tail _ (.head _))))),⟨g2.2.1 _ (.head _),ymN X G g1 19 rfl⟩,⟨g2.2.1 _ (.tail _ (.head _)),ymN X G g1 20 rfl⟩,⟨g2.2.1 _ (.tail _ (.tail _ (.head _))),ymN X G g1 21 rfl⟩,⟨g2.2.1 _ (.tail _ (.tail _ (.tail _ (.head _)))),ymN X G g1 22 rfl⟩,⟨g2.2.1 _ (.tail _ (.tail _ (.tail _ (.tail _ (.head _))))),ymN X G g1 23 rfl⟩,ymI X G g3 0 rfl,ymI X G g3 1 rfl,ymI X G g3 2 rfl,ymI X G g3 3 rfl,ymI X G g3 4 rfl,ymN X G g1 24 rfl,GTup.of g4,ymN X G g1 25 rfl,ymN X G g1 26 rfl,ymN X G g1 27 rfl,ymN X G g1 28 rfl,ymN X G g1 29 rfl,ymN X G g1 30 rfl,ymN X G g1 31 rfl,ygF X G g0 0 rfl,ygF X G g0 1 rfl,ygF X G g0 2 rfl,ygF X G g0 3 rfl,ygF X G g0 4 rfl,ygF X G g0 5 rfl,ygF X G g0 6 rfl,ynF g0 7 (g2.1 _ (.tail _ (.head _))) rfl,ymF g0 8 rfl,ymF g0 9 rfl,ygF X G g0 10 rfl,ynF g0 11 (g2.1 _ (.head _)) rfl,ymF g0 12 rfl,ygF X G g0 13 rfl,ynF g0 14 (g2.1 _ (.tail _ (.tail _ (.head _)))) rfl,ymF g0 15 rfl,ymF g0 16 rfl,ymF g0 17 rfl,ymF g0 18 rfl,ymF g0 19 rfl,ymF g0 20 rfl,ymF g0 21 rfl,ymF g0 22 rfl,ygF X G g0 23 rfl,ygF X G g0 24 rfl,ymF g0 25 rfl,ymF g0 26 rfl,ymF g0 27 rfl,ymF g0 28 rfl,ygF X G g0 29 rfl,ygF X G g0 30 rfl,ygF X G g0 31 rfl,ygF X G g0 32 rfl,ygF X G g0 33 rfl,ygF X G g0 34 rfl,ygF X G g0 35 rfl,ygF X G g0 36 rfl,ygF X G g0 37 rfl,ygF X G g0 38 rfl,ygF X G g0 39 rfl,ygF X G g0 40 rfl,ygF X G g0 41 rfl,ygF X G g0 42 rfl,ygF X G g0 43 rfl,ygF X G g0 44 rfl,ygF X G g0 45 rfl,ygF X G g0 46 rfl,ynF g0 47 (g2.1 _ (.tail _ (.tail _ (.tail _ (.head _))))) rfl,ymF g0 48 rfl,ymF g0 49 rfl,ygF X G g0 50 rfl,ygF X G g0 51 rfl,ygF X G g0 52 rfl,ymF g0 53 rfl,ymF g0 54 rfl,ymF g0 55 rfl,ygF X G g0 56 rfl,ygF X G g0 57 rfl,ygF X G g0 58 rfl⟩;obtain⟨f,fd,F,B,e,_⟩:=T.cc;obtain rfl:f=fa:=by rw[oC]at e;cases e;rfl
 refine⟨fd,?_,λbase _ _=>Cb g2.2.2 (ok_law T F _ _ base) (FQ _)⟩;obtain⟨oc,od,kV,doc,pm,an,i9,ct,kX,rfl,_⟩:=F.ex;exact λs v=>.of_eq rfl
def walk{l:W.OpenLaw}{q:Program}{loose:iD}{XP:(g7)->Heap->Prop}{d:DefRec}(hn:l.most=some 63)(lZ:d.params.defaults=[])(hd:d.name="law"):W.WalkO q loose XP (W.Hook.says hook) l.row.toRowW d [] (λf vs=>PySem.call f vs):=by
 refine Att.attach_call hn lZ λw s₀ iq mg mb fa o pm cd doc a vs ns G Y ho jY jL lK kJ jQ im hg=>?_
 obtain⟨K,KX,g⟩:=Y;rw[hd]at lK;obtain⟨fd,hb,hF⟩:=gk_F (l:=l) (w:=w) g KX G.T.g lK;exact Dn KX G.T.g G.T.b G.T.builtins G.T.nolimit hg kJ jQ (bF im (by decide)) ⟨rfl,by decide,by decide⟩ hF hb (λH hO hS=>⟨a,ns,rfl,hS,im,λ_=>rfl⟩) λH e s' ⟨_,_,_,_,_,z⟩=>z
end MP
open PySem PySem.W PyProof.Rows
set_option maxRecDepth 100000 in
set_option maxHeartbeats 0 in
theorem PySem.Challenge.cw_atonce_k15_whole_nobody_lost_holds : PySem.Challenge.rw_atonce_k15_whole_nobody_lost.Holds := by
 w_on; o_law
 refine PySem.W.holds_open (q:=MP.view) (loose:=[]) (XP:=PySem.W.XL MP.view []) MP.run (PySem.W.Hook.of MP.hook) (PySem.W.Hook.keeps MP.hook) (λs e=>PySem.W.xl_of s (bH.mp e).1) PySem.W.XL.keeps (by rfl) (by rfl) (by rfl) (λs e=>PySem.W.recFacts_of (bH.mp e).2) (by rfl) (by first|assumption|decide +kernel) (by decide +kernel) ⟨rfl,rfl,rfl,rfl,rfl,by decide +kernel⟩ ?hw ?hc
 case hw=>w_witness2
 case hc=>exact MP.walk (l:=PySem.Challenge.rw_atonce_k15_whole_nobody_lost) rfl rfl rfl
