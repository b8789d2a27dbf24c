import PyProof.Rows.All
import KE.KIsAll
import OpenK.KLine
import KE.KItem
import OpenK.KRaise
import OpenK.KOwn
import KE.LcSums
import KE.KSortAsk
import KE.KTryMore
import KE.KItemsList
import KE.KSortTup
import Lean
import PyProof.EqAt
import PyProof.EqKinds
import PyProof.TupleCall
import PySem.Challenge.RW_atonce_k17_refused_questions
set_option compiler.extract_closed false
set_option Elab.async false
set_option linter.all false
set_option maxRecDepth 100000
set_option maxHeartbeats 4000000
theorem wsd9:PySem.W.OpenLaw.wellSaid PySem.Challenge.rw_atonce_k17_refused_questions=true:=by kernel_rfl
abbrev aA:=@PySem.wpAny_bind
abbrev aB:=@List.length_map
abbrev aC:=@if_pos
abbrev aD:=@if_neg
abbrev aE:=@PySem.wpAny_pure
abbrev aF:=@Bool.false_ne_true
abbrev aG:=@decide_eq_false
abbrev aH:=@List.lookup_cons
abbrev aI:=@List.length_filter_le
abbrev aJ:=@List.getElem?_eq_some_iff
abbrev aK:=@List.getElem?_eq_getElem
abbrev aL:=@PySem.Heap.get?_push_of_some
abbrev aM:=@Nat.le_refl
abbrev aN:=@List.mem_cons
abbrev aO:=@Option.isSome_iff_exists
abbrev aP:=@PySem.Heap.lt_size
abbrev aQ:=@List.mem_filter
abbrev aR:=@Array.length_toList
abbrev aS:=@List.map_cons
abbrev aT:=@List.getD_eq_getElem?_getD
abbrev aU:=@beq_eq_false_iff_ne
abbrev aV:=@List.length_append
abbrev aW:=@PySem.Heap.get?_push_size
abbrev aX:=@Nat.ne_of_lt
abbrev aY:=@List.mem_map
abbrev aZ:=@List.getElem?_append_left
abbrev bA:=@List.map_map
abbrev bB:=@List.getElem?_map
abbrev bC:=@of_decide_eq_true
abbrev bD:=@List.size_toArray
abbrev bE:=@Nat.lt_of_lt_of_le
abbrev bF:=@List.append_nil
abbrev bG:=@decide_eq_true
abbrev bH:=@List.contains_iff_mem
abbrev bI:=@List.length_cons
abbrev bJ:=@List.getElem?_set_ne
abbrev bK:=@List.getElem?_append_right
abbrev bL:=@Nat.le_trans
abbrev bM:=@Option.some.inj
abbrev bN:=@List.mem_of_getElem?
abbrev bO:=@Bool.and_eq_true_iff
abbrev bP:=@List.getElem?_eq_none
abbrev bQ:=@List.getElem?_set_self
abbrev bR:=@List.mem_range
abbrev bS:=@Array.getD_eq_getD_getElem?
abbrev bT:=@List.append_assoc
abbrev bU:=@List.pairwise_cons
abbrev bV:=@List.filter_eq_self
abbrev bW:=@Bool.and_eq_true
abbrev bX:=@List.map_append
abbrev bY:=@decide_eq_true_iff
abbrev bZ:=@List.filter_sublist
abbrev ck:=@Array.getElem?_eq_getElem
abbrev cp:=@List.pairwise_map
abbrev cq:=@List.nodup_append
abbrev cu:=@Int.toNat_natCast
abbrev cw:=@PySem.wpAny_mono
abbrev cx:=@List.set_append_right
abbrev cy:=@List.mem_append_right
abbrev cz:=@PySem.wpAny_holding
abbrev cA:=@PySem.mem_of_lookup
abbrev cB:=@List.length_range
abbrev cC:=@PySem.Heap.get?_update_self
abbrev cD:=@PySem.Heap.SameBut.update
abbrev cE:=@congrArg
abbrev cF:=@Nat.zero_le
abbrev cG:=@PySem.sizeLine_eq
abbrev cH:=@List.find?_cons
abbrev cI:=@Ne.symm
abbrev cJ:=@List.filterMap_cons
abbrev cK:=@PySem.wpAny_setState_of
abbrev cL:=@List.nodup_cons
abbrev cM:=@List.length_nil
abbrev cN:=@List.filter_cons
abbrev cO:=@List.replicate_succ
abbrev cP:=@List.map_congr_left
abbrev cQ:=@PySem.Heap.get?_update_other
abbrev cR:=@forall_congr
abbrev cS:=@List.all_eq_true
abbrev cU:=@List.mem_cons_of_mem
abbrev cV:=@Nat.lt_irrefl
abbrev cW:=@Option.map_eq_some_iff
abbrev cX:=@beq_iff_eq
abbrev cY:=@PySem.F.called_set
abbrev cZ:=@List.mem_singleton
abbrev da:=@List.mem_cons_self
abbrev db:=@PySem.Obj.data_mapFields
abbrev dc:=@Nat.lt_succ_of_lt
abbrev de:=@List.ext_getElem?
abbrev df:=@List.range_succ
abbrev dh:=@List.length_set
abbrev dm:=@List.getElem?_range
abbrev dq:=@List.any_cons
abbrev dr:=@PySem.wpAny_truthy_bool
abbrev du:=@List.getElem_mem
abbrev dw:=@Int.emod_lt_of_pos
abbrev dy:=@PySem.F.slot_dict_get
abbrev dA:=@PySem.wpAny_isInstance
abbrev dB:=@PySem.wpAny_askSetting
abbrev dC:=@List.pairwise_iff_getElem
abbrev dD:=@List.mem_append
abbrev dE:=@Prod.mk.inj
abbrev dF:=@Nat.le_succ
abbrev dG:=@List.foldl_append
abbrev dH:=@List.flatten_cons
abbrev dI:=@List.getElem?_of_mem
abbrev dJ:=@List.Perm.refl
abbrev dL:=@PySem.wpAny_newObj_type
abbrev dM:=@List.getElem?_replicate
abbrev dN:=@Array.eq_empty_of_size_eq_zero
abbrev dO:=@List.filter_append
abbrev dP:=@List.contains_cons
abbrev dQ:=@PySem.Heap.size_push
abbrev dR:=@PySem.wpAny_call_entry
abbrev dS:=@Bool.or_eq_true
abbrev dU:=@Bool.eq_iff_iff
abbrev dW:=@List.cons.inj
abbrev dX:=@List.length_replicate
abbrev dY:=@PySem.codeAny_mono
abbrev dZ:=@PySem.tupleKind_room_in1
abbrev d5:=@PySem.wpAny_passesOwn
abbrev d6:=@PySem.codeAny_builtin
abbrev d7:=@Array.getElem?_eq_some_iff
abbrev d8:=@Nat.ne_of_gt
abbrev d9:=@Nat.lt_succ_self
abbrev en:=@List.not_mem_nil
abbrev et:=@PyProof.Rows.F.plain_set_update_loop
abbrev eA:=@PySem.Around.under_plainId
abbrev eB:=@PyProof.Rows.boot_sorted
abbrev eC:=@List.filterMap_cons_some
abbrev eD:=@Nat.not_lt_zero
abbrev eE:=@Nat.lt_succ_iff
abbrev eF:=@Int.emod_nonneg
abbrev eG:=@PySem.W.callWith_K
abbrev eI:=@Bool.false_eq_true
abbrev eJ:=@Nat.add_sub_cancel_left
abbrev eK:=@Nat.zero_add
abbrev eL:=@Nat.succ_pos
abbrev eM:=@Nat.le_of_lt
abbrev eN:=@bne_self_eq_false
abbrev eO:=@Bool.not_eq_true'
abbrev eP:=@PySem.F.entry_dict_get
abbrev eQ:=@PySem.wpAny_execs_nil
abbrev eR:=@PySem.wpAny_Call_Name_kw
abbrev eS:=@Array.getElem?_toList
abbrev eT:=@Nat.le_add_right
abbrev eU:=@List.any_eq_true
abbrev eV:=@PySem.filterMap_getElem?_range
abbrev eW:=@List.all_cons
abbrev eX:=@PySem.wpAny_setField
abbrev eY:=@PySem.isSubtype_type
abbrev eZ:=@PySem.wpAny_storeSet_of
abbrev ff:=@PySem.Calls.callWith_builtin
abbrev fg:=@Array.getElem_toList
abbrev fh:=@Option.map_some
abbrev fj:=@PySem.Obj.isFreed_of_fields
abbrev fq:=@Nat.sub_self
abbrev fr:=@List.set_set
abbrev fu:=@Nat.mod_lt
abbrev fF:=@List.find?_eq_none
abbrev fG:=@PySem.Calls.evalArgs_plain
abbrev fI:=@PySem.wpAny_ite_split
abbrev fJ:=@List.drop_eq_getElem_cons
abbrev fK:=@Classical.byContradiction
abbrev fL:=@PySem.wpAny_setEntries_of
abbrev fM:=@List.filter_congr
abbrev fO:=@List.any_eq_false
abbrev fP:=@Bool.not_true
abbrev fQ:=@Bool.false_or
abbrev fR:=@List.filterMap_cons_none
abbrev fS:=@List.nodup_range
abbrev fT:=@List.length_take
abbrev fU:=@List.isEmpty_nil
abbrev fV:=@PySem.Calls.spliced_cons
abbrev fW:=@PySem.F.plainAttrs_list
abbrev fX:=@PySem.F.plainAttrs_dict
abbrev fY:=@List.pairwise_singleton
abbrev fZ:=@List.length_eq_zero_iff
abbrev f6:=@List.map_set
abbrev f8:=@List.pairwise_lt_range
abbrev f9:=@Array.toList_filterMap
abbrev gc:=@Array.getElem?_eq_none
abbrev ge:=@PySem.wpAny_setEpoch_of
abbrev gf:=@PySem.Value.isInt_shape
abbrev gh:=@PySem.PassesOwn.leaving
abbrev gn:=@List.nil_append
abbrev gp:=@List.filter_nil
abbrev gq:=@PySem.plainId_quiet
abbrev gu:=@PySem.W.methodCall_KW
abbrev gv:=@List.length_singleton
abbrev gw:=@List.filterMap_append
abbrev gz:=@Sum.inl.inj
abbrev gA:=@List.nodup_nil
abbrev gB:=@Array.size_map
abbrev gC:=@List.mem_append_left
abbrev gD:=@PySem.wpAny_call
abbrev gE:=@PySem.intKind_is
abbrev gF:=@PySem.wpAny_typeOf
abbrev gG:=@PySem.call_meetsIn
abbrev gH:=@PySem.W.plainGet_of
abbrev gI:=@PySem.W.hideAll_get
abbrev gJ:=@PyProof.Rows.F.entry_set_update_loop
abbrev gK:=@Nat.not_lt
abbrev gL:=@PySem.builtinLookup_eq_fast
abbrev gM:=@Option.isSome_some
abbrev gP:=@Nat.add_right_comm
abbrev gQ:=@List.mem_filterMap
abbrev gR:=@List.length_range'
abbrev gS:=@List.filter_filter
abbrev gT:=@or_false
abbrev gW:=@List.map_nil
abbrev gX:=@PySem.codeAny_call_builtin
abbrev gY:=@Option.isSome_map
abbrev gZ:=@Nat.le_succ_of_le
abbrev g6:=@List.getElem?_set
abbrev g7:=@decide_eq_decide
abbrev g8:=@Option.getD_some
abbrev g9:=@List.range'_succ
abbrev hV:=@List.drop_length
abbrev hY:=@Bool.not_eq_true
abbrev hZ:=@Array.toList_inj
abbrev h8:=@PySem.wpAny_attempt
abbrev ia:=@PySem.Paired.length
abbrev ib:=@List.eq_nil_of_length_eq_zero
abbrev ie:=@List.of_mem_zip
abbrev ig:=@List.foldl_cons
abbrev ii:=@List.find?_some
abbrev ij:=@List.cons.injEq
abbrev ik:=@PyProof.Rows.callWith_type1
abbrev il:=@PySem.wpAny_pyIter_list
abbrev im:=@PySem.wpAny_pyIter_dict
abbrev io:=@PySem.wpAny_dictEntries
abbrev ip:=@PySem.Calls.spliced_nil
abbrev iq:=@Array.perm_iff_toList_perm
abbrev iA:=PySem.Value->PySem.Shared->Prop
abbrev iB:=PySem.Str->Option PySem.Value
abbrev iC:=PySem.W.Frag
abbrev iD:=List (PySem.Addr × PySem.Obj)
abbrev iE:=List (PySem.Str × PySem.Addr)
abbrev iF:=List (Option Int)
abbrev iG:=List (Int × Int)
abbrev iH:=List (List Int)
abbrev iI:=List PySem.Addr
abbrev iJ:=List PySem.Value
abbrev iK:=List Int
abbrev iL:=List Nat
abbrev iM:=List PySem.Str
abbrev iN:=List PySem.Expr
abbrev iO:=List Bool
abbrev iP:=Option PySem.Value
abbrev qI:=PySem.Value
abbrev qJ:=PySem.Addr
abbrev qK:=PySem.Shared
abbrev qL:=PySem.SetTable
abbrev qM:=PySem.Program
abbrev qN:=PySem.World
abbrev qO:=PySem.Around
abbrev qP:=PySem.FuncData
abbrev qQ:=PySem.Heap
abbrev qR:=PySem.Stmt
abbrev qS:=PySem.Expr
local macro_rules|`(↑$a)=>`(some (some $a))
local macro_rules|`($a∩$b)=>`(some (.error $a,$b))
local macro_rules|`($a\$b)=>`(some (.ok $a,$b))
local macro_rules|`($a<|$b)=>`(($a).trans $b)
local macro_rules|`(.(0))=>`(by omega)
local macro_rules|`(.(1))=>`(by decide)
local macro_rules|`(.(2))=>`(by simp)
local macro_rules|`(.(3))=>`(by rw[aB];omega)
local macro_rules|`(.(4))=>`(by simp only[aB];omega)
local macro_rules|`(.(5))=>`(by decide +kernel)
local macro_rules|`(.(6))=>`(by simp;omega)
local macro_rules|`(.(7))=>`(by with_unfolding_all rfl)
local macro_rules|`(.(8))=>`(by simp only[bD];omega)
local macro_rules|`(.(9))=>`(by simp only[bD] <;> omega)
noncomputable section
namespace L2
open PySem
def Yp(s:qR)(j:Nat):qR:=match s with
 |.ClassDef _ _ _ body _ _ _ _ _ _ _=>body.getD j (.Pass ⟨0,0,0,0⟩)
 |_=>.Pass ⟨0,0,0,0⟩
def Pf(s:qR):Arguments:=match s with
 |.FunctionDef _ a _ _ _ _ _ _ _ _=>a
 |_=>{posonlyargs:=[],args:=[],vararg:=none,kwonlyargs:=[],kw_defaults:=[],kwarg:=none,defaults:=[]}
def UY(s:qR):List qR:=match s with
 |.FunctionDef _ _ b _ _ _ _ _ _ _=>b
 |_=>[]
def YC(s:qR):Scope:=match s with
 |.FunctionDef _ _ _ _ _ _ sc _ _ _=>sc
 |_=>{kind:=.function,names:=[],isGenerator:=false,isCoroutine:=false}
def tyL:qI->Bool
 |.type s=>s == "list"
 |_=>false
def notL(K:iC):Bool:=K.all λp=>!tyL p.2.cls
def sevenT:List String:=["NoneType","bool","int","str","list","tuple","dict"]
end L2
namespace MP
noncomputable section
open PySem L2
def top(i:Nat):qR:=PySem.Challenge.pw_atonce_k17_refused_questions.main.body.getD i (.Pass ⟨0,0,0,0⟩)
abbrev st_0:qR:=top 45
abbrev st_1:qR:=top 47
abbrev st_2:qR:=top 48
abbrev st_3:qR:=top 49
abbrev st_4:qR:=top 50
abbrev st_5:qR:=top 51
abbrev st_6:qR:=top 56
abbrev st_7:qR:=Yp (top 40) 0
abbrev st_8:qR:=Yp (top 40) 1
abbrev st_9:qR:=Yp (top 40) 2
abbrev st_10:qR:=top 52
abbrev st_11:qR:=Yp (top 10) 0
abbrev st_12:qR:=Yp (top 10) 1
abbrev st_13:qR:=top 53
abbrev st_14:qR:=Yp (top 43) 0
abbrev st_15:qR:=Yp (top 10) 2
abbrev st_16:qR:=Yp (top 10) 3
abbrev st_17:qR:=Yp (top 43) 1
abbrev st_18:qR:=Yp (top 43) 7
abbrev st_19:qR:=Yp (top 40) 3
abbrev st_20:qR:=Yp (top 43) 8
abbrev st_21:qR:=Yp (top 43) 2
abbrev st_22:qR:=Yp (top 43) 3
abbrev st_23:qR:=top 54
abbrev st_24:qR:=top 55
abbrev st_25:qR:=Yp (top 43) 6
abbrev st_26:qR:=Yp (top 43) 5
abbrev st_27:qR:=Yp (top 10) 5
abbrev st_28:qR:=Yp (top 43) 4
abbrev st_29:qR:=top 12
abbrev st_30:qR:=top 13
abbrev st_31:qR:=top 14
abbrev st_32:qR:=top 15
abbrev st_33:qR:=top 16
abbrev st_34:qR:=top 17
abbrev st_35:qR:=top 25
abbrev st_36:qR:=top 26
abbrev st_37:qR:=top 18
abbrev st_38:qR:=top 27
abbrev st_39:qR:=top 19
abbrev st_40:qR:=top 28
abbrev st_41:qR:=top 29
abbrev st_42:qR:=top 30
abbrev st_43:qR:=top 31
abbrev st_44:qR:=top 32
abbrev st_45:qR:=top 35
abbrev st_46:qR:=top 34
abbrev st_47:qR:=Yp (top 36) 0
abbrev st_48:qR:=Yp (top 36) 3
abbrev st_49:qR:=Yp (top 36) 2
abbrev st_50:qR:=Yp (top 36) 1
abbrev st_51:qR:=top 59
abbrev st_52:qR:=Yp (top 36) 5
abbrev st_53:qR:=Yp (top 40) 4
abbrev st_54:qR:=Yp (top 36) 4
abbrev st_55:qR:=top 37
abbrev st_56:qR:=top 38
abbrev st_57:qR:=top 57
abbrev st_58:qR:=top 58
abbrev Dy:qR:=top 60
def Tu(as:iI)(h:qQ):W.Frag:=as.filterMap λa=>(h.get? a).map λo=>(a,o)
def NZ(h:qQ):∀as:iI,(Tu as h).In h
 |[],_,_,e=>by simp[Tu]at e
 |a::as,b,o,e=>by
  have ih:=NZ h as b o;unfold Tu at e ih;cases hg:h.get? a with
  |none=>simp only[cJ,hg,Option.map_none]at e;exact ih e
  |some v=>
   simp only[cJ,hg,fh,aH]at e;by_cases hb:b=a
   ·subst hb;simp at e;rw[hg,e]
   ·have:(b == a)=false:=by simpa using hb
    rw[this]at e;exact ih e
def nth{α:Type}:List α->Nat->Option α
 |[],_=>none
 |a::_,0=>some a
 |_::l,n+1=>nth l n
def nrm(f:qP):qP:={f with kwdefaults:=.none,doc:=.none,pyModule:=.none,annotations:=none,code:=.none,closureTuple:=.none}
def fnV(K:W.Frag)(f:qJ)(q:Str):Option (qP × Bool):=match K.lookup f with
 |some ⟨_,_,.func d,_⟩=>some (nrm d,W.codeIn K d.code q)
 |_=>none
def obK(K:W.Frag)(f:qJ):Obj:=(K.lookup f).getD default
def fdK(K:W.Frag)(f:qJ):qP:=match (obK K f).data with|.func d=>d|_=>default
def fn_both{K:W.Frag}{f:qJ}{q n q':Str}{a:Arguments}{b:List qR}{s:Scope}(h:fnV K f q=some (nrm (W.fnOf n q' a b s .none .none .none .none none .none .none),true)):K.lookup f=some ⟨(obK K f).cls,(obK K f).dict,.func (W.fnOf n q' a b s .none (fdK K f).kwdefaults (fdK K f).doc (fdK K f).pyModule (fdK K f).annotations (fdK K f).code (fdK K f).closureTuple),(obK K f).slots⟩/\W.codeIn K (fdK K f).code q=true:=by
 unfold fnV at h;cases hl:K.lookup f with
 |none=>rw[hl]at h;cases h
 |some v=>
  obtain⟨c,d,dt,sl⟩:=v;rw[hl]at h;cases dt with
  |func fd=>
   obtain⟨h1,h2⟩:=dE (bM h);have e1:obK K f=⟨c,d,.func fd,sl⟩:=by simp[obK,hl]
   have e2:fdK K f=fd:=by simp[fdK,e1]
   rw[e2,e1];refine⟨?_,h2⟩;obtain⟨x1,x2,x3,x4,x5,x6,x7,x8,x9,n6,mZ,m4,qk,ql,qm⟩:=fd;unfold nrm at h1;injection h1 with y1 y2 y3 y4 y5 y6 y7 y8 _ _ _ _ _ _ y15
   dsimp only at y1 y2 y3 y4 y5 y6 y7 y8 y15;subst y1 y2 y3 y4 y5 y6 y7 y8 y15;rfl
  |_=>cases h
def AN(x:Option (iP)):Option Int:=match x with|↑(.int i _)=>some i|_=>none
def int_l{x:Option (iP)}{i:Int}(h:AN x=some i):∃t,x=↑(.int i t):=by
 unfold AN at h;split at h
 ·cases h;exact⟨_,rfl⟩
 ·cases h
def tupV(K:W.Frag)(a:qJ):Option (String × Str):=match K.lookup a with
 |some ⟨.type t,_,.seq vs _,_⟩=>(match vs.toList with|[.str x _]=>some (t,x)|_=>none)
 |_=>none
def tup_l{K:W.Frag}{a:qJ}{t:String}{x:Str}(h:tupV K a=some (t,x)):∃od n tk sl,K.lookup a=some ⟨.type t,od,.seq #[.str x tk] n,sl⟩:=by
 unfold tupV at h;split at h
 ·rename_i od vs n sl hl
  split at h
  ·rename_i y tk hv
   cases h;have:vs=#[.str x tk]:=hZ.mp (by rw[hv]);subst this;exact⟨_,_,_,_,hl⟩
  ·cases h
 ·cases h
abbrev yRF:Type:=Option qJ × Str × qJ × Str × qR
abbrev yRN:Type:=Option qJ × Str × iP
abbrev yTF:Type:=Option (iP) × Bool × Option (qP × Bool)
abbrev yrG(n:Str)(f:qJ)(s:qR):yRF:=(none,n,f,n,s)
abbrev yrM(C:qJ)(n:Str)(f:qJ)(q:Str)(s:qR):yRF:=(some C,n,f,q,s)
abbrev ynC(n:Str)(a:qJ):yRN:=(none,n,some (.ref a))
abbrev ynS(C:qJ):yRN:=(some C,"__setattr__",some (.builtin "object.__setattr__"))
abbrev ynD(C:qJ)(n:Str):yRN:=(some C,n,none)
abbrev ynZ(n:Str):yRN:=(none,n,none)
abbrev ynB(C:qJ)(n:Str)(b:String):yRN:=(some C,n,some (.builtin b))
def ylk(K:W.Frag)(C:Option qJ)(n:Str):Option (iP):=match C with
 |none=>W.nsIn K mainGlobals n
 |some C=>W.findIn K (.ref C) n
def IC(K:W.Frag):List yRF->List yTF
 |[]=>[]
 |(C,n,f,q,_)::l=>(ylk K C n,W.isFn K (.ref f)&&W.keepIn K (.ref f),fnV K f q)::IC K l
def IX(r:yRF):yTF:=(↑(.ref r.2.2.1),true,some (nrm (W.fnOf r.2.1 r.2.2.2.1 (Pf r.2.2.2.2) (UY r.2.2.2.2) (YC r.2.2.2.2) .none .none .none .none none .none .none),true))
def Bn(K:W.Frag):List yRN->List (Option (iP))
 |[]=>[]
 |(C,n,_)::l=>ylk K C n::Bn K l
def yobB(K:W.Frag)(cs es:iI):Bool:=cs.all (λC=>W.plainGet K C Str.empty&&(W.hasDictIn K C&&(W.plainOver K C&&(W.makesIn K C&&W.keepIn K (.ref C)))))&&(es.all (λC=>W.excIn K C [.type "ValueError",.type "Exception",.type "BaseException",.type "object"] "ValueError.__new__")&&notL K)
def yobI(K:W.Frag):List (Str × Int)->List (Option Int)
 |[]=>[]
 |(n,_)::l=>AN (W.nsIn K mainGlobals n)::yobI K l
def ytF:List yRF:=[yrG "_law_cell_at" 454 st_0,yrG "_law_frame" 468 st_1,yrG "_law_links" 473 st_2,yrG "_law_sides" 480 st_3,yrG "_law_order_by" 485 st_4,yrG "_law_orders" 490 st_5,yrG "_law_world" 523 st_6,yrM 367 "__init__" 338 "Map.__init__" st_7,yrM 367 "need_place" 345 "Map.need_place" st_8,yrM 367 "link" 352 "Map.link" st_9,yrG "_law_chart" 497 st_10,yrM 146 "__init__" 108 "Board.__init__" st_11,yrM 146 "post" 115 "Board.post" st_12,yrG "_law_board" 504 st_13,yrM 443 "__init__" 386 "Orders.__init__" st_14,yrM 146 "side_at" 122 "Board.side_at" st_15,yrM 146 "need_unit" 129 "Board.need_unit" st_16,yrM 443 "stand" 393 "Orders.stand" st_17,yrM 443 "need_all" 433 "Orders.need_all" st_18,yrM 367 "beside" 359 "Map.beside" st_19,yrM 443 "need_beside" 440 "Orders.need_beside" st_20,yrM 443 "move" 400 "Orders.move" st_21,yrM 443 "aid" 407 "Orders.aid" st_22,yrG "_law_give" 511 st_23,yrG "_law_given" 518 st_24,yrM 443 "goal_of" 426 "Orders.goal_of" st_25,yrM 443 "movers" 419 "Orders.movers" st_26,yrM 146 "roll" 143 "Board.roll" st_27,yrM 443 "told" 414 "Orders.told" st_28,yrG "is_cut" 155 st_29,yrG "fits" 162 st_30,yrG "counts" 169 st_31,yrG "backs" 176 st_32,yrG "backing" 181 st_33,yrG "force" 188 st_34,yrG "weigh_movers" 207 st_35,yrG "is_outdone" 212 st_36,yrG "force_against" 193 st_37,yrG "overcomes" 219 st_38,yrG "firmness" 200 st_39,yrG "hindrance" 226 st_40,yrG "hindrances" 233 st_41,yrG "fault" 240 st_42,yrG "strikes" 245 st_43,yrG "settled" 250 st_44,yrG "units_after" 262 st_45,yrG "posted_board" 257 st_46,yrM 308 "__init__" 274 "Turn.__init__" st_47,yrM 308 "shut" 293 "Turn.shut" st_48,yrM 308 "aside" 286 "Turn.aside" st_49,yrM 308 "done" 281 "Turn.done" st_50,yrG "_law_number" 544 st_51,yrM 308 "need_aside" 305 "Turn.need_aside" st_52,yrM 367 "near" 364 "Map.near" st_53,yrM 308 "may_go" 298 "Turn.may_go" st_54,yrG "check_told" 319 st_55,yrG "after" 324 st_56,yrG "_law_asked" 530 st_57,yrG "_law_due" 537 st_58,yrG "law" 549 Dy]
def ytN:List yRN:=[ynC "Board" 146,ynS 146,ynD 146 "chart",ynD 146 "units",ynC "Map" 367,ynS 367,ynD 367 "links",ynD 367 "size",ynC "Orders" 443,ynS 443,ynD 443 "board",ynD 443 "given",ynC "Turn" 308,ynS 308,ynD 308 "board",ynD 308 "closed",ynD 308 "comers",ynD 308 "goals",ynD 308 "pushed",ynC "Crowded" 68,ynC "NoPlace" 44,ynC "NoSide" 56,ynC "NoUnit" 80,ynC "OutOfReach" 92,ynC "STAND" 372,ynZ "ValueError",ynZ "any",ynZ "isinstance",ynZ "len",ynZ "list",ynZ "max",ynZ "min",ynZ "range",ynZ "set",ynZ "sorted",ynC "OrderError" 31,ynB 44 "__getattribute__" "BaseException.__getattribute__",ynD 44 "__getattr__",ynB 44 "__class__" "object.__class__",ynB 56 "__getattribute__" "BaseException.__getattribute__",ynD 56 "__getattr__",ynB 56 "__class__" "object.__class__",ynB 68 "__getattribute__" "BaseException.__getattribute__",ynD 68 "__getattr__",ynB 68 "__class__" "object.__class__",ynB 80 "__getattribute__" "BaseException.__getattribute__",ynD 80 "__getattr__",ynB 80 "__class__" "object.__class__",ynB 92 "__getattribute__" "BaseException.__getattribute__",ynD 92 "__getattr__",ynB 92 "__class__" "object.__class__"]
def ytI:List (Str × Int):=[("FACED",2),("FREE",0),("HELD",3),("LAST_SIDE",7),("RIVAL",1)]
abbrev yXT:Type:=List (List (Option Bool) × List (Option Bool)) × Option Bool × Option (iP)
def yobX(K:W.Frag)(o:qJ)(ds:iJ):iI->List (List (Option Bool) × List (Option Bool))
 |[]=>[]
 |C::l=>([W.mroIn K C (.type "object"),W.mroIn K C (.type "BaseException"),W.exmOne K (.ref C) (.ref o),some (W.clsIn K C).isSome],ds.map (W.kitOne K (.ref C)))::yobX K o ds l
def yobY(K:W.Frag):yXT:=(yobX K 31 [.ref 44,.ref 56,.ref 68,.ref 80,.ref 92,.type "ValueError"] [44,56,68,80,92],W.takesIn K (.builtin "object.__class__"),W.specialIn K (.builtin "object.__class__") "__get__")
def yexY:yXT:=([([some true,some true,some true,some true],[true,false,false,false,false,true].map some),([some true,some true,some true,some true],[false,true,false,false,false,true].map some),([some true,some true,some true,some true],[false,false,true,false,false,true].map some),([some true,some true,some true,some true],[false,false,false,true,false,true].map some),([some true,some true,some true,some true],[false,false,false,false,true,true].map some)],some true,↑(.builtin "getset_descriptor.__get__"))
abbrev OT:Type:=List yTF × List (Option (iP)) × Bool × iF × yXT × Option (String × Str)
def IK(K:W.Frag):OT:=(IC K ytF,Bn K ytN,yobB K [146,367,443,308] [68,44,56,80,92],yobI K ytI,yobY K,tupV K 372)
def AG:OT:=(ytF.map IX,ytN.map λr=>some r.2.2,true,ytI.map λr=>some r.2,yexY,some ("tuple","stand"))
def GK(K:W.Frag):Prop:=IK K=AG
def asK:iI:=[2,3,15,17,18,20,21,22,29,30,31,32,35,42,43,44,47,54,55,56,59,66,67,68,71,78,79,80,83,90,91,92,102,104,105,107,108,109,111,112,114,115,116,118,119,121,122,123,125,126,128,129,130,132,133,135,136,137,139,140,142,143,144,145,146,147,148,151,154,155,156,158,159,161,162,163,165,166,168,169,170,172,173,175,176,177,180,181,182,184,185,187,188,189,192,193,194,196,197,199,200,201,203,204,206,207,208,211,212,213,215,216,218,219,220,222,223,225,226,227,229,230,232,233,234,236,237,239,240,241,244,245,246,249,250,251,253,254,256,257,258,261,262,270,273,274,275,277,278,280,281,282,285,286,287,289,290,292,293,294,297,298,299,301,302,304,305,306,307,308,309,310,313,315,316,318,319,320,323,324,332,334,335,337,338,339,341,342,344,345,346,348,349,351,352,353,355,356,358,359,360,363,364,365,366,367,368,369,372,380,382,383,385,386,387,389,390,392,393,394,396,397,399,400,401,403,404,406,407,408,410,411,413,414,415,418,419,420,422,423,425,426,427,429,430,432,433,434,436,437,439,440,441,442,443,444,445,448,450,451,453,454,462,464,465,467,468,469,472,473,474,476,477,479,480,481,484,485,486,489,490,491,493,494,496,497,498,500,501,503,504,505,507,508,510,511,512,514,515,517,518,519,522,523,524,526,527,529,530,531,533,534,536,537,538,540,541,543,544,545,548,549]
def hook:W.Hook:=⟨OT,λs=>IK (Tu asK s.heap),λ_=>AG,λ_ h=>∃K:W.Frag,K.In h/\GK K,λ_ s e=>⟨_,NZ s.heap asK,e⟩,λ_ _ _ ⟨K,x,g⟩ k=>⟨K,W.Frag.In.keeps x k,g⟩⟩
def view:qM:={PySem.Challenge.pw_atonce_k17_refused_questions with main:={PySem.Challenge.pw_atonce_k17_refused_questions.main with body:=[top 0,top 2,top 3,top 4,top 5,top 6,top 7,top 9,top 10,top 12,top 13,top 14,top 15,top 16,top 17,top 18,top 19,top 21,top 22,top 23,top 24,top 25,top 26,top 27,top 28,top 29,top 30,top 31,top 32,top 34,top 35,top 36,top 37,top 38,top 40,top 42,top 43,top 45,top 46,top 47,top 48,top 49,top 50,top 51,top 52,top 53,top 54,top 55,top 56,top 57,top 58,top 59,top 60]}}
def Ox{α β γ:Type}{x:Option α}{f:α->β}{g:α->γ}{a:β}{b:γ}(h1:x.map f=some a)(h2:x.map g=some b):x.map (λs=>(f s,g s))=some (a,b):=by
 cases x with
 |none=>cases h1
 |some v=>simp only[fh,Option.some.injEq]at h1 h2 ⊢;rw[h1,h2]
def Xt(s:qK):Bool:=W.xlAt view [] s&&W.recOk (W.RowW.records PySem.Challenge.rw_atonce_k17_refused_questions.row.toRowW) s
def rT(tb:String->Option Builtin)(q:qM)(v:qN)(m:Nat)(an:iP):Nat->W.SharedT->Thread->Option W.SharedT
 |0,_,_=>none
 |i+1,x,y=>match W.through y with
  |true=>some x
  |false=>match W.stepOk m an y with
   |false=>none
   |true=>match W.stepT (denote tb) q v x y with
    |some (x',y')=>rT tb q v m an i x' y'
    |none=>none
def rT_of{tb:String->Option Builtin}{q:qM}{v:qN}{m:Nat}{an:iP}:∀{i:Nat} {x x':W.SharedT} {y:Thread},rT tb q v m an i x y=some x'->W.topRun tb q v m an i x.abs y=some x'.abs
 |0,_,_,_,h=>by cases h
 |i+1,x,x',y,h=>by
  unfold rT at h;unfold W.topRun;cases ht:W.through y with
  |true=>rw[ht]at h;cases h;rfl
  |false=>
   rw[ht]at h;cases hk:W.stepOk m an y with
   |false=>rw[hk]at h;cases h
   |true=>
    rw[hk]at h;cases hs:W.stepT (denote tb) q v x y with
    |none=>rw[hs]at h;cases h
    |some r=>obtain⟨x2,y2⟩:=r;rw[hs]at h;rw[W.stepT_spec hs];exact rT_of h
def Gi:List Obj->Nat->W.BT->Option W.BT
 |[],_,t=>some t
 |o::l,n,t=>match ((t.ins n o).get n).isSome with
  |true=>Gi l (n+1) (t.ins n o)
  |false=>none
def Kk{lf:Life}:∀{l:List Obj} {n:Nat} {t t':W.BT},Gi l n t=some t'->(W.absHeap t' (n+l.length) lf).objs.toList=(W.absHeap t n lf).objs.toList++l
 |[],n,t,t',h=>by cases h;simp
 |o::l,n,t,t',h=>by
  unfold Gi at h;split at h
  ·rename_i e
   have ih:=Kk (lf:=lf) h;rw[W.absHeap_ins e]at ih;have:n+(o::l).length=n+1+l.length:=by simp;omega
   rw[this,ih];show((W.absHeap t n lf).objs.push o).toList++l=_;simp
  ·cases h
def goT(q:qM)(v:qN)(m:Nat)(an:iP)(i:Nat)(os:OsState):Option W.SharedT:=
 (Gi (W.boot_heap v.params).objs.toList 0 .nil).bind λt=>rT treeTable q v m an i ⟨t,m,(W.boot_heap v.params).life,Array.mk [],W.boot_drawn,W.boot_toks,os⟩ (W.topStub q)
def okT(q:qM)(v:qN)(s:qK):Bool:=W.staticsOk (PySem.importedModules q.main.body) (W.boot_heap v.params) s.heap&&W.namesBound q s.heap&&W.gensDone s&&W.laidKept (W.boot_heap v.params) s.heap
def leftT{p q:qM}{loose:iM}{Xt:qK->Bool}{α:Type}{Yf:qK->α}{Ya:qN->α}{N m:Nat}{an:iP}(e:W.opening p=W.plainProg p.main.scope.names) (hN:Nat.ble 600 N=true) (f:∀s,fenceModules? p s=some s)(z:∀w:qN,((W.boot_heap w.params).isNs mainGlobals,(W.boot_heap w.params).objs.toList.length,(W.boot_heap w.params).nsMap mainGlobals "__annotations__")=(true,m,an))(run:∀(w:qN) (os:OsState),(goT p w m an N os).map (λx=>(okT p w x.abs,W.openSeen q loose (PySem.importedModules p.main.body) Xt true x.abs,Yf x.abs))=some (true,W.openGood q loose,Ya w)):W.LeftO p q loose Xt Yf Ya N:=λw=>by
 obtain⟨⟨h,gs,d,k,os⟩,o,o'⟩:=cW.mp (W.boot_open e hN f w);obtain⟨rfl,rfl,rfl,rfl⟩:h=W.boot_heap w.params/\gs=Array.mk []/\d=W.boot_drawn/\k=W.boot_toks:=by simpa using o'
 obtain⟨z1,z2,z3⟩:_/\_/\_:=by simpa only [Prod.mk.injEq] using z w
 obtain⟨x,hx,hv⟩:=cW.mp (run w os);obtain⟨l1,l2,l3⟩:_/\_/\_:=by simpa only [Prod.mk.injEq] using hv
 obtain⟨t,ht,hr⟩:=Option.bind_eq_some_iff.mp hx;have r:=rT_of hr;have hp:=Kk (lf:=(W.boot_heap w.params).life) ht;rw[z2,eK]at hp
 have ha:W.absHeap t m (W.boot_heap w.params).life=W.boot_heap w.params:=by
  have:(W.absHeap t m (W.boot_heap w.params).life).objs=(W.boot_heap w.params).objs:=hZ.mp (by rw[hp];simp[W.absHeap,W.BT.list]);exact cE (λo=>Heap.mk o (W.boot_heap w.params).life) this
 have hs:(W.boot_heap w.params).objs.size=m:=by rw[← z2];simp
 unfold W.SharedT.abs at r;dsimp only at r;rw[ha]at r
 have tt:W.topFrom treeTable p w N ⟨W.boot_heap w.params,Array.mk [],W.boot_drawn,W.boot_toks,os⟩=some x.abs:=by
  unfold W.topFrom;dsimp only;rw[z1,z3,hs,r];show(match okT p w x.abs with|true=>some x.abs|false=>none)=_;rw[l1]
 unfold W.openEnds;rw[o];show(W.topFrom treeTable p w N _).map _=_;rw[tt];exact cE some (Prod.ext l2 l3)
def getT(t:W.BT)(n a:Nat):Option Obj:=match Nat.blt a n with
 |true=>W.alive ((t.get a).getD default)
 |false=>none
def E2(t:W.BT)(n:Nat)(lf:Life)(a:Nat):(W.absHeap t n lf).get? a=getT t n a:=by
 unfold getT;by_cases h:a<n
 ·have:Nat.blt a n=true:=by simpa [Nat.blt_eq] using h
  rw[this];unfold Heap.get?;rw[W.absHeap_at,aC h];generalize (t.get a).getD default=o;show(match some o with|some ⟨_,_,.freed,_⟩=>none|o=>o)=W.alive o;obtain⟨c,d,dt,sl⟩:=o;cases dt <;> rfl
 ·have:Nat.blt a n=false:=by
   cases hb:Nat.blt a n with
   |false=>rfl
   |true=>exact absurd (by simpa [Nat.blt_eq] using hb) h
  rw[this,W.abs_get_none h]
def GL(as:iI)(t:W.BT)(n:Nat):W.Frag:=as.filterMap λa=>(getT t n a).map λo=>(a,o)
def Em(as:iI)(t:W.BT)(n:Nat)(lf:Life):Tu as (W.absHeap t n lf)=GL as t n:=by
 unfold Tu GL;simp only[E2]
def z_ok(w:qN):((W.boot_heap w.params).isNs mainGlobals,(W.boot_heap w.params).objs.toList.length,(W.boot_heap w.params).nsMap mainGlobals "__annotations__")=(true,11,(some (.ref 6))):=by kernel_rfl
set_option maxRecDepth 100000 in
set_option maxHeartbeats 0 in
def run_o(w:qN)(os:OsState):Option.map (λx=>okT PySem.Challenge.pw_atonce_k17_refused_questions w x.abs) (goT PySem.Challenge.pw_atonce_k17_refused_questions w 11 (some (.ref 6)) 8252 os)=some true:=by kernel_rfl
set_option maxRecDepth 100000 in
set_option maxHeartbeats 0 in
def run_a(w:qN)(os:OsState):Option.map (λx=>(W.openSeen view [] (PySem.importedModules PySem.Challenge.pw_atonce_k17_refused_questions.main.body) Xt true x.abs).1) (goT PySem.Challenge.pw_atonce_k17_refused_questions w 11 (some (.ref 6)) 8252 os)=some (W.openGood view []).1:=by kernel_rfl
set_option maxRecDepth 100000 in
set_option maxHeartbeats 0 in
def run_c(w:qN)(os:OsState):Option.map (λx=>(W.openSeen view [] (PySem.importedModules PySem.Challenge.pw_atonce_k17_refused_questions.main.body) Xt true x.abs).2) (goT PySem.Challenge.pw_atonce_k17_refused_questions w 11 (some (.ref 6)) 8252 os)=some (W.openGood view []).2:=by kernel_rfl
set_option maxRecDepth 100000 in
set_option maxHeartbeats 0 in
def run_f(w:qN)(os:OsState):Option.map (λx=>IK (GL asK x.tree x.n)) (goT PySem.Challenge.pw_atonce_k17_refused_questions w 11 (some (.ref 6)) 8252 os)=some AG:=by kernel_rfl
def BI:(λx:W.SharedT=>IK (GL asK x.tree x.n))=λx=>IK (Tu asK x.abs.heap):=funext λx=>cE IK (Em asK x.tree x.n x.life).symm
def run_g(w:qN)(os:OsState):Option.map (λx=>IK (Tu asK x.abs.heap)) (goT PySem.Challenge.pw_atonce_k17_refused_questions w 11 (some (.ref 6)) 8252 os)=some AG:=BI ▸ run_f w os
def run:W.LeftO PySem.Challenge.pw_atonce_k17_refused_questions view [] Xt (W.Hook.obs hook) (W.Hook.val hook) 8252:=leftT (by kernel_rfl) .(1) (λ_=>rfl) z_ok λw os=>Ox (run_o w os) (Ox (Ox (run_a w os) (run_c w os)) (run_g w os))
end
end MP
namespace L2
open PySem PySem.Spec PyProof.Rows
abbrev Key:=Sum Int Str
def OX:Key->Value->Bool
 |.inl k,v=>Value.isInt k v
 |.inr x,v=>Value.isStrOf x v
def keyH(w:qN):Key->Int
 |.inl k=>hashInt k
 |.inr x=>hashStr w x
def YS:∀{k:Key} {v:qI},OX k v=true->(∃i t,k=Sum.inl i/\v=Value.int i t)\/(∃x t,k=Sum.inr x/\v=Value.str x t)
 |.inl i,v,h=>by
  obtain⟨t,e⟩:=gf (k:=i) (v:=v) h;exact .inl ⟨i,t,rfl,e⟩
 |.inr x,v,h=>by
  obtain⟨t,e⟩:=Value.isStrOf_shape (x:=x) (v:=v) h;exact .inr ⟨x,t,rfl,e⟩
def Ee(i:Int)(t:Tok):OX (.inl i) (.int i t)=true:=by simp[OX,Value.isInt]
def Fc(x:Str)(t:Tok):OX (.inr x) (.str x t)=true:=by simp[OX,Value.isStrOf]
def key_ll(a b:Int):decide ((Sum.inl a:Key)=Sum.inl b)=(a == b):=by
 by_cases e:a=b
 ·subst e;simp
 ·have h:¬ (Sum.inl a:Key)=Sum.inl b:=λq=>e (gz q)
  rw[aG h];exact(aU.mpr e).symm
def key_rr(a b:Str):decide ((Sum.inr a:Key)=Sum.inr b)=decide (a=b):=by
 by_cases e:a=b
 ·subst e;simp
 ·have h:¬ (Sum.inr a:Key)=Sum.inr b:=λq=>e (Sum.inr.inj q)
  rw[aG h,aG e]
def key_lr(a:Int)(b:Str):decide ((Sum.inl a:Key)=Sum.inr b)=false:=aG (λq=>nomatch q)
def key_rl(a:Str)(b:Int):decide ((Sum.inr a:Key)=Sum.inl b)=false:=aG (λq=>nomatch q)
def ZZ(prog:qM)(w:qN):PySem.KeyKind prog w Key where
 is:=OX
 hash:=keyH w
 inj:=λv a b ha hb=>by
  rcases YS ha with ⟨i,t,rfl,rfl⟩|⟨x,t,rfl,rfl⟩
  ·rcases YS hb with ⟨j,u,rfl,e⟩|⟨y,u,rfl,e⟩
   ·injection e with e1 _;rw[e1]
   ·exact nomatch e
  ·rcases YS hb with ⟨j,u,rfl,e⟩|⟨y,u,rfl,e⟩
   ·exact nomatch e
   ·injection e with e1 _;rw[e1]
 byValue:=λk v h=>by
  rcases YS h with ⟨i,t,rfl,rfl⟩|⟨x,t,rfl,rfl⟩ <;> rfl
 pyHash:=λhv h=>by
  rcases YS hv with ⟨i,t,rfl,rfl⟩|⟨x,t,rfl,rfl⟩
  ·exact wpAny_pyHash_int h
  ·exact wpAny_pyHash_str h
 eqBool:=λhu hv h=>by
  rcases YS hu with ⟨i,t,rfl,rfl⟩|⟨x,t,rfl,rfl⟩
  ·rcases YS hv with ⟨j,u,rfl,rfl⟩|⟨y,u,rfl,rfl⟩
   ·rw[key_ll]at h;exact wpAny_eqBool_int h
   ·rw[key_lr]at h;exact SeqAt.EqAt.int_str i t y u _ _ _ _ h
  ·rcases YS hv with ⟨j,u,rfl,rfl⟩|⟨y,u,rfl,rfl⟩
   ·rw[key_rl]at h;exact SeqAt.EqAt.str_int x t j u _ _ _ _ h
   ·rw[key_rr]at h;exact wpAny_eqBool_str h
 «strs»:=λk x t v h=>by
  rcases YS h with ⟨i,u,rfl,e⟩|⟨y,u,rfl,e⟩
  ·exact nomatch e
  ·injection e with e1 _
   subst e1;cases v <;> rfl
def KI(prog:qM)(w:qN)(i:Int)(t:Tok):(ZZ prog w).is (.inl i) (.int i t)=true:=Ee i t
def Kz(prog:qM)(w:qN)(x:Str)(t:Tok):(ZZ prog w).is (.inr x) (.str x t)=true:=Fc x t
inductive V where
 |non|bl (b:Bool)|int (i:Int)|str (x:Str)|byt (b:Array UInt8)|flt (b:UInt64)|ref (a:qJ)|ty (n:String)
 deriving DecidableEq
abbrev iQ:=List V
def RelV:V->Value->Prop
 |.non,u=>u=Value.none
 |.bl b,u=>u=Value.bool b
 |.int i,u=>∃t,u=Value.int i t
 |.str x,u=>∃t,u=Value.str x t
 |.byt b,u=>∃t,u=Value.bytes b t
 |.flt b,u=>∃t,u=Value.float b t
 |.ref a,u=>u=Value.ref a
 |.ty n,u=>u=Value.type n
abbrev Vals:iQ->List qI->Prop:=Paired RelV
def Vals.length{xs:iQ}{us:iJ}(r:Vals xs us):xs.length=us.length:=ia r
def Vals.get:∀{xs:iQ} {us:iJ} {i:Nat} {x:V},Vals xs us->xs[i]?=some x->∃u,us[i]?=some u/\RelV x u
 |_,_,_,_,.nil,e=>by simp at e
 |_,_,0,_,.cons r _,e=>by simp at e;subst e;exact⟨_,rfl,r⟩
 |_,_,i+1,x,.cons _ t,e=>by
  obtain⟨u,h1,h2⟩:=Vals.get (i:=i) (x:=x) t (by simpa using e);exact⟨u,by simpa using h1,h2⟩
def Vals.set{x:V}{u:qI}(r:RelV x u):∀{xs:iQ} {us:iJ} (i:Nat),Vals xs us->Vals (xs.set i x) (us.set i u)
 |_,_,_,.nil=>.nil
 |_,_,0,.cons _ t=>.cons r t
 |_,_,i+1,.cons q t=>.cons q (Vals.set r i t)
def Vals.append:∀{xs ys:iQ} {us ws:iJ},Vals xs us->Vals ys ws->Vals (xs++ys) (us++ws)
 |_,_,_,_,.nil,s=>s
 |_,_,_,_,.cons r t,s=>.cons r (Vals.append t s)
def RelO:Option V->Option qI->Prop
 |some v,some u=>RelV v u
 |none,none=>True
 |_,_=>False
def KV{κ:Type}:List (κ × V)->List (κ × qI)->Prop:=Paired λ(p:κ × V) (q:κ × qI)=>p.1=q.1/\RelV p.2 q.2
def kV:Key->V
 |.inl i=>.int i
 |.inr x=>.str x
inductive HO where
 |lst (xs:iQ)
 |tup (xs:iQ)
 |dK (kvs:List (Key × V))|dT (kvs:List (List Key × V))
 |set (S:Int->Bool) (n:Nat)
 |ins (C dx:qJ) (fs:List (Str × V))
 |own (x:qJ)
 |xd (fs:List (Str × V))
 |met (f x:qJ)
 |rng (lo hi:Int)
 |frz (o:Obj) (u:HO)
 |tbl (ps:Array qI)
 |ext (φ:qQ->Prop)
abbrev Hp:=qJ->Option HO
def upd(H:Hp)(a:qJ)(o:HO):Hp:=λb=>if b=a then some o else H b
def ZF{H:Hp}{a:qJ}{o:HO}:upd H a o a=some o:=by unfold upd;rw[aC rfl]
def Zy{H:Hp}{a b:qJ}{o:HO}(h:b≠a):upd H a o b=H b:=by unfold upd;rw[aD h]
def GX{H:Hp}{a:qJ}{o u:HO}:upd (upd H a o) a u=upd H a u:=by
 funext b;unfold upd;split <;> rfl
def ne_of{H:Hp}{a b:qJ}{o u:HO}(h:H a=some o)(h':H b=some u)(d:o≠u):a≠b:=by
 intro e;subst e;rw[h]at h';exact d (bM h')
def Z5{H:Hp}{a b:qJ}{o:HO}(h:H a=some o)(h':H b=none):a≠b:=by
 intro e;subst e;rw[h]at h';cases h'
section
variable(P:qM)(w:qN)
def ObjOk(H:Hp)(h:qQ)(a:qJ):HO->Prop
 |.lst xs=>xs.length<=sizeLine/\∃(iy:iJ) (n:Nat),Vals xs iy/\h.get? a=some {cls:=.type "list",data:=.seq iy.toArray n}
 |.tup xs=>xs.length<=sizeLine/\∃iy:iJ,Vals xs iy/\IsTup h a iy.toArray
 |.dK kvs=>kvs.length<=sizeLine/\(a == sysModules)=false/\∃vs,KV kvs vs/\h.DictOf (ZZ P w) a vs
 | .dT kvs => kvs.length <= sizeLine /\ (a == sysModules) = false /\ ∃ xs : List (List Key × qJ × qI),
     Paired (λ(p:List Key × V) (q:List Key × qJ × qI)=>p.1=q.1/\H q.2.1=some (.tup (p.1.map kV))/\RelV p.2 q.2.2) kvs xs /\
     ∃o es ep,h.get? a=some o/\o.ExactDict/\o.data=.dict es ep/\es.toList=xs.map (entryOfKey (tupleKind (ZZ P w)))/\(xs.map (·.1)).Nodup
 |.set S n=>h.SetOf (intKind P w) a S n
 | .ins C dx fs => H dx = some (.own a) /\ fs.length <= 1000 /\ dx ≠ a /\ h.get? a = some (PySem.W.instObj C dx) /\
     ∃mA,h.Ns1 dx mA/\(∀f,RelO (fs.lookup f) (mA f))/\PySem.Within mA (fs.map (·.1))
 |.own _=>∃o,h.get? a=some o
 |.xd fs=>∃mA,h.Ns1 a mA/\∀f,RelO (fs.lookup f) (mA f)
 |.rng lo hi=>∃t u v,h.get? a=some {cls:=.type "range",data:=.fields #[.int lo t,.int hi u,.int 1 v]}
 |.frz o u=>h.get? a=some o/\ObjOk H h a u
 |.tbl ps=>h.get? a=some {cls:=.none,data:=.fields ps}
 |.met f x=>h.get? a=some (PySem.W.methodObj (.ref f) (.ref x))
 |.ext φ=>φ h/\(∃o,h.get? a=some o)/\∀h1 h2:qQ,φ h1->(∀o,h1.get? a=some o->h2.get? a=some o)->φ h2
def HOk(H:Hp)(h:qQ):Prop:=∀a o,H a=some o->ObjOk P w H h a o
end
section
variable{P:qM}{w:qN}{H H':Hp}{h h':qQ}{a:qJ}{o:HO}
def ObjOk.lt(x:ObjOk P w H h a o):a<h.objs.size:=by
 cases o with
 |lst xs=>obtain⟨_,_,_,_,e⟩:=x;exact aP e
 |tup xs=>obtain⟨_,_,_,p⟩:=x;exact p.lt
 |dK kvs=>obtain⟨_,_,_,_,o,_,_,e,_⟩:=x;exact aP e
 |dT kvs=>obtain⟨_,_,_,_,o,_,_,e,_⟩:=x;exact aP e
 |set S n=>obtain⟨o,_,_,_,e,_⟩:=x;exact aP e
 |ins C dx fs=>obtain⟨_,_,_,e,_⟩:=x;exact aP e
 |own y=>obtain⟨_,e⟩:=x;exact aP e
 |xd fs=>obtain⟨_,⟨_,_,_,e,_⟩,_⟩:=x;exact aP e
 |rng lo hi=>obtain⟨_,_,_,e⟩:=x;exact aP e
 |frz ob u=>obtain⟨e,_⟩:=x;exact aP e
 |tbl ps=>exact aP (show h.get? a=some _ from x)
 |met f y=>exact aP (show h.get? a=some _ from x)
 |ext φ=>obtain⟨_,⟨_,e⟩,_⟩:=x;exact aP e
def Paired.mapP{α β:Type}{F G:α->β->Prop}:∀{l₁:List α} {lX:List β},Paired F l₁ lX->(∀a b,F a b->G a b)->Paired G l₁ lX
 |_,_,.nil,_=>.nil
 |_,_,.cons r t,f=>.cons (f _ _ r) (Paired.mapP t f)
def ObjOk.stay(x:ObjOk P w H h a o)(k:∀b u,(b=a\/H b=some (.own a))->h.get? b=some u->h'.get? b=some u)(ho:∀b,H b=some (.own a)->H' b=some (.own a)) (ht:∀b xs,H b=some (.tup xs)->H' b=some (.tup xs)):ObjOk P w H' h' a o:=by
 induction o with
 |lst xs=>obtain⟨z,iy,n,r,e⟩:=x;exact⟨z,iy,n,r,k _ _ (.inl rfl) e⟩
 |tup xs=>obtain⟨z,iy,r,ob,e,c⟩:=x;exact⟨z,iy,r,ob,k _ _ (.inl rfl) e,c⟩
 |dK kvs=>obtain⟨z,y,vs,r,ob,es,ep,e,c⟩:=x;exact⟨z,y,vs,r,ob,es,ep,k _ _ (.inl rfl) e,c⟩
 |dT kvs=>
  obtain⟨z,y,xs,r,ob,es,ep,e,c⟩:=x;exact⟨z,y,xs,Paired.mapP r λp q z=>⟨z.1,ht _ _ z.2.1,z.2.2⟩,ob,es,ep,k _ _ (.inl rfl) e,c⟩
 |set S n=>obtain⟨ob,es,ep,t,e,c⟩:=x;exact⟨ob,es,ep,t,k _ _ (.inl rfl) e,c⟩
 |ins C dx fs=>
  obtain⟨d,z,ne,e,mA,⟨od,es,ep,e2,c⟩,r⟩:=x;exact⟨ho _ d,z,ne,k _ _ (.inl rfl) e,mA,⟨od,es,ep,k _ _ (.inr d) e2,c⟩,r⟩
 |own y=>obtain⟨ob,e⟩:=x;exact⟨ob,k _ _ (.inl rfl) e⟩
 |xd fs=>obtain⟨mA,⟨od,es,ep,e,c⟩,r⟩:=x;exact⟨mA,⟨od,es,ep,k _ _ (.inl rfl) e,c⟩,r⟩
 |rng lo hi=>obtain⟨t,u,v,e⟩:=x;exact⟨t,u,v,k _ _ (.inl rfl) e⟩
 |frz ob u ih=>obtain⟨e,q⟩:=x;exact⟨k _ _ (.inl rfl) e,ih q⟩
 |tbl ps=>
  have e:h.get? a=some {cls:=.none,data:=.fields ps}:=x;show h'.get? a=some {cls:=.none,data:=.fields ps};exact k a _ (.inl rfl) e
 |met f y=>
  have e:h.get? a=some (PySem.W.methodObj (.ref f) (.ref y)):=x;show h'.get? a=some (PySem.W.methodObj (.ref f) (.ref y));exact k a _ (.inl rfl) e
 |ext φ=>obtain⟨p,⟨o,e⟩,st⟩:=x;exact⟨st _ _ p λo q=>k _ _ (.inl rfl) q,⟨o,k _ _ (.inl rfl) e⟩,st⟩
def HOk.lt(x:HOk P w H h)(e:H a=some o):a<h.objs.size:=(x a o e).lt
def HOk.fresh(x:HOk P w H h)(e:h.objs.size<=a):H a=none:=by
 cases q:H a with
 |none=>rfl
 |some u=>exact absurd (bE (x.lt q) e) (cV _)
def HOk.kept(x:HOk P w H h)(k:∀b u,h.get? b=some u->h'.get? b=some u):HOk P w H h':=λa o e=>
 (x a o e).stay (λb u _ q=>k b u q) (λ_ q=>q) λ_ _ q=>q
def HOk.laid(x:HOk P w H h)(k:∀b u,h.get? b=some u->h'.get? b=some u)(hp:h.objs.size<=a)(new:ObjOk P w (upd H a o) h' a o):HOk P w (upd H a o) h':=λb u e=>by
 have hn:=x.fresh hp;by_cases hb:b=a
 ·subst hb;rw[ZF]at e;cases e;exact new
 ·rw[Zy hb]at e
  exact(x b u e).stay (λc v _ q=>k c v q) (λc q=>by rw[Zy (Z5 q hn)];exact q) λc xs q=>by rw[Zy (Z5 q hn)];exact q
end
def Rd(H:Hp)(a:qJ)(u:HO):Prop:=H a=some u\/∃o,H a=some (.frz o u)
def Rd.ok{P:qM}{w:qN}{H:Hp}{h:qQ}{a:qJ}{u:HO}(r:Rd H a u)(x:HOk P w H h):ObjOk P w H h a u:=by
 rcases r with r|⟨o,r⟩
 ·exact x a u r
 ·obtain⟨_,q⟩:=x a _ r
  exact q
def Mut:Option HO->Prop
 |some (.lst _)=>True
 |some (.dK _)=>True
 |some (.dT _)=>True
 |some (.set _ _)=>True
 |some (.ins _ _ _)=>True
 |some (.ext _)=>True
 |_=>False
section
variable{P:qM}{w:qN}{H:Hp}{h h':qQ}{x e:qJ}{o':HO}
def HOk.write(ok:HOk P w H h)(mu:Mut (H x))(he:e=x\/H e=some (.own x))(k:∀b u,b≠e->h.get? b=some u->h'.get? b=some u)(lO:∃u,h'.get? e=some u)(new:ObjOk P w (upd H x o') h' x o'):HOk P w (upd H x o') h':=λb u q=>by
 have nown:∀c y,H c=some (.own y)->c≠x:=λc y r z=>by subst z;rw[r]at mu;exact mu
 have ntup:∀c xs,H c=some (.tup xs)->c≠x:=λc xs r z=>by subst z;rw[r]at mu;exact mu
 by_cases hb:b=x
 ·subst hb;rw[ZF]at q;cases q;exact new
 ·rw[Zy hb]at q
  by_cases hbe:b=e
  ·have q':H b=some (.own x):=by
    rcases he with z|z
    ·exact absurd (hbe<|z) hb
    ·rw[hbe];exact z
   rw[q]at q';cases q';obtain⟨v,hv⟩:=lO;exact⟨v,by rw[hbe];exact hv⟩
  ·refine(ok b u q).stay (λc v hc r=>k c v ?_ r) (λc r=>by rw[Zy (nown c b r)];exact r) λc xs r=>by rw[Zy (ntup c xs r)];exact r
   rcases hc with rfl|hc
   ·exact hbe
   ·rintro rfl
    rcases he with z|z
    ·exact nown c b hc z
    ·rw[hc]at z;cases z;exact hb rfl
end
structure Un(fs ex:iI)(H H':Hp)(h h':qQ):Prop where
 keep:∀b o,h.get? b=some o->H b=none->b ∉ fs->b ∉ ex->h'.get? b=some o
 slot:∀b o,h.get? b=some o->H b=none->b∈fs->b ∉ ex->∃sl,h'.get? b=some {o with slots:=sl}
 free:∀b o,h.get? b=some o->H b=none->b ∉ ex->H' b=none
 there:∀b o,h.get? b=some o->b ∉ ex->∃o',h'.get? b=some o'
 tups:∀b xs,H b=some (.tup xs)->H' b=some (.tup xs)
 frzs:∀b o u,H b=some (.frz o u)->H' b=some (.frz o u)
 tbls:∀b ps,H b=some (.tbl ps)->∃more,H' b=some (.tbl (ps++more))
section
variable{fs jE ex qo:iI}{H H1 H2:Hp}{h h1 h2 h':qQ}{a x e:qJ}{o:HO}
def Un.any(u:Un fs ex H H1 h h1){b:qJ}{ob:Obj}(q:h.get? b=some ob)(n:H b=none)(hx:b ∉ ex):∃sl,h1.get? b=some {ob with slots:=sl}:=by
 by_cases hb:b∈fs
 ·exact u.slot b ob q n hb hx
 ·exact⟨ob.slots,u.keep b ob q n hb hx⟩
def Un.kept(k:∀b u,h.get? b=some u->h'.get? b=some u):Un fs ex H H h h':=
 ⟨λb ob q _ _ _=>k b ob q,λb ob q _ _ _=>⟨ob.slots,k b ob q⟩,λ_ _ _ n _=>n,λb ob q _=>⟨ob,k b ob q⟩,λ_ _ q=>q,λ_ _ _ q=>q,λ_ ps q=>⟨#[],by rw[q];simp⟩⟩
def Un.refl:Un fs ex H H h h:=Un.kept λ_ _ q=>q
def Un.laid(k:∀b u,h.get? b=some u->h'.get? b=some u)(hp:h.objs.size<=a)(hn:H a=none):Un fs ex H (upd H a o) h h' where
 keep:=λb u q _ _ _=>k b u q
 slot:=λb u q _ _ _=>⟨u.slots,k b u q⟩
 free:=λb u q n _=>by rw[Zy (aX (bE (aP q) hp))];exact n
 there:=λb u q _=>⟨u,k b u q⟩
 tups:=λb xs q=>by rw[Zy (Z5 q hn)];exact q
 frzs:=λb u xs q=>by rw[Zy (Z5 q hn)];exact q
 tbls:=λb ps q=>⟨#[],by rw[Zy (Z5 q hn),q];simp⟩
def Un.write(mu:Mut (H x))(he:e=x\/H e=some (.own x))(k:∀b u,b≠e->h.get? b=some u->h'.get? b=some u)(lO:∃u,h'.get? e=some u):Un fs ex H (upd H x o) h h':=by
 have hx:∀b,H b=none->b≠x:=λb n z=>by subst z;rw[n]at mu;exact mu
 have hb:∀b,H b=none->b≠e:=λb n z=>by
  subst z;rcases he with r|r
  ·exact hx b n r
  ·rw[n]at r;cases r
 have hm:∀b u,H b=some u->¬ Mut (some u)->b≠x:=λb u q nm z=>by subst z;rw[q]at mu;exact nm mu
 refine⟨λb u q n _ _=>k b u (hb b n) q,λb u q n _ _=>⟨u.slots,k b u (hb b n) q⟩,λb u q n _=>by rw[Zy (hx b n)];exact n,λb u q _=>?_,
  λb xs q=>by rw[Zy (hm b _ q λz=>z)];exact q,λb u xs q=>by rw[Zy (hm b _ q λz=>z)];exact q,λb ps q=>⟨#[],by rw[Zy (hm b _ q λz=>z),q];simp⟩⟩
 by_cases hbe:b=e
 ·subst hbe;exact lO
 ·exact⟨u,k b u hbe q⟩
end
def trk(h:qQ)(H:Hp):iI:=(List.range h.objs.size).filter λa=>(H a).isSome
def MW(h:qQ)(H:Hp):qQ:=PySem.W.hideAll h (trk h H)
def FH(h:qQ)(H:Hp):(MW h H).objs.size=h.objs.size:=PySem.W.hideAll_size _ _
def CL{h:qQ}{H:Hp}{b:qJ}{o:Obj}(e:h.get? b=some o)(n:H b=none):(MW h H).get? b=some o:=
 gI _ e λhm=>by
  have q:(H b).isSome=true:=(aQ.mp hm).2;rw[n]at q;simp at q
def B7{h:qQ}{H:Hp}{b:qJ}{o:Obj}(e:(MW h H).get? b=some o):h.get? b=some o/\H b=none:=by
 have e':h.get? b=some o:=PySem.W.of_hideAll (trk h H) e;refine⟨e',?_⟩;cases q:H b with
 |none=>rfl
 |some x=>
  have hm:b∈trk h H:=aQ.mpr ⟨bR.mpr (aP e'),by simp[q]⟩;have z:(MW h H).get? b=none:=PySem.W.hideAll_none (trk h H) hm;rw[z]at e;cases e
structure Mod(K:iC)(mg:iB)(base:qQ):Prop where
 kin:K.In base
 glob:base.Ns mainGlobals mg
 blt:∃mb,base.Ns builtinsNs mb/\∀x:Str,x≠"__name__"->mb x=bootBuiltins x
 nolimit:base.NoLimit
structure Cx where
 prog:qM
 w:qN
 K:iC
 mg:Str->Option qI
 base:qQ
 A:qO
 N:iM
 s₀:qK
 H₀:Hp
 env:Env
 outer:List Env
 stack:List Env
 ex:iI
 fn:Str->Bool
 calm:Bool
 pn:iD
 xe:qI->Shared->Prop
def frs(l:List Env):iI:=l.filterMap (·.frame)
abbrev Cx.fs(X:Cx):iI:=frs X.outer
def Vis(sc:Scope)(x:Str):Prop:=sc.names.lookup x=some .local\/sc.names.lookup x=some .cell\/sc.names.lookup x=some .free
def Loc(sc:Scope)(x:Str):Prop:=sc.names.lookup x=some .local\/sc.names.lookup x=some .cell
def Look(env:Env)(h:qQ)(m:iB)(x:Str)(u:qI):Prop:=
 (env.kindOf x=some .local/\m x=some u)\/((env.kindOf x=some .cell\/env.kindOf x=some .free)/\∃c,env.cells.lookup x=some c/\h.IsCell c (some u))
structure Cx.Ok(X:Cx):Prop where
 mod:Mod X.K X.mg X.base
 kind:X.env.scope.kind=.function
 glob:X.env.globals=mainGlobals
 blt:X.env.builtins=builtinsNs
 above:X.s₀.heap.objs.size<=X.env.locals
 inj:∀x y c,X.env.cells.lookup x=some c->X.env.cells.lookup y=some c->x=y
 has:∀x,(X.env.kindOf x=some .cell\/X.env.kindOf x=some .free)->∃c,X.env.cells.lookup x=some c
 cab:∀x c,X.fn x=true->X.env.cells.lookup x=some c->X.s₀.heap.objs.size<=c
 hd:X.calm=true->X.A.handled=none
 frames:X.A.frames=some X.stack
 stk:X.stack=X.outer\/(X.stack=X.env::X.outer/\X.env.frame=some X.env.locals)
 exf:∀b∈X.ex,b≠X.env.locals/\∀x c,X.env.cells.lookup x=some c->c≠b
 bs:∀b o,X.base.get? b=some o->X.s₀.heap.get? b=some o/\X.H₀ b=none
 bsz:X.base.objs.size<=X.s₀.heap.objs.size
 noex:∀b o,X.base.get? b=some o->b ∉ X.ex
 exfs:∀b∈X.ex,b ∉ X.fs
 funs:X.s₀.heap.FunFrames X.base X.outer
 frf:∀b∈X.fs,X.H₀ b=none
structure Inv(X:Cx)(gV:iD)(σ:List (Option V))(H:Hp)(s:qK):Prop where
 ok:X.Ok
 os:s.os=X.s₀.os
 bare:AllBare s.gens
 base:Un X.fs X.ex X.H₀ H X.s₀.heap s.heap
 loc:∃m,s.heap.Ns X.env.locals m/\∀(i:Nat) (x:Str) (v:V),X.N[i]?=some x->σ[i]?=↑v->Vis X.env.scope x->∃u,RelV v u/\Look X.env s.heap m x u
 cell:∀x c,X.env.cells.lookup x=some c->∃v,s.heap.IsCell c v
 free:H X.env.locals=none
 freeC:∀x c,X.env.cells.lookup x=some c->H c=none
 pin:∀p∈X.pn++gV,s.heap.get? p.1=some p.2/\H p.1=none/\p.1≠X.env.locals/\p.1 ∉ X.fs/\∀v,p.2.data≠.cell v
 hok:HOk X.prog X.w H s.heap
 len:σ.length=X.N.length
section
variable{X:Cx}{gV:iD}{σ:List (Option V)}{H H':Hp}{s:qK}{h':qQ}
def Cx.Ok.nofr(ok:X.Ok){b:qJ}{o:Obj}(e:X.base.get? b=some o):b ∉ X.fs:=λhb=>by
 have:=(ok.funs.mem hb).1;rw[e]at this;cases this
def Inv.bs(I:Inv X gV σ H s):∀b o,X.base.get? b=some o->s.heap.get? b=some o/\H b=none:=λb o e=>
 ⟨I.base.keep b o (I.ok.bs b o e).1 (I.ok.bs b o e).2 (I.ok.nofr e) (I.ok.noex b o e),I.base.free b o (I.ok.bs b o e).1 (I.ok.bs b o e).2 (I.ok.noex b o e)⟩
def Inv.bk(I:Inv X gV σ H s):∀b o,X.base.get? b=some o->s.heap.get? b=some o:=λb o e=>(I.bs b o e).1
def Inv.mod(I:Inv X gV σ H s):Mod X.K X.mg X.base:=I.ok.mod
def Inv.kIn(I:Inv X gV σ H s):X.K.In s.heap:=I.ok.mod.kin.keeps I.bk
def Inv.lt(I:Inv X gV σ H s):X.env.locals<s.heap.objs.size:=let ⟨_,hn,_⟩:=I.loc;hn.lt
def Inv.sz(I:Inv X gV σ H s):X.s₀.heap.objs.size<=s.heap.objs.size:=bL I.ok.above (eM I.lt)
def Inv.nofs(I:Inv X gV σ H s){a:qJ}(h:s.heap.objs.size<=a):a ∉ X.fs:=λhb=>by
 obtain⟨_,o,ho,_⟩:=I.ok.funs.mem hb;exact absurd (bE (aP ho) (bL I.sz h)) (cV _)
def Inv.cne(I:Inv X gV σ H s):∀x c,X.env.cells.lookup x=some c->c≠X.env.locals:=λx c e z=>by
 obtain⟨v,o,ho,hd⟩:=I.cell x c e;obtain⟨m,⟨o',es,ep,jh,jW,_⟩,_⟩:=I.loc;rw[z,jh]at ho;cases ho;rw[jW]at hd;cases hd
def Inv.funs(I:Inv X gV σ H s):s.heap.FunFrames X.base X.outer:=by
 have all:∀(l:List Env),(∀b∈frs l,b∈X.fs)->X.s₀.heap.FunFrames X.base l->s.heap.FunFrames X.base l:=by
  intro l
  induction l with
  |nil=>intro _ _;trivial
  |cons env r ih=>
   intro hs hl;obtain⟨hk,⟨L,o,hf,hn,ho,hd⟩,hr⟩:=hl;have hL:L∈X.fs:=hs L (by unfold frs;rw[cJ,hf];exact da);obtain⟨sl,e⟩:=I.base.slot L o ho (I.ok.frf L hL) hL λz=>I.ok.exfs L z hL
   exact⟨hk,⟨L,_,hf,hn,e,hd⟩,ih (λb hb=>hs b (by unfold frs;rw[cJ,hf];exact cU _ hb)) hr⟩
 exact all X.outer (λ_ hb=>hb) I.ok.funs
def Inv.stack(I:Inv X gV σ H s):s.heap.FunFrames X.base X.stack:=by
 rcases I.ok.stk with e|⟨e,hf⟩
 ·rw[e];exact I.funs
 ·rw[e]
  obtain⟨m,hn,_⟩:=I.loc;refine .cons (by rw[I.ok.kind];decide) hf hn ?_ I.funs;exact Heap.get?_none_of_le (bL I.ok.bsz I.ok.above)
def Inv.stkSub(I:Inv X gV σ H s):∀b∈frs X.stack,b∈X.env.locals::X.fs:=λb hb=>by
 rcases I.ok.stk with e|⟨e,hf⟩
 ·rw[e]at hb;exact cU _ hb
 ·rw[e]at hb
  unfold frs at hb;rw[cJ,hf]at hb;exact hb
def Inv.stkFree(I:Inv X gV σ H s):∀b∈frs X.stack,H b=none:=λb hb=>by
 rcases aN.mp (I.stkSub b hb) with e|hb
 ·rw[e];exact I.free
 ·obtain⟨_,o,ho,_⟩:=I.ok.funs.mem hb
  exact I.base.free b o ho (I.ok.frf b hb) λz=>I.ok.exfs b z hb
def Inv.step{g':Array GenState}{t':Nat}{d':Drawn}{ch:iI}(I:Inv X gV σ H s)(kF:∀b∈ch,(b∈X.ex\/X.s₀.heap.objs.size<=b)/\b≠X.env.locals/\(∀x c,X.env.cells.lookup x=some c->c≠b)/\∀p∈X.pn++gV,p.1≠b)(keep:∀b o,b≠X.env.locals->b ∉ X.fs->b ∉ ch->s.heap.get? b=some o->H b=none->h'.get? b=some o)(slot:∀b o,b≠X.env.locals->b∈X.fs->b ∉ ch->s.heap.get? b=some o->H b=none->∃sl,h'.get? b=some {o with slots:=sl}) (free:∀b o,b ∉ ch->s.heap.get? b=some o->H b=none->H' b=none)(there:∀b o,b ∉ ch->s.heap.get? b=some o->∃o',h'.get? b=some o')(tups:∀b xs,H b=some (.tup xs)->H' b=some (.tup xs)) (frzs:∀b o u,H b=some (.frz o u)->H' b=some (.frz o u)) (tbls:∀b ps,H b=some (.tbl ps)->∃more,H' b=some (.tbl (ps++more)))(ns:∀m,s.heap.Ns X.env.locals m->h'.Ns X.env.locals m) (hok:HOk X.prog X.w H' h') (hg:AllBare g'):Inv X gV σ H' {s with heap:=h',gens:=g',drawn:=d',toks:=t'}:=by
 have neL:∀b o,X.s₀.heap.get? b=some o->b≠X.env.locals:=λb o e=>aX (bE (aP e) I.ok.above)
 have neC:∀b o,X.s₀.heap.get? b=some o->b ∉ X.ex->b ∉ ch:=λb o e hx hb=>by
  rcases (kF b hb).1 with z|z
  ·exact hx z
  ·exact absurd (bE (aP e) z) (cV _)
 have cellK:∀x c,X.env.cells.lookup x=some c->∀v,s.heap.IsCell c v->h'.IsCell c v:=λx c e v ⟨o,ho,hd⟩=>by
  have nch:c ∉ ch:=λz=>(kF c z).2.2.1 x c e rfl
  by_cases hc:c∈X.fs
  ·obtain⟨sl,q⟩:=slot c o (I.cne x c e) hc nch ho (I.freeC x c e)
   exact⟨_,q,hd⟩
  ·exact⟨o,keep c o (I.cne x c e) hc nch ho (I.freeC x c e),hd⟩
 refine⟨I.ok,I.os,hg,⟨λb o e n hb hx=>?_,λb o e n hb hx=>?_,λb o e n hx=>?_,λb o e hx=>?_,λb xs e=>tups b xs (I.base.tups b xs e),λb o xs e=>frzs b o xs (I.base.frzs b o xs e),λb ps e=>?_⟩,?_,λx c e=>?_,?_,λx c e=>?_,λp hp=>?_,hok,I.len⟩
 ·exact keep b o (neL b o e) hb (neC b o e hx) (I.base.keep b o e n hb hx) (I.base.free b o e n hx)
 ·obtain⟨sl,e1⟩:=I.base.slot b o e n hb hx
  obtain⟨jc,e2⟩:=slot b _ (neL b o e) hb (neC b o e hx) e1 (I.base.free b o e n hx);exact⟨jc,e2⟩
 ·obtain⟨o',e1⟩:=I.base.there b o e hx
  exact free b o' (neC b o e hx) e1 (I.base.free b o e n hx)
 ·obtain⟨o',e1⟩:=I.base.there b o e hx
  exact there b o' (neC b o e hx) e1
 ·obtain⟨m1,e1⟩:=I.base.tbls b ps e
  obtain⟨m2,e2⟩:=tbls b _ e1;exact⟨m1++m2,by rw[e2,Array.append_assoc]⟩
 ·obtain⟨m,hn,hl⟩:=I.loc
  refine⟨m,ns m hn,λi x v e1 e2 e3=>?_⟩;obtain⟨u,r,l⟩:=hl i x v e1 e2 e3;refine⟨u,r,?_⟩;rcases l with l|⟨k,c,e,z⟩
  ·exact .inl l
  ·exact .inr ⟨k,c,e,cellK x c e _ z⟩
 ·obtain⟨v,z⟩:=I.cell x c e
  exact⟨v,cellK x c e v z⟩
 ·obtain⟨m,⟨o,_,_,ho,_⟩,_⟩:=I.loc
  exact free _ o (λz=>(kF _ z).2.1 rfl) ho I.free
 ·obtain⟨v,o,ho,hd⟩:=I.cell x c e
  exact free c o (λz=>(kF c z).2.2.1 x c e rfl) ho (I.freeC x c e)
 ·obtain⟨e,n,ne,nf,d⟩:=I.pin p hp
  have nch:p.1 ∉ ch:=λz=>(kF p.1 z).2.2.2 p hp rfl
  exact⟨keep p.1 p.2 ne nf nch e n,free p.1 p.2 nch e n,ne,nf,d⟩
def Inv.un{t':Nat}(I:Inv X gV σ H s)(u:Un X.fs [] H H' s.heap h')(hok:HOk X.prog X.w H' h'):Inv X gV σ H' {s with heap:=h',toks:=t'}:=by
 obtain⟨m,⟨o,es,ep,ho,r⟩,_⟩:=id I.loc;obtain⟨sl,hL⟩:=u.any ho I.free .(2)
 exact I.step (g':=s.gens) (d':=s.drawn) (ch:=[]) (λ_ z=>nomatch z) (λb o _ hb _ e n=>u.keep b o e n hb .(2)) (λb o _ hb _ e n=>u.slot b o e n hb .(2)) (λb o _ e n=>u.free b o e n .(2)) (λb o _ e=>u.there b o e .(2)) u.tups u.frzs u.tbls (λm' hm=>by
  obtain⟨o',jK,kG,jh,r'⟩:=hm;rw[ho]at jh;cases jh;exact⟨_,jK,kG,hL,r'⟩) hok I.bare
def Inv.call{g':Array GenState}{t':Nat}{d':Drawn}{ch:iI}(I:Inv X gV σ H s)(u:Un (frs X.stack) ch H H' s.heap h')(hok:HOk X.prog X.w H' h')(hg:AllBare g')(kF:∀b∈ch,(b∈X.ex\/X.s₀.heap.objs.size<=b)/\b≠X.env.locals/\(∀x c,X.env.cells.lookup x=some c->c≠b)/\∀p∈X.pn++gV,p.1≠b):Inv X gV σ H' {s with heap:=h',gens:=g',drawn:=d',toks:=t'}:=by
 obtain⟨m,⟨o,es,ep,ho,r⟩,_⟩:=id I.loc;obtain⟨sl,hL⟩:=u.any ho I.free λz=>(kF _ z).2.1 rfl
 exact I.step (ch:=ch) kF (λb o hL hb hc e n=>u.keep b o e n (λz=>(aN.mp (I.stkSub b z)).elim hL hb) hc) (λb o _ _ hc e n=>u.any e n hc) (λb o hc e n=>u.free b o e n hc) (λb o hc e=>u.there b o e hc) u.tups u.frzs u.tbls (λm' hm=>by
  obtain⟨o',jK,kG,jh,r'⟩:=hm;rw[ho]at jh;cases jh;exact⟨_,jK,kG,hL,r'⟩) hok hg
def Inv.turned{t':Nat}{it:qJ}(I:Inv X gV σ H s)(k:∀b o,b≠it->s.heap.get? b=some o->h'.get? b=some o)(hn:H it=none)(hL:it≠X.env.locals)(h1:it∈X.ex\/X.s₀.heap.objs.size<=it) (h2:∀x c,X.env.cells.lookup x=some c->c≠it) (h3:∀p∈X.pn++gV,p.1≠it):Inv X gV σ H {s with heap:=h',toks:=t'}:=by
 have nit:∀b u,H b=some u->b≠it:=λb u e z=>by rw[z,hn]at e;cases e
 refine I.step (g':=s.gens) (d':=s.drawn) (ch:=[it]) (λb hb=>?_) (λb o _ _ hc e _=>k b o (λz=>hc (by simp[z])) e) (λb o _ _ hc e _=>⟨o.slots,k b o (λz=>hc (by simp[z])) e⟩) (λ_ _ _ _ n=>n)
  (λb o hc e=>⟨o,k b o (λz=>hc (by simp[z])) e⟩) (λ_ _ e=>e) (λ_ _ _ e=>e) (λb ps e=>⟨#[],by rw[e];simp⟩) (λm hm=>?_) (λb u e=>?_) I.bare
 ·have e:b=it:=by simpa using hb
  subst e;exact⟨h1,hL,h2,h3⟩
 ·obtain⟨o,es,ep,ho,r⟩:=hm
  exact⟨o,es,ep,k _ o (cI hL) ho,r⟩
 ·refine(I.hok b u e).stay (λc v hc q=>k c v ?_ q) (λ_ q=>q) λ_ _ q=>q
  rcases hc with z|z
  ·rw[z];exact nit b u e
  ·exact nit c _ z
def Inv.tok(I:Inv X gV σ H s)(t:Nat):Inv X gV σ H {s with toks:=t}:=I.un (h':=s.heap) (t':=t) Un.refl I.hok
def Inv.kept{t':Nat}(I:Inv X gV σ H s)(k:∀b u,s.heap.get? b=some u->h'.get? b=some u):Inv X gV σ H {s with heap:=h',toks:=t'}:=I.un (Un.kept k) (I.hok.kept k)
def Inv.laid{a:qJ}{o:HO}{t':Nat}(I:Inv X gV σ H s)(k:∀b u,s.heap.get? b=some u->h'.get? b=some u)(hp:s.heap.objs.size<=a)(new:ObjOk X.prog X.w (upd H a o) h' a o):Inv X gV σ (upd H a o) {s with heap:=h',toks:=t'}:=I.un (Un.laid k hp (I.hok.fresh hp)) (I.hok.laid k hp new)
def Inv.write{x e:qJ}{o:HO}{t':Nat}(I:Inv X gV σ H s)(mu:Mut (H x))(he:e=x\/H e=some (.own x))(k:∀b u,b≠e->s.heap.get? b=some u->h'.get? b=some u)(lO:∃u,h'.get? e=some u)(new:ObjOk X.prog X.w (upd H x o) h' x o):Inv X gV σ (upd H x o) {s with heap:=h',toks:=t'}:=I.un (Un.write mu he k lO) (I.hok.write mu he k lO new)
def Inv.pins_of{k6:iD}(I:Inv X gV σ H s)(h:∀p∈k6,s.heap.get? p.1=some p.2/\H p.1=none/\p.1≠X.env.locals/\p.1 ∉ X.fs/\∀v,p.2.data≠.cell v):Inv X k6 σ H s:=
 ⟨I.ok,I.os,I.bare,I.base,I.loc,I.cell,I.free,I.freeC,λp hp=>(dD.mp hp).elim (λz=>I.pin p (gC _ z)) (h p),I.hok,I.len⟩
def P5{N:iM}(hN:N.Nodup){i j:Nat}{x:Str}(a:N[i]?=some x)(b:N[j]?=some x):i=j:=by
 obtain⟨h1,e1⟩:=aJ.mp a;obtain⟨h2,e2⟩:=aJ.mp b;exact(List.getElem_inj hN).mp (e1<|e2.symm)
abbrev rG(X:Cx)(x):=X.fn x=true\/X.env.scope.names.lookup x=some .local
def N1{M:Model}{A:qO}{E:iA}{i:Nat}{x:Str}{v:V}{u:qI}{Q:Unit->Shared->Prop}(I:Inv X gV σ H s)(hN:X.N.Nodup)(hi:X.N[i]?=some x)(hx:Loc X.env.scope x)(r:RelV v u)(h:∀s',Inv X gV (σ.set i (some v)) H s'->(∃a,Heap.SameBut a s.heap s'.heap/\(a=X.env.locals\/X.env.cells.lookup x=some a))->Q () s') (hf:rG X x:=by first|exact .inl rfl|exact .inr rfl|assumption):wpAny M A (storeName X.env x u) Q E s:=by
 obtain⟨m,hn,hl⟩:=id I.loc;have hcls:(X.env.scope.kind == .class || (X.env.scope.kind == .module&&X.env.locals != X.env.globals))=false:=by rw[I.ok.kind];rfl
 have hiσ:i < σ.length:=by rw[I.len];exact(aJ.mp hi).1
 have cne:=I.cne
 have tracked:∀{a:qJ} {h':qQ},(∃o,s.heap.get? a=some o/\H a=none)->Heap.SameBut a s.heap h'->HOk X.prog X.w H h':=λ{a h'} ha hs b ob e=>by
  obtain⟨_,_,k7⟩:=ha;refine(I.hok b ob e).stay (λc w' hc q=>hs.2 c ?_<|q) (λ_ q=>q) λ_ _ q=>q
  rintro rfl;rcases hc with rfl|hc
  ·rw[k7]at e;cases e
  ·rw[k7]at hc;cases hc
 rcases hx with hk|hk
 ·refine wpAny_storeName_local hk hn (λh' lY hs=>?_) hcls
  obtain⟨oL,_,_,lZ,_⟩:=id hn;refine h _ ⟨I.ok,I.os,I.bare,⟨λb o e n hb hx=>?_,λb o e n hb hx=>?_,I.base.free,λb o e hx=>?_,I.base.tups,I.base.frzs,I.base.tbls⟩,⟨_,lY,λj y v' e1 e2 e3=>?_⟩,λy c e=>?_,I.free,I.freeC,λp hp=>?_,tracked ⟨oL,lZ,I.free⟩ hs,by simpa using I.len⟩ ⟨_,hs,.inl rfl⟩
  ·exact hs.2 b (aX (bE (aP e) I.ok.above))<|I.base.keep b o e n hb hx
  ·obtain⟨sl,e1⟩:=I.base.slot b o e n hb hx
   exact⟨sl,hs.2 b (aX (bE (aP e) I.ok.above))<|e1⟩
  ·obtain⟨o',e1⟩:=I.base.there b o e hx
   exact⟨o',hs.2 b (aX (bE (aP e) I.ok.above))<|e1⟩
  ·by_cases hj:j=i
   ·subst hj
    rw[hi]at e1;cases e1;rw[bQ hiσ]at e2;cases e2;exact⟨u,r,.inl ⟨hk,.(2)⟩⟩
   ·rw[bJ (cI hj)]at e2
    obtain⟨u',r',q⟩:=hl j y v' e1 e2 e3;refine⟨u',r',?_⟩;rcases q with ⟨k,e⟩|⟨k,c,e,z⟩
    ·refine .inl ⟨k,?_⟩
     have:y≠x:=λe=>hj (P5 hN e1 (e ▸ hi))
     simp[this,e]
    ·exact .inr ⟨k,c,e,z.sameBut hs (cne y c e)⟩
  ·obtain⟨w',z⟩:=I.cell y c e
   exact⟨w',z.sameBut hs (cne y c e)⟩
  ·obtain⟨e,n,ne,nf,d⟩:=I.pin p hp
   exact⟨hs.2 p.1 ne<|e,n,ne,nf,d⟩
 ·have hfn:X.fn x=true:=by
   rcases hf with z|z
   ·exact z
   ·rw[z]at hk;cases hk
  obtain⟨c,hc⟩:=I.ok.has x (.inl hk);obtain⟨w',z⟩:=I.cell x c hc;refine wpAny_storeName_cell I.ok.kind hk hc z (λh' ly hs=>?_);obtain⟨oc,mz,m5⟩:=id z;refine h {s with heap:=h'} ⟨I.ok,I.os,I.bare,⟨λb o e n hb hx=>?_,λb o e n hb hx=>?_,I.base.free,λb o e hx=>?_,I.base.tups,I.base.frzs,I.base.tbls⟩,⟨m,hn.sameBut hs (cI (cne x c hc)),λj y v' e1 e2 e3=>?_⟩,λy c' e=>?_,I.free,I.freeC,λp hp=>?_,tracked ⟨oc,mz,I.freeC x c hc⟩ hs,by simpa using I.len⟩ ⟨c,hs,.inr hc⟩
  ·exact hs.2 b (aX (bE (aP e) (I.ok.cab x c hfn hc)))<|I.base.keep b o e n hb hx
  ·obtain⟨sl,e1⟩:=I.base.slot b o e n hb hx
   exact⟨sl,hs.2 b (aX (bE (aP e) (I.ok.cab x c hfn hc)))<|e1⟩
  ·obtain⟨o',e1⟩:=I.base.there b o e hx
   exact⟨o',hs.2 b (aX (bE (aP e) (I.ok.cab x c hfn hc)))<|e1⟩
  ·by_cases hj:j=i
   ·subst hj
    rw[hi]at e1;cases e1;rw[bQ hiσ]at e2;cases e2;exact⟨u,r,.inr ⟨.inl hk,c,hc,ly⟩⟩
   ·rw[bJ (cI hj)]at e2
    obtain⟨u',r',q⟩:=hl j y v' e1 e2 e3;refine⟨u',r',?_⟩;rcases q with q|⟨k,c',e,z'⟩
    ·exact .inl q
    ·refine .inr ⟨k,c',e,z'.sameBut hs ?_⟩
     rintro rfl;exact hj (P5 hN e1 (I.ok.inj _ _ _ e hc ▸ hi))
  ·by_cases hcc:c'=c
   ·subst hcc;exact⟨_,ly⟩
   ·obtain⟨w2,z2⟩:=I.cell y c' e
    exact⟨w2,z2.sameBut hs hcc⟩
  ·obtain⟨e,n,ne,nf,d⟩:=I.pin p hp
   refine⟨hs.2 p.1 ?_<|e,n,ne,nf,d⟩;intro q;rw[q,mz]at e;have q':oc=p.2:=bM e;exact d w' (by rw[← q'];exact m5)
def OH{M:Model}{A:qO}{E:iA}{i:Nat}{x:Str}{v:V}{u:qI}{Q:Unit->Shared->Prop}(I:Inv X gV σ H s)(hN:X.N.Nodup)(hi:X.N[i]?=some x)(hx:Loc X.env.scope x)(r:RelV v u)(h:∀s',Inv X gV (σ.set i (some v)) H s'->Q () s') (hf:rG X x:=by first|exact .inl rfl|exact .inr rfl|assumption):wpAny M A (storeName X.env x u) Q E s:=
 N1 I hN hi hx r (λs' I' _=>h s' I') hf
def Inv.call'{s':qK}{ch:iI}(I:Inv X gV σ H s)(ho:s'.os=s.os)(u:Un (frs X.stack) ch H H' s.heap s'.heap)(hok:HOk X.prog X.w H' s'.heap)(hg:AllBare s'.gens)(kF:∀b∈ch,(b∈X.ex\/X.s₀.heap.objs.size<=b)/\b≠X.env.locals/\(∀x c,X.env.cells.lookup x=some c->c≠b)/\∀p∈X.pn++gV,p.1≠b):Inv X gV σ H' s':=by
 obtain⟨h',g',d',t',o'⟩:=s';have e:o'=s.os:=ho;subst e;exact I.call (g':=g') (t':=t') (d':=d') u hok hg kF
end
abbrev XK:=qI->Option qJ->Hp->Prop
abbrev St:=List (Option V)
abbrev VK:=V->Hp->Prop
abbrev TE:=St->Hp->VK->Prop
abbrev TT:=St->Hp->(Bool->Hp->Prop)->Prop
abbrev TA:=St->Hp->(iQ->Hp->Prop)->Prop
structure Ends where
 nx:St->Hp->Prop
 rt:VK
 bk:St->Hp->Prop:=λ_ _=>False
 ct:St->Hp->Prop:=λ_ _=>False
abbrev TS:=Ends->St->Hp->Prop
def EP(X:Cx)(gV:iD)(σ:St)(Q:VK)(u:qI)(s':qK):Prop:=∃v H',Inv X gV σ H' s'/\RelV v u/\Q v H'
def TP(X:Cx)(gV:iD)(σ:St)(Q:Bool->Hp->Prop)(b:Bool)(s':qK):Prop:=∃H',Inv X gV σ H' s'/\Q b H'
def AP(X:Cx)(gV:iD)(σ:St)(Q:iQ->Hp->Prop)(us:iJ)(s':qK):Prop:=∃vs H',Inv X gV σ H' s'/\Vals vs us/\Q vs H'
def SP(X:Cx)(gV:iD)(D:Ends)(f:Flow)(s':qK):Prop:=
 match f with
 |.next=>∃i6 H',Inv X gV i6 H' s'/\D.nx i6 H'
 |.brk=>∃i6 H',Inv X gV i6 H' s'/\D.bk i6 H'
 |.cont=>∃i6 H',Inv X gV i6 H' s'/\D.ct i6 H'
 |.ret u=>∃v i6 H',Inv X gV i6 H' s'/\RelV v u/\D.rt v H'
def PE(X:Cx)(e:qS)(t:TE):Prop:=
 ∀(gV:iD) (s:qK) (σ:St) (H:Hp) (Q:VK),Inv X gV σ H s->t σ H Q->wpAny (model X.prog X.w) X.A (eval e X.env) (EP X gV σ Q) X.xe s
def PT(X:Cx)(e:qS)(t:TT):Prop:=
 ∀(gV:iD) (s:qK) (σ:St) (H:Hp) (Q:Bool->Hp->Prop),Inv X gV σ H s->t σ H Q->wpAny (model X.prog X.w) X.A (isTrue e X.env (eval e X.env)) (TP X gV σ Q) X.xe s
def PW(X:Cx)(e:qS)(t:TT):Prop:=
 ∀(whole:Sem qI) (gV:iD) (s:qK) (σ:St) (H:Hp) (Q:Bool->Hp->Prop),Inv X gV σ H s->t σ H Q->wpAny (model X.prog X.w) X.A (isTrue e X.env whole) (TP X gV σ Q) X.xe s
def PW.pt{X:Cx}{e:qS}{t:TT}(h:PW X e t):PT X e t:=h _
def PA(X:Cx)(es:iN)(t:TA):Prop:=
 ∀(pos:Pos) (gV:iD) (s:qK) (σ:St) (H:Hp) (Q:iQ->Hp->Prop),Inv X gV σ H s->t σ H Q->wpAny (model X.prog X.w) X.A (spliced (backTo pos (starEach es X.env))) (AP X gV σ Q) X.xe s
def PS(X:Cx)(st:qR)(t:TS):Prop:=
 ∀(gV:iD) (s:qK) (σ:St) (H:Hp) (D:Ends),Inv X gV σ H s->t D σ H->wpAny (model X.prog X.w) X.A (exec st X.env) (SP X gV D) X.xe s
def PSs(X:Cx)(st:List qR)(t:TS):Prop:=
 ∀(gV:iD) (s:qK) (σ:St) (H:Hp) (D:Ends),Inv X gV σ H s->t D σ H->wpAny (model X.prog X.w) X.A (execs st X.env) (SP X gV D) X.xe s
def thn{α:Type}{t:Sem α}{Q Q':α->Shared->Prop}{M:Model}{A:qO}{E:iA}{s:qK}(h:wpAny M A t Q E s)(hQ:∀a s,Q a s->Q' a s):wpAny M A t Q' E s:=cw h hQ λ_ _ x=>x
section
variable{X:Cx}
def tVar(i:Nat):TE:=λσ H Q=>∃v,σ[i]?=↑v/\Q v H
def tC(v:V):TE:=λ_ H Q=>Q v H
def pe_var{i:Nat}{x:Str}{pos:Pos}(hN:X.N[i]?=some x)(hv:Vis X.env.scope x)(hd:(x == ("__debug__":Str))=false:=by decide)(jS:(x == ("__classdict__":Str))=false:=by decide):PE X (.Name x pos) (tVar i):=by
 intro gV s σ H Q I h;obtain⟨v,e,h⟩:=h;obtain⟨m,hn,hl⟩:=I.loc;obtain⟨u,r,l⟩:=hl i x v hN e hv;have fin:EP X gV σ Q u s:=⟨v,H,I,r,h⟩;rcases l with ⟨hk,hm⟩|⟨hk,c,hc,j5⟩
 ·exact wpAny_Name (wpAny_loadName_local I.ok.kind hk hn hm fin) hd
 ·rcases hk with hk|hk
  ·exact wpAny_Name (wpAny_loadName_cell I.ok.kind hk hc j5 fin) hd
  ·exact wpAny_Name (wpAny_loadName_free I.ok.kind hk hc j5 fin jS) hd
def pe_int{i j pos}:PE X (.Constant (.int i) j pos) (tC (.int i)):=λ_ _ _ H _ I h=>wpAny_Constant_int ⟨.int i,H,I.tok _,⟨_,rfl⟩,h⟩
def pe_bl{b j pos}:PE X (.Constant (.bool b) j pos) (tC (.bl b)):=λ_ _ _ H _ I h=>Constant_bool ⟨.bl b,H,I,rfl,h⟩
def pe_non{j pos}:PE X (.Constant .none j pos) (tC .non):=λ_ _ _ H _ I h=>Constant_none ⟨.non,H,I,rfl,h⟩
def EU{x j pos}:PE X (.Constant (.str x) j pos) (tC (.str x)):=λ_ _ _ H _ I h=>Calls.Constant_str ⟨.str x,H,I.tok _,⟨_,rfl⟩,h⟩
def Gl(X:Cx)(x:Str):Prop:=X.env.kindOf x=some .globalImplicit
def T5{E:iA}{gV:iD}{s:qK}{σ:St}{H:Hp}{x:Str}{u:qI}{pos:Pos}{Q:iA}(I:Inv X gV σ H s)(hg:Gl X x)(hm:X.mg x=some u)(h:Q u s)(hd:(x == ("__debug__":Str))=false:=by decide):wpAny (model X.prog X.w) X.A (eval (.Name x pos) X.env) Q E s:=
 Calls.Name_function_global I.ok.kind hg (Calls.loadGlobal_global (by rw[I.ok.glob];exact I.mod.glob.keeps I.bk) hm h) hd
def Lp{E:iA}{gV:iD}{s:qK}{σ:St}{H:Hp}{x:Str}{u:qI}{pos:Pos}{Q:iA}(I:Inv X gV σ H s)(hg:Gl X x)(hm:X.mg x=none)(hv:bootBuiltins x=some u)(h:Q u s)(hn:x≠"__name__":=by decide) (hd:(x == ("__debug__":Str))=false:=by decide):wpAny (model X.prog X.w) X.A (eval (.Name x pos) X.env) Q E s:=by
 obtain⟨mb,h1,h2⟩:=I.mod.blt;exact Calls.Name_function_global I.ok.kind hg (Calls.loadGlobal_builtin (by rw[I.ok.glob];exact I.mod.glob.keeps I.bk) hm (by rw[I.ok.blt];exact h1.keeps I.bk) (h2 x hn<|hv) h) hd
def UK{x:Str}{v:V}{u:qI}{pos:Pos}(hg:Gl X x)(hm:X.mg x=some u)(r:RelV v u)(hd:(x == ("__debug__":Str))=false:=by decide):PE X (.Name x pos) (tC v):=
 λ_ _ _ H _ I h=>T5 I hg hm ⟨v,H,I,r,h⟩ hd
def AY{x:Str}{v:V}{u:qI}{pos:Pos}(hg:Gl X x)(hm:X.mg x=none)(hv:bootBuiltins x=some u)(r:RelV v u)(hn:x≠"__name__":=by decide)(hd:(x == ("__debug__":Str))=false:=by decide):PE X (.Name x pos) (tC v):=
 λ_ _ _ H _ I h=>Lp I hg hm hv ⟨v,H,I,r,h⟩ hn hd
variable{a b:qS}{ta tb:TE}{pos:Pos}
def PC(X:Cx)(op:CmpOp)(a b:qS)(t:TE):Prop:=
 ∀(gV:iD) (s:qK) (σ:St) (H:Hp) (Q:VK),Inv X gV σ H s->t σ H Q ->
  wpAny (model X.prog X.w) X.A (eval a X.env) (λv i4=>wpAny (model X.prog X.w) X.A (eval b X.env) (λu ir=>wpAny (model X.prog X.w) X.A (compareOp op v u) (EP X gV σ Q) X.xe ir) X.xe i4) X.xe s
def Kn(b:qS){op:CmpOp}(h:op≠.In)(h2:op≠.NotIn):behindInMarks op b=false:=by
 have e1:(op == CmpOp.In)=false:=by cases op <;> first|rfl|exact absurd rfl h
 have e2:(op == CmpOp.NotIn)=false:=by cases op <;> first|rfl|exact absurd rfl h2
 cases b <;> simp[behindInMarks,e1,e2]
def tIsN(ta:TE):TE:=λσ H Q=>ta σ H λx H1=>Q (.bl (decide (x=.non))) H1
def tNotN(ta:TE):TE:=λσ H Q=>ta σ H λx H1=>Q (.bl (!decide (x=.non))) H1
def RelV.none_iff{x:V}{v:qI}(r:RelV x v):(v == Value.none)=decide (x=.non):=by
 cases x with
 |non=>cases r;rfl
 |bl _=>cases r;rfl
 |int _=>obtain⟨t,rfl⟩:=r;rfl
 |str _=>obtain⟨t,rfl⟩:=r;rfl
 |byt _=>obtain⟨t,rfl⟩:=r;rfl
 |flt _=>obtain⟨t,rfl⟩:=r;rfl
 |ref _=>cases r;rfl
 |ty _=>cases r;rfl
def EC{j jf}(ha:PE X a ta):PC X .Is a (.Constant .none j jf) (tIsN ta):=by
 intro gV s σ H Q I h;refine thn (ha gV s σ H _ I h) λv s1 ⟨x,H1,I1,r1,q1⟩=>?_
 exact Constant_none (is_none_gen ⟨.bl _,H1,I1,by rw[r1.none_iff];rfl,q1⟩)
def Bz{j jf}(ha:PE X a ta):PC X .IsNot a (.Constant .none j jf) (tNotN ta):=by
 intro gV s σ H Q I h;refine thn (ha gV s σ H _ I h) λv s1 ⟨x,H1,I1,r1,q1⟩=>?_
 exact Constant_none (isnot_none_gen ⟨.bl _,H1,I1,by rw[r1.none_iff];rfl,q1⟩)
def tB(t:TE):TT:=λσ H Q=>t σ H λx H1=>∃c,x=.bl c/\Q c H1
def Bg{op:CmpOp}{t:TE}(h:PC X op a b t)(h1:behindInMarks op b=false:=by first|exact Kn _ .(1) .(1)|rfl):PE X (.Compare a [op] [b] pos) t:=λgV s σ H Q I hw=>wpAny_Compare1 (h gV s σ H Q I hw) h1
def Li{op:CmpOp}{t:TE}(h:PC X op a b t)(h1:behindInMarks op b=false:=by first|exact Kn _ .(1) .(1)|rfl):PT X (.Compare a [op] [b] pos) (tB t):=by
 intro gV s σ H Q I hw;refine wpAny_isTrue_Compare1 (thn (h gV s σ H _ I hw) λv s1 h1=>thn h1 λu s2 h2=>thn h2 λc s3 ⟨x,H1,I1,r1,q1⟩=>?_) h1;obtain⟨d,rfl,q⟩:=q1;cases r1;exact dr ⟨H1,I1,q⟩
variable{tA mB:TT}{rest:iN}
def tAnd(t u:TT):TT:=λσ H Q=>t σ H λc H1=>if c=true then u σ H1 Q else Q false H1
def tOr(t u:TT):TT:=λσ H Q=>t σ H λc H1=>if c=true then Q true H1 else u σ H1 Q
def tNot(t:TT):TT:=λσ H Q=>t σ H λc H1=>Q (!c) H1
def Ab(ha:PT X a tA):PW X (.BoolOp .And [a] pos) tA:=by
 intro wh gV s σ H Q I h;refine isTrue_and (thn (ha gV s σ H Q I h) λc s1 e=>?_);cases c with
 |true=>exact isTrue_and_nil e
 |false=>exact e
def pw_or1(ha:PT X a tA):PW X (.BoolOp .Or [a] pos) tA:=by
 intro wh gV s σ H Q I h;refine isTrue_or (thn (ha gV s σ H Q I h) λc s1 e=>?_);cases c with
 |false=>exact isTrue_or_nil e
 |true=>exact e
def pw_and(ha:PT X a tA)(hb:PW X (.BoolOp .And (b::rest) pos) mB):PW X (.BoolOp .And (a::b::rest) pos) (tAnd tA mB):=by
 intro wh gV s σ H Q I h;refine isTrue_and (thn (ha gV s σ H _ I h) λc s1 ⟨H1,I1,q1⟩=>?_);cases c with
 |true=>exact hb wh gV s1 σ H1 Q I1 q1
 |false=>exact⟨H1,I1,q1⟩
def pw_or(ha:PT X a tA)(hb:PW X (.BoolOp .Or (b::rest) pos) mB):PW X (.BoolOp .Or (a::b::rest) pos) (tOr tA mB):=by
 intro wh gV s σ H Q I h;refine isTrue_or (thn (ha gV s σ H _ I h) λc s1 ⟨H1,I1,q1⟩=>?_);cases c with
 |true=>exact⟨H1,I1,q1⟩
 |false=>exact hb wh gV s1 σ H1 Q I1 q1
def pt_not(ha:PT X a tA):PT X (.UnaryOp .Not a pos) (tNot tA):=by
 intro gV s σ H Q I h;exact isTrue_not (ha gV s σ H (λc H1=>Q (!c) H1) I h)
def tAndV(ta tb:TE):TE:=λσ H Q=>ta σ H λx H1=>∃c,x=.bl c/\if c=true then tb σ H1 Q else Q (.bl false) H1
def tOrV(ta tb:TE):TE:=λσ H Q=>ta σ H λx H1=>∃c,x=.bl c/\if c=true then Q (.bl true) H1 else tb σ H1 Q
def tNotV(ta:TE):TE:=λσ H Q=>ta σ H λx H1=>∃c,x=.bl c/\Q (.bl (!c)) H1
def pe_one{op}{t:TE}(h:PE X a t):PE X (.BoolOp op [a] pos) t:=λgV s σ H Q I hw=>BoolOp_one (h gV s σ H Q I hw)
def pe_and(ha:PE X a ta)(hb:PE X (.BoolOp .And (b::rest) pos) tb):PE X (.BoolOp .And (a::b::rest) pos) (tAndV ta tb):=by
 intro gV s σ H Q I h;refine BoolOp_and (thn (ha gV s σ H _ I h) λv s1 ⟨x,H1,I1,r1,q1⟩=>?_);obtain⟨c,rfl,q1⟩:=q1;cases r1;refine dr ?_;cases c with
 |true=>exact hb gV s1 σ H1 Q I1 q1
 |false=>exact⟨.bl false,H1,I1,rfl,q1⟩
def pe_or(ha:PE X a ta)(hb:PE X (.BoolOp .Or (b::rest) pos) tb):PE X (.BoolOp .Or (a::b::rest) pos) (tOrV ta tb):=by
 intro gV s σ H Q I h;refine BoolOp_or (thn (ha gV s σ H _ I h) λv s1 ⟨x,H1,I1,r1,q1⟩=>?_);obtain⟨c,rfl,q1⟩:=q1;cases r1;refine dr ?_;cases c with
 |false=>exact hb gV s1 σ H1 Q I1 q1
 |true=>exact⟨.bl true,H1,I1,rfl,q1⟩
def pe_not(ha:PE X a ta):PE X (.UnaryOp .Not a pos) (tNotV ta):=by
 intro gV s σ H Q I h;refine UnaryOp_ (thn (ha gV s σ H _ I h) λv s1 ⟨x,H1,I1,r1,q1⟩=>?_);obtain⟨c,rfl,q1⟩:=q1;cases r1;exact not_of (dr ⟨.bl (!c),H1,I1,rfl,q1⟩)
def tIf(t:TT)(ta tb:TE):TE:=λσ H Q=>t σ H λc H1=>if c=true then ta σ H1 Q else tb σ H1 Q
def EN{c:qS}(hc:PT X c tA)(ha:PE X a ta)(hb:PE X b tb):PE X (.IfExp c a b pos) (tIf tA ta tb):=by
 intro gV s σ H Q I h;refine wpAny_IfExp (thn (hc gV s σ H _ I h) λd s1 ⟨H1,I1,q1⟩=>?_);cases d with
 |true=>exact ha gV s1 σ H1 Q I1 q1
 |false=>exact hb gV s1 σ H1 Q I1 q1
end
def SqL(K:iC)(H:Hp)(a:qJ)(xs:iQ):Prop:=
 Rd H a (.lst xs) \/
  ∃(o:Obj) (iy:Array qI) (n:Nat),K.lookup a=some o/\o.cls=.type "list"/\o.dict=none/\o.data=.seq iy n/\iy.size<=sizeLine/\Vals xs iy.toList
def SqT(K:iC)(H:Hp)(a:qJ)(xs:iQ):Prop:=
 Rd H a (.tup xs) \/
  ∃(o:Obj) (iy:Array qI) (n:Nat),K.lookup a=some o/\o.cls=.type "tuple"/\o.data=.seq iy n/\iy.size<=sizeLine/\Vals xs iy.toList
def absV:qI->Option V
 |.none=>some .non
 |.bool b=>some (.bl b)
 |.int i _=>some (.int i)
 |.str x _=>some (.str x)
 |.bytes b _=>some (.byt b)
 |.float b _=>some (.flt b)
 |.ref a=>some (.ref a)
 |.type n=>some (.ty n)
 |_=>none
def RelV.abs{x:V}{u:qI}(r:RelV x u):absV u=some x:=by
 cases x with
 |non=>cases r;rfl
 |bl _=>cases r;rfl
 |int _=>obtain⟨t,rfl⟩:=r;rfl
 |str _=>obtain⟨t,rfl⟩:=r;rfl
 |byt _=>obtain⟨t,rfl⟩:=r;rfl
 |flt _=>obtain⟨t,rfl⟩:=r;rfl
 |ref _=>cases r;rfl
 |ty _=>cases r;rfl
def RelV.inj{x y:V}{u:qI}(r:RelV x u)(q:RelV y u):x=y:=bM (r.abs.symm<|q.abs)
def Vals.inj:∀{xs ys:iQ} {us:iJ},Vals xs us->Vals ys us->xs=ys
 |_,_,_,.nil,.nil=>rfl
 |_,_,_,.cons r t,.cons r' t'=>by rw[r.inj r',Vals.inj t t']
section
variable{X:Cx}{gV:iD}{σ:St}{H:Hp}{s:qK}{a:qJ}{xs ys:iQ}
def SqL.of{K:iC}(h:H a=some (.lst xs)):SqL K H a xs:=.inl (.inl h)
def SqT.of{K:iC}(h:H a=some (.tup xs)):SqT K H a xs:=.inl (.inl h)
def Inv.list(I:Inv X gV σ H s)(h:SqL X.K H a xs):∃iy:iJ,Vals xs iy/\PlainL s.heap a iy.toArray/\xs.length<=sizeLine:=by
 rcases h with h|⟨o,iy,n,hk,hc,hd,hs,hz,r⟩
 ·obtain⟨z,iy,n,r,e⟩:=h.ok I.hok
  exact⟨iy,r,⟨_,n,e,rfl,rfl,rfl⟩,z⟩
 ·refine⟨iy.toList,r,⟨o,n,I.kIn a o hk,hc,hd,by simpa using hs⟩,?_⟩
  have e:=r.length;simp only[aR]at e;omega
def Inv.tuple(I:Inv X gV σ H s)(h:SqT X.K H a xs):∃iy:iJ,Vals xs iy/\IsTup s.heap a iy.toArray/\xs.length<=sizeLine:=by
 rcases h with h|⟨o,iy,n,hk,hc,hs,hz,r⟩
 ·obtain⟨z,iy,r,p⟩:=h.ok I.hok
  exact⟨iy,r,p,z⟩
 ·refine⟨iy.toList,r,⟨o,I.kIn a o hk,hc,n,by simpa using hs⟩,?_⟩
  have e:=r.length;simp only[aR]at e;omega
def Inv.list_inj(I:Inv X gV σ H s)(h:SqL X.K H a xs)(h':SqL X.K H a ys):xs=ys:=by
 obtain⟨iy,r,⟨o,n,e,_,_,d⟩,_⟩:=I.list h;obtain⟨its',r',⟨o',n',e',_,_,d'⟩,_⟩:=I.list h';rw[e]at e';cases e';rw[d]at d';injection d' with d1 _
 have:iy=its':=by simpa using cE Array.toList d1
 subst this;exact r.inj r'
end
abbrev Cx.wish(X:Cx)(E:iA):Cx:={X with xe:=E}
abbrev Cx.nox(X:Cx):Cx:=X.wish λ_ _=>False
def Cx.Ok.wish{X:Cx}(ok:X.Ok)(E:iA):(X.wish E).Ok:=
 ⟨ok.mod,ok.kind,ok.glob,ok.blt,ok.above,ok.inj,ok.has,ok.cab,ok.hd,ok.frames,ok.stk,ok.exf,ok.bs,ok.bsz,ok.noex,ok.exfs,ok.funs,ok.frf⟩
def Cx.Ok.unwish{X:Cx}{E:iA}(ok:(X.wish E).Ok):X.Ok:=
 ⟨ok.mod,ok.kind,ok.glob,ok.blt,ok.above,ok.inj,ok.has,ok.cab,ok.hd,ok.frames,ok.stk,ok.exf,ok.bs,ok.bsz,ok.noex,ok.exfs,ok.funs,ok.frf⟩
section
variable{X:Cx}{gV:iD}{σ:St}{H:Hp}{s:qK}{E:iA}
def Inv.wish(I:Inv X gV σ H s)(E:iA):Inv (X.wish E) gV σ H s:=⟨I.ok.wish E,I.os,I.bare,I.base,I.loc,I.cell,I.free,I.freeC,I.pin,I.hok,I.len⟩
def Inv.unwish(I:Inv (X.wish E) gV σ H s):Inv X gV σ H s:=⟨I.ok.unwish,I.os,I.bare,I.base,I.loc,I.cell,I.free,I.freeC,I.pin,I.hok,I.len⟩
def SP.unwish{D:Ends}{f:Flow}{s':qK}(h:SP (X.wish E) gV D f s'):SP X gV D f s':=by
 cases f with
 |next=>obtain⟨i6,H',I,q⟩:=h;exact⟨i6,H',I.unwish,q⟩
 |brk=>obtain⟨i6,H',I,q⟩:=h;exact⟨i6,H',I.unwish,q⟩
 |cont=>obtain⟨i6,H',I,q⟩:=h;exact⟨i6,H',I.unwish,q⟩
 |ret u=>obtain⟨v,i6,H',I,r,q⟩:=h;exact⟨v,i6,H',I.unwish,r,q⟩
def PE.nox{e:qS}{t:TE}(h:PE X.nox e t):PE X e t:=λgV s σ H Q I hw=>
 cw (h gV s σ H Q (I.wish _) hw) (λ_ _ ⟨v,H',I',r,q⟩=>⟨v,H',I'.unwish,r,q⟩) λ_ _ z=>False.elim z
def PT.nox{e:qS}{t:TT}(h:PT X.nox e t):PT X e t:=λgV s σ H Q I hw=>
 cw (h gV s σ H Q (I.wish _) hw) (λ_ _ ⟨H',I',q⟩=>⟨H',I'.unwish,q⟩) λ_ _ z=>False.elim z
def PSs.nox{st:List qR}{t:TS}(h:PSs X.nox st t):PSs X st t:=λgV s σ H D I hw=>
 cw (h gV s σ H D (I.wish _) hw) (λ_ _ q=>q.unwish) λ_ _ z=>False.elim z
end
section
variable{X:Cx}{st:qR}{rest:List qR}{t u:TS}{e:qS}{te:TE}{pos:Pos}
def tNext:TS:=λD σ H=>D.nx σ H
def tSeq(t u:TS):TS:=λD σ H=>t {D with nx:=u D} σ H
def AL:PSs X [] tNext:=λ_ _ σ H _ I h=>eQ ⟨σ,H,I,h⟩
def C5(h1:PS X st t)(h2:PSs X rest u):PSs X (st::rest) (tSeq t u):=by
 intro gV s σ H D I h;refine wpAny_execs_cons (thn (h1 gV s σ H {D with nx:=u D} I h) λf s1 q=>?_);cases f with
 |next=>
  obtain⟨i6,H',I',q⟩:=q;exact h2 gV s1 i6 H' D I' q
 |ret v=>exact q
 |brk=>exact q
 |cont=>exact q
def AF(h1:PS X st t):PSs X [st] t:=by
 intro gV s σ H D I h;refine wpAny_execs_cons (thn (h1 gV s σ H D I h) λf s1 q=>?_);cases f with
 |next=>exact eQ q
 |ret v=>exact q
 |brk=>exact q
 |cont=>exact q
def Inv.quiet{gV:iD}{σ:St}{H:Hp}{s:qK}(I:Inv X gV σ H s):interactive X.env=false:=by simp[interactive,I.ok.kind]
def tDrop(te:TE):TS:=λD σ H=>te σ H λ_ H1=>D.nx σ H1
abbrev rM(e)(pos:Pos)(X:Cx):=swapsWith e none pos.line X.env=pure false
def Aw(he:PE X e te)(hs:rM e pos X:=by rfl):PS X (.Expr e pos) (tDrop te):=by
 intro gV s σ H D I h;exact wpAny_Expr_any (thn (he gV s σ H _ I h) λv s1 ⟨x,H1,I1,r1,q1⟩=>⟨σ,H1,I1,q1⟩) I.quiet hs
def tRet(te:TE):TS:=λD σ H=>te σ H D.rt
def ps_ret(he:PE X e te):PS X (.Return (some e) pos) (tRet te):=by
 intro gV s σ H D I h;exact wpAny_Return_some (thn (he gV s σ H _ I h) λv s1 ⟨x,H1,I1,r1,q1⟩=>⟨x,σ,H1,I1,r1,q1⟩)
def tRetN:TS:=λD _ H=>D.rt .non H
def BL:PS X (.Return none pos) tRetN:=λ_ _ σ H _ I h=>wpAny_Return_none ⟨.non,σ,H,I,rfl,h⟩
def tIfS(c:TT)(t u:TS):TS:=λD σ H=>c σ H λb H1=>if b=true then t D σ H1 else u D σ H1
def ps_if{c:qS}{a b:List qR}{tc:TT}(hc:PT X c tc)(ha:PSs X a t)(hb:PSs X b u):PS X (.If c a b pos) (tIfS tc t u):=by
 intro gV s σ H D I h;refine wpAny_If (thn (hc gV s σ H _ I h) λd s1 ⟨H1,I1,q1⟩=>?_);cases d with
 |true=>exact ha gV s1 σ H1 D I1 q1
 |false=>exact hb gV s1 σ H1 D I1 q1
end
abbrev TG:=V->St->Hp->(St->Hp->Prop)->Prop
abbrev TGs:=iQ->St->Hp->(St->Hp->Prop)->Prop
def PG(X:Cx)(target:qS)(t:TG):Prop:=
 ∀(gV:iD) (s:qK) (σ:St) (H:Hp) (v:V) (u:qI) (Q:St->Hp->Prop),Inv X gV σ H s->RelV v u->t v σ H Q ->
  wpAny (model X.prog X.w) X.A (assign target X.env u) (λ_ s'=>∃i6 H',Inv X gV i6 H' s'/\Q i6 H') X.xe s
def PGs(X:Cx)(ts:iN)(t:TGs):Prop:=
 ∀(gV:iD) (s:qK) (σ:St) (H:Hp) (vs:iQ) (us:iJ) (Q:St->Hp->Prop),Inv X gV σ H s->Vals vs us->t vs σ H Q ->
  wpAny (model X.prog X.w) X.A (assignInOrder ((assignEach ts X.env).map (·.2)) us) (λ_ s'=>∃i6 H',Inv X gV i6 H' s'/\Q i6 H') X.xe s
abbrev TSet:=V->V->V->Hp->(Hp->Prop)->Prop
def PSet(X:Cx)(t:TSet):Prop:=
 ∀(gV:iD) (s:qK) (σ:St) (H:Hp) (o i v:V) (ov iv u:qI) (Q:Hp->Prop),Inv X gV σ H s->RelV o ov->RelV i iv->RelV v u->t o i v H Q ->
  wpAny (model X.prog X.w) X.A (setItem ov iv u) (λ_ s'=>∃H',Inv X gV σ H' s'/\Q H') X.xe s
section
variable{X:Cx}{pos:Pos}
def Nd(i:Nat):TG:=λv σ H Q=>Q (σ.set i (some v)) H
def Y0{i:Nat}{x:Str}(hN:X.N.Nodup)(hi:X.N[i]?=some x)(hx:Loc X.env.scope x)(hf:rG X x:=by first|exact .inl rfl|exact .inr rfl|assumption):PG X (.Name x pos) (Nd i):=by
 intro gV s σ H v u Q I r h;exact wpAny_assign_Name (OH I hN hi hx r (λs' I'=>⟨_,H,I',h⟩) hf)
def gNil:TGs:=λvs σ H Q=>vs=[]/\Q σ H
def gCons(t:TG)(u:TGs):TGs:=λvs σ H Q=>∃v r,vs=v::r/\t v σ H λi6 H'=>u r i6 H' Q
def Wn:PGs X [] gNil:=by
 intro gV s σ H vs us Q I r h;obtain⟨e,h⟩:=h;subst e;cases r;exact assignInOrder_nil ⟨σ,H,I,h⟩
def Yh{e:qS}{es:iN}{t:TG}{u:TGs}(h1:PG X e t)(h2:PGs X es u)(hs:(assignEach (e::es) X.env).map (·.2)=assign e X.env::(assignEach es X.env).map (·.2):=by rfl):PGs X (e::es) (gCons t u):=by
 intro gV s σ H vs us Q I r h;obtain⟨v,vr,e1,h⟩:=h;subst e1;cases r with
 |cons r rr=>
  rw[hs];refine assignInOrder_cons (thn (h1 gV s σ H _ _ _ I r h) λ_ s1 ⟨σ1,H1,I1,q1⟩=>?_);exact h2 gV s1 σ1 H1 _ _ Q I1 rr q1
def Es(K:iC)(n:Nat)(t:TGs):TG:=λv σ H Q=>∃a xs,v=.ref a/\SqT K H a xs/\xs.length=n/\t xs σ H Q
def Vx{es:iN}{k:Nat}{t:TGs}{n:Nat}(hc:X.calm=true)(h:PGs X es t)(hn:(assignEach es X.env).length=n:=by rfl) (jT:(assignEach es X.env).findIdx? (·.1)=none:=by rfl):PG X (.Tuple es k pos) (Es X.K n t):=by
 intro gV s σ H v u Q I r hw;obtain⟨a,xs,e1,hq,hl,hw⟩:=hw;subst e1;cases r;obtain⟨iy,rv,ht,hz⟩:=I.tuple hq;refine assign_Tuple_tuple (I.ok.hd hc) ht (by simp[hn,← hl,rv.length]) jT λh' hx=>?_
 have I1:Inv X gV σ H {s with heap:=h'}:=I.kept (t':=s.toks) λb o e=>hx b o (aX (aP e)) e
 exact h gV _ σ H xs _ Q I1 (by simpa using rv) hw
def gSub(to ti:TE)(t:TSet):TG:=λv σ H Q=>to σ H λo H1=>ti σ H1 λi H2=>t o i v H2 λH3=>Q σ H3
def Dl{o i:qS}{to ti:TE}{t:TSet}(ho:PE X o to)(hi:PE X i ti)(hs:PSet X t)(ha:∀v,assign (.Subscript o i pos) X.env v=(do
     let ov ← holding [v] (eval o X.env)
     let iv ← holding [v,ov] (eval i X.env)
     standAt pos
     holding [v,ov,iv] (setItem ov iv v)
     release [v,ov,iv] []):=by intro _;rfl):PG X (.Subscript o i pos) (gSub to ti t):=by
 intro gV s σ H v u Q I r h;rw[ha];refine aA (cz (thn (ho gV s σ H _ I h) λov s1 ⟨x,H1,I1,r1,q1⟩=>?_));refine aA (cz (thn (hi gV s1 σ H1 _ I1 q1) λiv s2 ⟨y,H2,I2,r2,q2⟩=>?_));refine aA (wpAny_standAt (aA (cz (thn (hs gV s2 σ H2 x y v ov iv u _ I2 r1 r2 r q2) λ_ s3 ⟨H3,I3,q3⟩=>?_))));exact wpAny_release ⟨σ,H3,I3,q3⟩
def tAsg(te:TE)(g:TG):TS:=λD σ H=>te σ H λx H1=>g x σ H1 D.nx
def ps_asg{tg e:qS}{te:TE}{g:TG}(he:PE X e te)(hg:PG X tg g)(hs:swapsWithSole [tg] e pos.line X.env=pure false:=by rfl)(hw:swappedStores [tg] e X.env=pure none:=by rfl)(h1:(assignEach [tg] X.env).map (·.2)=[assign tg X.env]:=by rfl):PS X (.Assign [tg] e pos) (tAsg te g):=by
 intro gV s σ H D I h;refine wpAny_Assign_stores (thn (he gV s σ H _ I h) λv s1 ⟨x,H1,I1,r1,q1⟩=>?_) hs hw;rw[h1];exact thn (hg gV s1 σ H1 x v _ I1 r1 q1) λ_ s2 q=>q
def ps_set{i:Nat}{x:Str}{e:qS}{te:TE}{jf:Pos}(hN:X.N.Nodup)(hi:X.N[i]?=some x)(hx:Loc X.env.scope x)(he:PE X e te)(hs:swapsWith e (some (.Name x jf)) pos.line X.env=pure false:=by rfl)(hf:rG X x:=by first|exact .inl rfl|exact .inr rfl|assumption):PS X (.Assign [.Name x jf] e pos) (tAsg te (Nd i)):=by
 intro gV s σ H D I h;refine wpAny_Assign_Name (thn (he gV s σ H _ I h) λv s1 ⟨y,H1,I1,r1,q1⟩=>?_) hs;exact OH I1 hN hi hx r1 (λs2 I2=>⟨_,H1,I2,q1⟩) hf
end
section
variable{X:Cx}{pos:Pos}
def tWhile(c:TT)(tb:TS):TS:=λD σ H=>∃W:Nat->St->Hp->Prop,(∃m,W m σ H)/\∀m σ H,W m σ H ->
 c σ H λb H1=>if b=true then ∃N:St->Hp->Prop,(∀i6 H',N i6 H'->∃m',m'<m/\W m' i6 H')/\tb {D with nx:=N,ct:=N,bk:=D.nx} σ H1 else D.nx σ H1
def Ct{c:qS}{body:List qR}{tc:TT}{tb:TS}(hp:PassesOwn (model X.prog X.w) X.A X.env X.xe)(hc:PT X c tc)(hb:PSs X body tb):PS X (.While c body [] pos) (tWhile tc tb):=by
 intro gV s σ H D I h;obtain⟨W,⟨m0,w0⟩,turn⟩:=h;refine wpAny_While (codeAny_whileLoop (λn s'=>∃i6 H',Inv X gV i6 H' s'/\W n i6 H') ?_ m0 ⟨σ,H,I,w0⟩);rintro n s1 ⟨σ1,H1,I1,w1⟩;refine d5 hp (thn (hc gV s1 σ1 H1 _ I1 (turn n σ1 H1 w1)) λb s2 ⟨H2,I2,q2⟩=>?_);cases b with
 |true=>
  obtain⟨N,hN,q2⟩:=q2;rw[aC rfl];refine d5 hp (thn (hb gV s2 σ1 H2 _ I2 q2) λf s3 q3=>?_);cases f with
  |next=>
   obtain⟨kn,H3,I3,n3⟩:=q3;obtain⟨m',hm,w3⟩:=hN kn H3 n3;exact⟨m',hm,kn,H3,I3,w3⟩
  |cont=>
   obtain⟨kn,H3,I3,n3⟩:=q3;obtain⟨m',hm,w3⟩:=hN kn H3 n3;exact⟨m',hm,kn,H3,I3,w3⟩
  |brk=>exact q3
  |ret v=>exact q3
 |false=>
  rw[aD aF];exact eQ ⟨σ1,H2,I2,q2⟩
end
structure It where
 go:Nat->Hp->Prop
 yld:Nat->Hp->V->Hp->Prop
 stop:Nat->Hp->Prop
def L4(X:Cx)(gV:iD)(H:Hp)(b:qJ):Prop:=
 H b=none/\b≠X.env.locals/\b ∉ X.fs/\(b∈X.ex\/X.s₀.heap.objs.size<=b)/\(∀x c,X.env.cells.lookup x=some c->c≠b)/\∀p∈X.pn++gV,p.1≠b
def Inv.fpOk{X:Cx}{gV:iD}{σ:St}{H H':Hp}{s:qK}{b:qJ}(I:Inv X gV σ H s)(hb:s.heap.objs.size<=b)(hn:H' b=none):L4 X gV H' b:=by
 refine⟨hn,d8 (bE I.lt hb),I.nofs hb,.inr (bL I.sz hb),λx c e z=>?_,λp hp z=>?_⟩
 ·obtain⟨v,q⟩:=I.cell x c e
  exact absurd (bE q.lt (by rw[z];exact hb)) (cV _)
 ·exact absurd (bE (aP (I.pin p hp).1) (by rw[z];exact hb)) (cV _)
structure Turn(P:qM)(w:qN)(K:iC)(tg:qS)(J:It)(fp:iI)(it:qJ)(tn:Nat->Heap->Prop):Prop where
 mem:it∈fp
 obj:∀i h,tn i h->∀b∈fp,∃o,h.get? b=some o/\∀v,o.data≠.cell v
 keep:∀i h h',tn i h->(∀b∈fp,∀o,h.get? b=some o->h'.get? b=some o)->tn i h'
 item:∀(X:Cx),X.prog=P->X.w=w->X.K=K->X.calm=true->∀(i:Nat) (gV:iD) (s:qK) (σ:St) (H:Hp) (E:iA),Inv X gV σ H s->(∀b∈fp,L4 X gV H b)->tn i s.heap->J.go i H ->
  wpAny (model P w) X.A (pyNext (.ref it)) (λr s1=>∃u,r=some u /\
   wpAny (model P w) X.A (letOwnedTupleGo tg (.ref it) u) (λ_ s2=>∃x H',Inv X gV σ H' s2/\RelV x u/\J.yld i H x H'/\tn (i+1) s2.heap/\∀b∈fp,H' b=none) E s1) E s
 done:∀(X:Cx),X.prog=P->X.w=w->X.K=K->X.calm=true->∀(i:Nat) (gV:iD) (s:qK) (σ:St) (H:Hp) (E:iA),Inv X gV σ H s->(∀b∈fp,L4 X gV H b)->tn i s.heap->J.stop i H ->
  wpAny (model P w) X.A (pyNext (.ref it)) (λr s1=>r=none/\Inv X gV σ H s1) E s
 self:∀(A:qO) (i:Nat) (s:qK) (Q:iA) (E:iA),tn i s.heap->Q (.ref it) s->wpAny (model P w) A (pyIter (.ref it)) Q E s
abbrev TI:=St->Hp->(It->Hp->Prop)->Prop
def PIE(X:Cx)(gV:iD)(σ:St)(tg:qS)(R:It->Hp->Prop)(lz:qI)(s2:qK):Prop:=
 ∃(it:qJ) (fp:iI) (tn:Nat->Heap->Prop) (J:It) (H':Hp),lz=.ref it/\Inv X gV σ H' s2/\Turn X.prog X.w X.K tg J fp it tn/\tn 0 s2.heap/\(∀b∈fp,L4 X gV H' b)/\R J H'
def PI(X:Cx)(tg iz:qS)(wi:TI):Prop:=
 ∀(gV:iD) (s:qK) (σ:St) (H:Hp) (R:It->Hp->Prop),Inv X gV σ H s->wi σ H R ->
  wpAny (model X.prog X.w) X.A (eval iz X.env) (λv s1=>wpAny (model X.prog X.w) X.A (pyIter v) (PIE X gV σ tg R) X.xe s1) X.xe s
def DJ{M:Model}{A:qO}{E:iA}{s:qK}{tg:qS}{it:qJ}{u:qI}{o:Obj}{n:String}{vs:Array qI}{Q:Unit->Shared->Prop}(ho:s.heap.get? it=some o)(hc:o.cls=.type n)(hd:o.data=.fields vs)(hn:["enumerate","zip","dict_itemiterator","dict_reverseitemiterator","odict_iterator","itertools.zip_longest","itertools.pairwise"].contains n=false) (hQ:Q () s):wpAny M A (letOwnedTupleGo tg (.ref it) u) Q E s:=by
 unfold letOwnedTupleGo
 cases tg <;> first
  |exact aE hQ
  | (cases u <;> first
      |exact aE hQ
      | (refine aA (wpAny_load ho ?_)
         rw[hc,hd];show wpAny M A (if (["enumerate","zip","dict_itemiterator","dict_reverseitemiterator","odict_iterator","itertools.zip_longest","itertools.pairwise"].contains n&&vs[0]? == some (rawInt _))=true then _ else _) Q E s;rw[aD (by intro h;rw[hn,Bool.false_and]at h;cases h)];exact aE hQ))
def Itl(K:iC)(a:qJ):It:=
 ⟨λi H=>∃xs x,SqL K H a xs/\xs[i]?=some x,λi H x H'=>H'=H/\∀xs,SqL K H a xs->xs[i]?=some x,λi H=>∃xs,SqL K H a xs/\xs.length<=i⟩
def Itr(lo:Int)(n:Nat):It:=⟨λi _=>i<n,λi H x H'=>H'=H/\x=.int (lo+i),λi _=>n<=i⟩
def Ec{P:qM}{w:qN}{K:iC}{tg:qS}(a it:qJ):Turn P w K tg (Itl K a) [it] it (λi h=>h.IsListIter it a i) where
 mem:=by simp
 obj:=λi h st b hb=>by
  have e:b=it:=by simpa using hb
  subst e;obtain⟨o,e,c,d⟩:=st;exact⟨o,e,λv z=>by rw[d]at z;cases z⟩
 keep:=λi h h' st k=>st.at λo e=>k it .(2) o e
 item:=by
  intro X hP hw hK hc i gV s σ H E I hf st hg;subst hP hw hK;obtain⟨xs,x,hq,hx⟩:=hg;obtain⟨iy,rv,p,hz⟩:=I.list hq;obtain⟨u,hu,ru⟩:=rv.get hx;obtain⟨f0,f1,f2,f3,f4,f5⟩:=hf it .(2);refine wpAny_pyNext_list_item st p.isList (x:=u) (by simpa using hu) λh' j8 sb=>?_
  have I1:Inv X gV σ H {s with heap:=h'}:=I.turned (t':=s.toks) (λb o hb e=>sb.2 b hb<|e) f0 f1 f3 f4 f5;obtain⟨o,e,c,d⟩:=id j8;exact⟨u,rfl,DJ (s:={s with heap:=h'}) e c d .(1) ⟨x,H,I1,ru,⟨rfl,λys hy=>by rw[I.list_inj hy hq];exact hx⟩,j8,λb hb=>(hf b hb).1⟩⟩
 done:=by
  intro X hP hw hK hc i gV s σ H E I hf st hg;subst hP hw hK;obtain⟨xs,hq,hx⟩:=hg;obtain⟨iy,rv,p,hz⟩:=I.list hq;obtain⟨f0,f1,f2,f3,f4,f5⟩:=hf it .(2);have hl:=rv.length;exact wpAny_pyNext_list_end (I.ok.hd hc) st p.isList .(6) λh' eb=>⟨rfl,I.turned (t':=s.toks) (λb o hb e=>eb b o hb e) f0 f1 f3 f4 f5⟩
 self:=λ_ _ _ _ _ st h=>wpAny_pyIter_listiter st h
def IV{P:qM}{w:qN}{K:iC}{tg:qS}(it:qJ)(lo:Int)(n:Nat):Turn P w K tg (Itr lo n) [it] it (λi h=>IsRangeIter h it (lo+(i:Nat) * 1) ((n:Int)-(i:Nat)) 1) where
 mem:=by simp
 obj:=λi h st b hb=>by
  have e:b=it:=by simpa using hb
  subst e
  exact⟨_,st,λv z=>by
   have z':Data.fields _=Data.cell v:=z;cases z'⟩
 keep:=λi h h' st k=>k it .(2) _ st
 item:=by
  intro X hP hw hK hc i gV s σ H E I hf st hg;subst hP hw hK;obtain⟨f0,f1,f2,f3,f4,f5⟩:=hf it .(2);have W:=Walks.range (prog:=X.prog) (w:=X.w) (I.ok.hd hc) it lo 1 n;refine W.item i s _ _ hg st λv h' tk hv j8 kk=>?_
  obtain⟨t,rfl⟩:=hv;have I1:Inv X gV σ H {s with heap:=h',toks:=tk}:=I.turned (λb o hb e=>kk b o (by simpa using hb) e) f0 f1 f3 f4 f5;refine⟨_,rfl,DJ (s:={s with heap:=h',toks:=tk}) (n:="range_iterator") j8 rfl rfl .(1) ⟨.int (lo+i),H,I1,⟨t,?_⟩,⟨rfl,rfl⟩,j8,λb hb=>(hf b hb).1⟩⟩;rw[Int.mul_one]
 done:=by
  intro X hP hw hK hc i gV s σ H E I hf st hg;subst hP hw hK;obtain⟨f0,f1,f2,f3,f4,f5⟩:=hf it .(2);exact wpAny_pyNext_range_end (I.ok.hd hc) st (by have:n<=i:=hg;omega) λh' eb=>⟨rfl,I.turned (t':=s.toks) (λb o hb e=>eb b o hb e) f0 f1 f3 f4 f5⟩
 self:=λ_ _ _ _ _ st h=>wpAny_pyIter_rangeiter st h
section
variable{X:Cx}{tg:qS}
def iList(K:iC)(tl:TE):TI:=λσ H R=>tl σ H λx H1=>∃a,x=.ref a/\(∃xs,SqL K H1 a xs)/\R (Itl K a) H1
def pi_list{l:qS}{tl:TE}(hl:PE X l tl):PI X tg l (iList X.K tl):=by
 intro gV s σ H R I h;refine thn (hl gV s σ H _ I h) λv s1 ⟨x,H1,I1,r1,q1⟩=>?_
 obtain⟨a,e,⟨xs,hq⟩,q⟩:=q1;subst e;cases r1;obtain⟨iy,rv,p,hz⟩:=I1.list hq;refine il p.isList ?_;refine⟨s1.heap.objs.size,[s1.heap.objs.size],_,_,H1,rfl,I1.kept (t':=s1.toks) λb o e=>aL _ e,Ec a _,⟨_,aW _ rfl,rfl,rfl⟩,λb hb=>?_,q⟩;have e:b=s1.heap.objs.size:=by simpa using hb
 subst e;exact I1.fpOk (aM _) (I1.hok.fresh (aM _))
def Cw{gV:iD}{σ:St}{H:Hp}{s:qK}{R:It->Hp->Prop}{E:iA}{lo hi:Int}{t u v:Tok}{tk:Nat}(I:Inv X gV σ H s)(h1:-(2 ^ 62)<=lo)(h2:lo<2 ^ 62)(h3:-(2 ^ 62)<=hi)(h4:hi<2 ^ 62)(q:R (Itr lo (hi-lo).toNat) H):wpAny (model X.prog X.w) X.A (pyIter (.ref s.heap.objs.size)) (PIE X gV σ tg R) E {s with heap:=s.heap.push {cls:=.type "range",data:=.fields #[.int lo t,.int hi u,.int 1 v]},toks:=tk}:=by
 refine wpAny_pyIter_range (IsRange.new ..) (small_one h1 h2 h3 h4) ?_;have I1:Inv X gV σ H {s with heap:=s.heap.push {cls:=.type "range",data:=.fields #[.int lo t,.int hi u,.int 1 v]},toks:=tk}:=I.kept λb o e=>aL _ e
 refine⟨(s.heap.push {cls:=.type "range",data:=.fields #[.int lo t,.int hi u,.int 1 v]}).objs.size,[(s.heap.push {cls:=.type "range",data:=.fields #[.int lo t,.int hi u,.int 1 v]}).objs.size],_,_,H,rfl,
  I1.kept (t':=tk) λb o e=>aL _ e,IV _ lo (hi-lo).toNat,?_,λb hb=>?_,q⟩
 ·have e1:lo+((0:Nat):Int) * 1=lo:=by simp
  have e2:(((hi-lo).toNat:Nat):Int)-((0:Nat):Int)=Builtin.Range.rangeSize lo hi 1:=by rw[rangeSize_one];split <;> omega
  show IsRangeIter _ _ (lo+((0:Nat):Int) * 1) ((((hi-lo).toNat:Nat):Int)-((0:Nat):Int)) 1;rw[e1,e2];exact aW _ rfl
 ·have e:b=(s.heap.push {cls:=.type "range",data:=.fields #[.int lo t,.int hi u,.int 1 v]}).objs.size:=by simpa using hb
  subst e;exact I1.fpOk (aM _) (I1.hok.fresh (aM _))
def iRng1(ta:TA):TI:=λσ H R=>ta σ H λvs H1=>∃j:Int,vs=[.int j]/\-(2 ^ 62)<=j/\j<2 ^ 62/\R (Itr 0 j.toNat) H1
def Fp{a:qS}{ta:TA}{p pos:Pos}(hg:Gl X "range")(hm:X.mg "range"=none)(ha:PA X [a] ta)(hs:starEach [a] X.env=[(false,eval a X.env)]:=by rfl):PI X tg (.Call (.Name "range" p) [a] [] pos) (iRng1 ta):=by
 intro gV s σ H R I h;refine Call_ (Lp I hg hm boot_range (ik (thn (ha pos gV s σ H _ I h) λus s1 ⟨vs,H1,I1,r1,q1⟩=>?_) hs rfl));obtain⟨j,e,q1,q2,q⟩:=q1;subst e;cases r1 with
 |cons r rr=>
  cases rr;obtain⟨t,rfl⟩:=r;exact call_range_1 (Cw I1 .(0) .(0) q1 q2 (by simpa using q))
def tFor(wi:TI)(g:TG)(tb:TS):TS:=λD σ H=>wi σ H λJ H1=>∃W:Nat->Nat->St->Hp->Prop,(∃m,W 0 m σ H1)/\∀i m σ H,W i m σ H ->
 (J.stop i H/\D.nx σ H)\/(J.go i H/\∃N:St->Hp->Prop,(∀i6 H',N i6 H'->∃m',m'<m/\W (i+1) m' i6 H')/\∀x H',J.yld i H x H'->g x σ H' λjy H2=>tb {D with nx:=N,ct:=N,bk:=D.nx} jy H2)
def RZ(fp:iI)(h:qQ):iD:=fp.filterMap λb=>(h.get? b).map λo=>(b,o)
def U1{fp:iI}{h:qQ}{b:qJ}{o:Obj}(hb:b∈fp)(e:h.get? b=some o):(b,o)∈RZ fp h:=gQ.mpr ⟨b,hb,by rw[e];rfl⟩
def Ey{fp:iI}{h:qQ}{p:qJ × Obj}(hp:p∈RZ fp h):p.1∈fp/\h.get? p.1=some p.2:=by
 obtain⟨b,hb,e⟩:=gQ.mp hp;cases q:h.get? b with
 |none=>rw[q]at e;cases e
 |some o=>
  rw[q]at e;have e':(b,o)=p:=bM e;subst e';exact⟨hb,q⟩
def Inv.pinned{gV:iD}{σ:St}{H:Hp}{s:qK}{fp:iI}(I:Inv X gV σ H s)(hf:∀b∈fp,L4 X gV H b)(ho:∀b∈fp,∃o,s.heap.get? b=some o/\∀v,o.data≠.cell v):Inv X (gV++RZ fp s.heap) σ H s:=
 I.pins_of λp hp=>(dD.mp hp).elim (λz=>I.pin p (cy _ z)) λz=>by
  obtain⟨hb,e⟩:=Ey z;obtain⟨f0,f1,f2,_⟩:=hf p.1 hb;obtain⟨o,e',d⟩:=ho p.1 hb;rw[e]at e';cases e';exact⟨e,f0,f1,f2,d⟩
def Inv.unpinned{gV pl:iD}{σ:St}{H:Hp}{s:qK}(I:Inv X (gV++pl) σ H s):Inv X gV σ H s:=I.pins_of λp hp=>I.pin p (cy _ (gC _ hp))
def C6{iz:qS}{body:List qR}{wi:TI}{g:TG}{tb:TS}{pos:Pos}(hp:PassesOwn (model X.prog X.w) X.A X.env X.xe)(hc:X.calm=true)(hi:PI X tg iz wi)(hg:PG X tg g)(hb:PSs X body tb)(hs:∀x,foldedSetIterable iz X.env x=pure x:=by intro _;rfl):PS X (.For tg iz body [] pos) (tFor wi g tb):=by
 intro gV s σ H D I h;refine wpAny_For (thn (hi gV s σ H _ I h) λv s1 h1=>thn h1 λlz s2 h2=>?_) hs;obtain⟨it,fp,tn,J,H2,e,I2,T,mC,f2,W,⟨m0,w0⟩,turn⟩:=h2;subst e;have stat:∀{H':Hp},(∀b∈fp,H' b=none)->∀b∈fp,L4 X gV H' b:=λhn b hb=>⟨hn b hb,(f2 b hb).2⟩
 refine codeAny_forLoop_any (λn s'=>∃i i6 H',Inv X gV i6 H' s'/\tn i s'.heap/\(∀b∈fp,H' b=none)/\W i n i6 H') ?_ m0 ⟨0,σ,H2,I2,mC,λb hb=>(f2 b hb).1,w0⟩;rintro n s3 ⟨i,kn,H3,I3,st3,fr3,w3⟩;rcases turn i n kn H3 w3 with ⟨stop,qn⟩|⟨go,N,hN,step⟩
 ·refine d5 hp (thn (T.done X rfl rfl rfl hc i gV s3 kn H3 X.xe I3 (stat fr3) st3 stop) λr s4 ⟨hr,I4⟩=>?_)
  subst hr;exact eQ ⟨kn,H3,I4,qn⟩
 ·refine d5 hp (thn (T.item X rfl rfl rfl hc i gV s3 kn H3 X.xe I3 (stat fr3) st3 go) λr s4 ⟨u,hr,h4⟩=>?_)
  subst hr;refine d5 hp (thn h4 λ_ s5 ⟨x,H5,I5,r5,y5,st5,fr5⟩=>?_);have I5':=I5.pinned (stat fr5) (T.obj _ _ st5);refine d5 hp (thn (hg _ s5 kn H5 x u _ I5' r5 (step x H5 y5)) λ_ s6 ⟨σ6,H6,I6,q6⟩=>?_);refine d5 hp (thn (hb _ s6 σ6 H6 _ I6 q6) λf s7 q7=>?_)
  have again:∀{ko:St} {H7:Hp},Inv X (gV++RZ fp s5.heap) ko H7 s7->N ko H7->∃m,m<n/\∃i i6 H',Inv X gV i6 H' s7/\tn i s7.heap/\(∀b∈fp,H' b=none)/\W i m i6 H':=λ{ko H7} I7 n7=>by
   obtain⟨m',hm,w7⟩:=hN ko H7 n7;refine⟨m',hm,i+1,ko,H7,I7.unpinned,T.keep _ _ _ st5 λb hb o e=>(I7.pin (b,o) (cy _ (cy _ (U1 hb e)))).1,λb hb=>?_,w7⟩;obtain⟨o,e,d⟩:=T.obj _ _ st5 b hb;exact(I7.pin (b,o) (cy _ (cy _ (U1 hb e)))).2.1
  cases f with
  |next=>obtain⟨ko,H7,I7,n7⟩:=q7;exact again I7 n7
  |cont=>obtain⟨ko,H7,I7,n7⟩:=q7;exact again I7 n7
  |brk=>obtain⟨ko,H7,I7,q7⟩:=q7;exact⟨ko,H7,I7.unpinned,q7⟩
  |ret v=>obtain⟨x7,ko,H7,I7,r7,q7⟩:=q7;exact⟨x7,ko,H7,I7.unpinned,r7,q7⟩
end
abbrev R2:=V->V->Hp->VK->Prop
def OpR(X:Cx)(f:qI->Value->Sem qI)(r:R2):Prop:=
 ∀(gV:iD) (s:qK) (σ:St) (H:Hp) (x y:V) (v u:qI) (Q:VK),Inv X gV σ H s->RelV x v->RelV y u->r x y H Q ->
  wpAny (model X.prog X.w) X.A (f v u) (EP X gV σ Q) X.xe s
def CallR(X:Cx)(f:qI)(r:iQ->Hp->VK->Prop):Prop:=
 ∀(gV:iD) (s:qK) (σ:St) (H:Hp) (xs:iQ) (us:iJ) (Q:VK),Inv X gV σ H s->Vals xs us->r xs H Q ->
  wpAny (model X.prog X.w) X.A (call f us) (EP X gV σ Q) X.xe s
def TruR(X:Cx)(r:V->Hp->(Bool->Hp->Prop)->Prop):Prop:=
 ∀(gV:iD) (s:qK) (σ:St) (H:Hp) (x:V) (v:qI) (Q:Bool->Hp->Prop),Inv X gV σ H s->RelV x v->r x H Q ->
  wpAny (model X.prog X.w) X.A (truthy v) (TP X gV σ Q) X.xe s
def tOp(r:R2)(ta tb:TE):TE:=λσ H Q=>ta σ H λx H1=>tb σ H1 λy H2=>r x y H2 Q
def rI(C:Int->Int->Prop)(g:Int->Int->V):R2:=λx y H Q=>∃i j,x=.int i/\y=.int j/\C i j/\Q (g i j) H
def rI0(g:Int->Int->V):R2:=λx y H Q=>∃i j,x=.int i/\y=.int j/\Q (g i j) H
section
variable{X:Cx}{a b c:qS}{ta tb tc:TE}{pos:Pos}
def binT(ha:PE X a ta)(hb:PE X b tb){gV:iD}{s:qK}{σ:St}{H:Hp}{R:V->V->Hp->Prop}(I:Inv X gV σ H s)(h:ta σ H λx H1=>tb σ H1 λy H2=>R x y H2) {Q:iA} {f:qI->Value->Sem qI}(hf:∀v u s2 x y H2,Inv X gV σ H2 s2->RelV x v->RelV y u->R x y H2->wpAny (model X.prog X.w) X.A (f v u) Q X.xe s2):wpAny (model X.prog X.w) X.A (eval a X.env) (λv i4=>wpAny (model X.prog X.w) X.A (eval b X.env) (λu ir=>wpAny (model X.prog X.w) X.A (f v u) Q X.xe ir) X.xe i4) X.xe s:=by
 refine thn (ha gV s σ H _ I h) λv s1 ⟨x,H1,I1,r1,q1⟩=>?_
 refine thn (hb gV s1 σ H1 _ I1 q1) λu s2 ⟨y,H2,I2,r2,q2⟩=>?_
 exact hf v u s2 x y H2 I2 r1 r2 q2
def Bq{op:Operator}{r:R2}(ho:OpR X (binaryOp op) r)(ha:PE X a ta)(hb:PE X b tb):PE X (.BinOp a op b pos) (tOp r ta tb):=by
 intro gV s σ H Q I h;exact wpAny_BinOp (binT ha hb I h λv u s2 x y H2 I2 rx ry q=>ho gV s2 σ H2 x y v u Q I2 rx ry q)
def opI{f:qI->Value->Sem qI}{C:Int->Int->Prop}{g:Int->Int->Int}(rule:∀(i j:Int) (t u:Tok) (s:qK) (Q:iA) (E:iA),C i j->Q (.int (g i j) s.toks) {s with toks:=s.toks+1}->wpAny (model X.prog X.w) X.A (f (.int i t) (.int j u)) Q E s):OpR X f (rI C λi j=>.int (g i j)):=by
 intro gV s σ H x y v u Q I rx ry h;obtain⟨i,j,rfl,rfl,hc,q⟩:=h;obtain⟨t,rfl⟩:=rx;obtain⟨t',rfl⟩:=ry;exact rule i j t t' s _ _ hc ⟨.int (g i j),H,I.tok _,⟨_,rfl⟩,q⟩
def opI0{f:qI->Value->Sem qI}{g:Int->Int->Int}(rule:∀(i j:Int) (t u:Tok) (s:qK) (Q:iA) (E:iA),Q (.int (g i j) s.toks) {s with toks:=s.toks+1}->wpAny (model X.prog X.w) X.A (f (.int i t) (.int j u)) Q E s):OpR X f (rI0 λi j=>.int (g i j)):=by
 intro gV s σ H x y v u Q I rx ry h;obtain⟨i,j,rfl,rfl,q⟩:=h;obtain⟨t,rfl⟩:=rx;obtain⟨t',rfl⟩:=ry;exact rule i j t t' s _ _ ⟨.int (g i j),H,I.tok _,⟨_,rfl⟩,q⟩
def Ax{f:qI->Value->Sem qI}{g:Int->Int->Bool}(rule:∀(i j:Int) (t u:Tok) (s:qK) (Q:iA) (E:iA),Q (.bool (g i j)) s->wpAny (model X.prog X.w) X.A (f (.int i t) (.int j u)) Q E s):OpR X f (rI0 λi j=>.bl (g i j)):=by
 intro gV s σ H x y v u Q I rx ry h;obtain⟨i,j,rfl,rfl,q⟩:=h;obtain⟨t,rfl⟩:=rx;obtain⟨t',rfl⟩:=ry;exact rule i j t t' s _ _ ⟨.bl (g i j),H,I,rfl,q⟩
def CDiv(i j:Int):Prop:=0<j/\j<1073741824
def op_add:OpR X (binaryOp .Add) (rI0 λi j=>.int (i+j)):=opI0 λ_ _ _ _ _ _ _ q=>add_int q
def op_sub:OpR X (binaryOp .Sub) (rI0 λi j=>.int (i-j)):=opI0 λ_ _ _ _ _ _ _ q=>sub_int q
def BR:OpR X (binaryOp .FloorDiv) (rI CDiv λi j=>.int (i / j)):=opI λi j _ _ _ _ _ hc q=>by
 have h1:(0:Int)<j:=hc.1;have h2:j<1073741824:=hc.2;exact floordiv_int .(0) (by rw[Int.fdiv_eq_ediv_of_nonneg i .(0)];exact q) (.inl (PyProof.noPylong_small .(0)))
def op_mod:OpR X (binaryOp .Mod) (rI (λ_ j=>0<j) λi j=>.int (i % j)):=opI λi j _ _ _ _ _ hc q=>by
 have h1:(0:Int)<j:=hc;exact mod_int' .(0) (by rw[Int.fmod_eq_emod_of_nonneg i .(0)];exact q)
end
section
variable{X:Cx}{a b c:qS}{ta tb tc:TE}{pos:Pos}
def JF:OpR X (compareOp .Lt) (rI0 λi j=>.bl (decide (i<j))):=Ax λ_ _ _ _ _ _ _ q=>lt_int q
def Bl:OpR X (compareOp .LtE) (rI0 λi j=>.bl (decide (i<=j))):=Ax λ_ _ _ _ _ _ _ q=>le_int q
def op_gt:OpR X (compareOp .Gt) (rI0 λi j=>.bl (decide (j<i))):=Ax λ_ _ _ _ _ _ _ q=>gt_int q
def op_ge:OpR X (compareOp .GtE) (rI0 λi j=>.bl (decide (j<=i))):=Ax λ_ _ _ _ _ _ _ q=>ge_int q
def Ui(b:qS){op:CmpOp}(h:op≠.In:=by decide)(h2:op≠.NotIn:=by decide):behindInMarks op b=false:=by
 have e1:(op == CmpOp.In)=false:=by cases op <;> first|rfl|exact absurd rfl h
 have e2:(op == CmpOp.NotIn)=false:=by cases op <;> first|rfl|exact absurd rfl h2
 cases b <;> simp[behindInMarks,e1,e2]
def Ai{op:CmpOp}{r:R2}(ho:OpR X (compareOp op) r)(ha:PE X a ta)(hb:PE X b tb)(hm:behindInMarks op b=false):PE X (.Compare a [op] [b] pos) (tOp r ta tb):=by
 intro gV s σ H Q I h;exact wpAny_Compare1 (binT ha hb I h λv u s2 x y H2 I2 rx ry q=>ho gV s2 σ H2 x y v u Q I2 rx ry q) hm
def tTest(t:TE):TT:=λσ H Q=>t σ H λx H'=>∃k,x=.bl k/\Q k H'
def pt_cmpR{op:CmpOp}{r:R2}(ho:OpR X (compareOp op) r)(ha:PE X a ta)(hb:PE X b tb)(hm:behindInMarks op b=false):PT X (.Compare a [op] [b] pos) (tTest (tOp r ta tb)):=by
 intro gV s σ H Q I h
 refine wpAny_isTrue_Compare1 (thn (ha gV s σ H _ I h) λv s1 ⟨x,H1,I1,r1,q1⟩=>thn (hb gV s1 σ H1 _ I1 q1) λu s2 ⟨y,H2,I2,r2,q2⟩=>
  thn (ho gV s2 σ H2 x y v u _ I2 r1 r2 q2) λc s3 ⟨z,H3,I3,r3,k,e,q3⟩=>?_) hm
 subst e;cases r3;exact dr ⟨H3,I3,q3⟩
def CQ(r r':R2)(ta tb tc:TE):TE:=λσ H Q=>ta σ H λx H1=>tb σ H1 λy H2=>r x y H2 λz H3=>∃k,z=.bl k /\
 (if k=true then tc σ H3 λw' H4=>r' y w' H4 Q else Q (.bl false) H3)
def C8{op lA:CmpOp}{r r':R2}(ho:OpR X (compareOp op) r)(jh:OpR X (compareOp lA) r')(ha:PE X a ta)(hb:PE X b tb)(hc:PE X c tc)(hm:lastMarks [op,lA] [b,c]=false:=by with_unfolding_all rfl):PE X (.Compare a [op,lA] [b,c] pos) (CQ r r' ta tb tc):=by
 intro gV s σ H Q I h
 refine Compare_chain (thn (ha gV s σ H _ I h) λv s1 ⟨x,H1,I1,r1,q1⟩=>chain_link (thn (hb gV s1 σ H1 _ I1 q1) λu s2 ⟨y,H2,I2,r2,q2⟩=>
  thn (ho gV s2 σ H2 x y v u _ I2 r1 r2 q2) λd s3 ⟨z,H3,I3,r3,k,e,q3⟩=>?_)) hm
 subst e;cases r3;refine dr ?_;cases k with
 |false=>exact ite_ff ⟨.bl false,H3,I3,rfl,q3⟩
 |true=>exact ite_tt (chain_last (thn (hc gV s3 σ H3 _ I3 q3) λw' s4 ⟨z',H4,I4,r4,q4⟩=>jh gV s4 σ H4 y z' u w' Q I4 r2 r4 q4))
def TruV(K:iC)(x:V)(H:Hp)(k:Bool):Prop:=
 match x with
 |.non=>k=false
 |.bl b=>k=b
 |.int i=>k=(i != 0)
 |.str y=>y.length<=sizeLine/\k=((y.length:Int) != 0)
 |.byt y=>y.size<=sizeLine/\k=((y.size:Int) != 0)
 |.ref p=>(∃xs,SqL K H p xs/\k=!xs.isEmpty)\/(∃xs,SqT K H p xs/\k=!xs.isEmpty)\/∃kvs,H p=some (.dK kvs)/\k=!kvs.isEmpty
 |_=>False
def Ic{κ:Type}{kvs:List (κ × V)}{vs:List (κ × qI)}(r:KV kvs vs):(!vs.isEmpty)=!kvs.isEmpty:=by
 cases r <;> rfl
def OC{xs:iQ}{iy:iJ}(r:Vals xs iy):(!iy.toArray.isEmpty)=!xs.isEmpty:=by
 cases r <;> simp
def QC:(sizeLine:Nat)<2 ^ 63:=by rw[cG];decide
def tru_ok:TruR X (λx H Q=>∃k,TruV X.K x H k/\Q k H):=by
 intro gV s σ H x v Q I rx h;obtain⟨k,e,q⟩:=h;have hl:=QC;have hs:sizeLine=16777216:=cG;cases x with
 |non=>
  cases rx;have e':k=false:=e;subst e';exact truthy_none ⟨H,I,q⟩
 |bl b=>
  cases rx;have e':k=b:=e;subst e';exact dr ⟨H,I,q⟩
 |int i=>
  obtain⟨t,rfl⟩:=rx;have e':k=(i != 0):=e;subst e';exact PySem.P.truthy_int ⟨H,I,q⟩
 |str y=>
  obtain⟨t,rfl⟩:=rx;obtain⟨hy,e'⟩:y.length<=sizeLine/\k=((y.length:Int) != 0):=e;subst e';exact PySem.P.truthy_str .(0) ⟨H,I.tok _,q⟩
 |byt y=>
  obtain⟨t,rfl⟩:=rx;obtain⟨hy,e'⟩:y.size<=sizeLine/\k=((y.size:Int) != 0):=e;subst e';exact PySem.W.truthy_bytes .(0) ⟨H,I.tok _,q⟩
 |ref p=>
  cases rx;have e':(∃xs,SqL X.K H p xs/\k=!xs.isEmpty)\/(∃xs,SqT X.K H p xs/\k=!xs.isEmpty)\/∃kvs,H p=some (.dK kvs)/\k=!kvs.isEmpty:=e
  rcases e' with ⟨xs,hx,e'⟩|⟨xs,hx,e'⟩|⟨kvs,hx,e'⟩
  ·subst e'
   obtain⟨iy,r,pl,hz⟩:=I.list hx;have iZ:=r.length;exact wpAny_truthy_list pl.isList .(8) ⟨H,I.tok _,by rw[OC r];exact q⟩
  ·subst e'
   obtain⟨iy,r,pl,hz⟩:=I.tuple hx;have iZ:=r.length;exact truthy_tuple pl .(8) ⟨H,I.tok _,by rw[OC r];exact q⟩
  ·subst e'
   obtain⟨hz,hS,vs,r,m⟩:kvs.length<=sizeLine/\(p == sysModules)=false/\∃vs,KV kvs vs/\s.heap.DictOf (ZZ X.prog X.w) p vs:=I.hok p _ hx
   have iZ:kvs.length=vs.length:=ia r;exact wpAny_truthy_dict hS m .(0) ⟨H,I.tok _,by rw[Ic r];exact q⟩
 |_=>exact(show False from e).elim
def Cl(ha:PE X a ta)(he:∀whole,isTrue a X.env whole=(do let v ← whole;standAt a.pos;holding [v] (truthy v))):PT X a (λσ H Q=>ta σ H λx H'=>∃k,TruV X.K x H' k/\Q k H'):=by
 intro gV s σ H Q I h;exact isTrue_plain (thn (ha gV s σ H _ I h) λv s1 ⟨x,H1,I1,r1,q1⟩=>tru_ok gV s1 σ H1 x v Q I1 r1 q1) (he _)
def So{x:V}{us:iJ}(r:Vals [x] us):∃u,us=[u]/\RelV x u:=by
 cases r with
 |cons r1 r2=>cases r2;exact⟨_,rfl,r1⟩
def Cv{x y:V}{us:iJ}(r:Vals [x,y] us):∃u w',us=[u,w']/\RelV x u/\RelV y w':=by
 cases r with
 |cons r1 r2=>
  cases r2 with
  |cons r3 r4=>cases r4;exact⟨_,_,rfl,r1,r3⟩
def Fd(hc:X.calm=true):CallR X (.builtin "max") (λxs H Q=>∃i j,xs=[.int i,.int j]/\Q (.int (if j > i then j else i)) H):=by
 intro gV s σ H xs us Q I r h;obtain⟨i,j,rfl,q⟩:=h;obtain⟨u,w',rfl,⟨t,rfl⟩,⟨t',rfl⟩⟩:=Cv r;refine max_two_ints (I.ok.hd hc) λh' tk k=>⟨_,H,I.kept k,?_,q⟩
 by_cases hj:j > i
 ·rw[aC hj,aC hj];exact⟨_,rfl⟩
 ·rw[aD hj,aD hj];exact⟨_,rfl⟩
def Ej(hc:X.calm=true):CallR X (.builtin "min") (λxs H Q=>∃i j,xs=[.int i,.int j]/\Q (.int (if j<i then j else i)) H):=by
 intro gV s σ H xs us Q I r h;obtain⟨i,j,rfl,q⟩:=h;obtain⟨u,w',rfl,⟨t,rfl⟩,⟨t',rfl⟩⟩:=Cv r;refine min_two_ints (I.ok.hd hc) λh' tk k=>⟨_,H,I.kept k,?_,q⟩
 by_cases hj:j<i
 ·rw[aC hj,aC hj];exact⟨_,rfl⟩
 ·rw[aD hj,aD hj];exact⟨_,rfl⟩
end
structure ObjM(h:qQ)(x dx C:qJ)(mA:iB):Prop where
 obj:h.get? x=some (PySem.W.instObj C dx)
 ns:h.Ns1 dx mA
 ne:dx≠x
def Fr{h:qQ}{dx:qJ}{mA:iB}(n:h.Ns1 dx mA):∃od,h.get? dx=some od/\∀name,PySem.W.lookIn name od=some (mA name):=by
 obtain⟨o,es,ep,ho,hd,hk,_,hm⟩:=n;refine⟨o,ho,λname=>?_⟩;have e:=hm name;unfold nsFind findBy at e;rw[← Array.find?_toList]at e;unfold PySem.W.lookIn;rw[hd];dsimp only;split
 ·rename_i y q
  rw[q]at e;exact cE some e
 ·rename_i q
  rw[q]at e
  have a:es.toList.any (·.refKey)=false:=by
   rw[fO];intro y hy;obtain⟨z,t,lB⟩:=hk y (Array.mem_toList_iff.mp hy);simp[DictEntry.refKey,lB]
  have a':¬ es.toList.any (·.refKey)=true:=by rw[a];exact aF
  rw[aD a'];exact cE some e
def ObjM.look{h:qQ}{x dx C:qJ}{mA:iB}(I:ObjM h x dx C mA):∃od,PySem.W.InstAt h x (PySem.W.instObj C dx) C (some od)/\∀name,PySem.W.lookIn name od=some (mA name):=
 let ⟨od,ho,hl⟩:=Fr I.ns
 ⟨od,⟨I.obj,rfl,rfl,ho⟩,hl⟩
section
variable{prog:qM}{w:qN}{A:qO}{E:iA}{s:qK}{K:iC}{x dx C f:qJ}{mA:iB}{name:Str}{v:qI}
def B8{expr:Bool}{Q:iA}(X:K.In s.heap)(I:ObjM s.heap x dx C mA)(hg:PySem.W.plainGet K C name=true)(hh:PySem.W.hasDictIn K C=true)(ha:PySem.W.findIn K (.ref C) name=some none) (hv:mA name=some v) (oM:PySem.W.handedIn v=true) (h:Q v {s with toks:=s.toks+1}):wpAny (model prog w) A (getAttr (.ref x) name expr) Q E s:=by
 obtain⟨od,J,hl⟩:=I.look;exact PySem.W.get_value X J (gH hg).1 (PySem.W.findObj_own hh ha rfl (by rw[hl,hv])) oM h
def E6{pl:Sem Bool}{Q:qI × iJ->Shared->Prop}(X:K.In s.heap)(I:ObjM s.heap x dx C mA)(hg:PySem.W.plainGet K C name=true)(hf:PySem.W.findIn K (.ref C) name=↑(.ref f)) (ht:PySem.W.isFn K (.ref f)=true) (hv:mA name=none) (h:Q (.ref f,[.ref x]) s):wpAny (model prog w) A (getMethod (.ref x) name pl) Q E s:=by
 obtain⟨od,J,hl⟩:=I.look;exact PySem.W.method_fn X J (gH hg).1 (gH hg).2 hf (cX.mp ht) (by show(PySem.W.lookIn name od).map (·.isSome)=some false;rw[hl,hv];rfl) h
def AS{ns:iM}{Q:Unit->Shared->Prop}(X:K.In s.heap)(I:ObjM s.heap x dx C mA)(hs:PySem.W.findIn K (.ref C) "__setattr__"=↑(.builtin "object.__setattr__")) (hp:PySem.W.plainOver K C=true) (ht:PySem.W.takerIn K C name=some none) (hh:PySem.W.hasDictIn K C=true)(hw:PySem.Within mA ns) (hsz:ns.length<=sizeLine)(h:∀h',ObjM h' x dx C (λy=>if y=name then some v else mA y)->Heap.SameBut dx s.heap h'->Q () {s with heap:=h',toks:=s.toks+2}):wpAny (model prog w) A (setAttr (.ref x) name v) Q E s:=by
 obtain⟨od,J,hl⟩:=I.look;refine PySem.W.set_plain X J hs (PySem.W.osa_open (s:={s with toks:=s.toks+1}) (r:=none) X J hp ht λb=>?_);obtain⟨cd,hc,jW⟩:=PySem.W.any_some hh;have hx:s.heap.get? x=some ⟨.ref C,some dx,.plain,#[]⟩:=I.obj;refine aA (aE (aA (aA (wpAny_loadPart hx (aA (PySem.W.Looks.here (s:={s with toks:=s.toks+1}) (PySem.W.looks_clsIn X hc) ?_))))));rw[jW];refine aE (a:=some dx) (aA (aE (aA ?_)));refine wpAny_nsSet1 (s:={s with toks:=s.toks+1}) I.ns λh' oa lP=>?_
 obtain⟨oD,qp,qq,oN,oO,oP⟩:=oa.count (PySem.Within.cons name v hw);refine aA (wpAny_lookBehind oN (by rw[oO];exact pastItsLine_dict (bL oP (by rw[bI];omega))) ?_);exact aE (h _ ⟨lP.2 _ (cI I.ne)<|I.obj,oa,I.ne⟩ lP)
def Ck{R:Result->Shared->Prop}{vs:iJ}{kw:List (Str × qI)}(X:K.In s.heap)(hm:PySem.W.makesIn K C=true)(hi:PySem.W.findIn K (.ref C) "__init__"=↑(.ref f)) (hf:PySem.W.typeIn K (.ref f)=some (.type "function"))(h:codeAny (model prog w) (A.under (.builtin "type.__call__" ⟨.ref C::vs,kw⟩)) (.call (.ref f) ⟨.ref (s.heap.objs.size+1)::vs,kw⟩) (PySem.W.InitBack (s.heap.objs.size+1) R)
     {s with heap:=(s.heap.push PySem.W.emptyDict).push (PySem.W.instObj C s.heap.objs.size)}):
    codeAny (model prog w) A (.call (.ref C) ⟨vs,kw⟩) R s:=by
 obtain⟨hh,g,d,t,os⟩:=s;exact PySem.W.make_core (PySem.W.makes_of X hm) (PySem.W.looks_findIn X hi) (λself=>PySem.W.bind_fn X self hf) (.inl rfl) h
end
def putF(f:Str)(v:V):List (Str × V)->List (Str × V)
 |[]=>[(f,v)]
 |(g,x)::r=>if g=f then (g,v)::r else (g,x)::putF f v r
def QP(f g:Str)(v:V):∀fs:List (Str × V),(putF f v fs).lookup g=if g=f then some v else fs.lookup g
 |[]=>by
  show List.lookup g [(f,v)]=_;by_cases h:g=f
  ·have hb:(g == f)=true:=cX.mpr h
   simp only[List.lookup,hb,aC h]
  ·have hb:(g == f)=false:=aU.mpr h
   simp only[List.lookup,hb,aD h]
 |(k,x)::r=>by
  have ih:=QP f g v r;rw[show putF f v ((k,x)::r)=(if k=f then (k,v)::r else (k,x)::putF f v r) from rfl];by_cases hk:k=f
  ·rw[aC hk]
   by_cases h:g=k
   ·have hb:(g == k)=true:=cX.mpr h
    simp only[List.lookup,hb,aC (h<|hk)]
   ·have hb:(g == k)=false:=aU.mpr h
    simp only[List.lookup,hb,aD (λe:g=f=>h (e<|hk.symm))]
  ·rw[aD hk]
   by_cases h:g=k
   ·have hb:(g == k)=true:=cX.mpr h
    simp only[List.lookup,hb,aD (λe:g=f=>hk (h.symm<|e))]
   ·have hb:(g == k)=false:=aU.mpr h
    simp only[List.lookup,hb];exact ih
def Qi(f:Str)(v:V):∀fs:List (Str × V),f∈(putF f v fs).map (·.1)/\∀g,g∈fs.map (·.1)->g∈(putF f v fs).map (·.1)
 |[]=>⟨by simp[putF],λg h=>by simp at h⟩
 |(k,x)::r=>by
  obtain⟨i1,i2⟩:=Qi f v r;rw[show putF f v ((k,x)::r)=(if k=f then (k,v)::r else (k,x)::putF f v r) from rfl];by_cases hk:k=f
  ·rw[aC hk]
   subst hk;exact⟨.(2),λg h=>by simpa using h⟩
  ·rw[aD hk]
   refine⟨?_,λg h=>?_⟩
   ·rw[aS]
    exact cU _ i1
   ·rw[aS]at h ⊢
    rcases aN.mp h with e|e
    ·exact aN.mpr (.inl e)
    ·exact cU _ (i2 g e)
def QU(f:Str)(v:V):∀fs:List (Str × V),(putF f v fs).length<=fs.length+1
 |[]=>by simp[putF]
 |(k,x)::r=>by
  have ih:=QU f v r;rw[show putF f v ((k,x)::r)=(if k=f then (k,v)::r else (k,x)::putF f v r) from rfl];by_cases hk:k=f
  ·rw[aC hk,bI,bI];omega
  ·rw[aD hk,bI,bI];omega
def RelO.some_of{v:V}{o:iP}(r:RelO (some v) o):∃u,o=some u/\RelV v u:=by
 cases o with
 |none=>exact(show False from r).elim
 |some u=>exact⟨u,rfl,r⟩
def RelO.none_of{o:iP}(r:RelO none o):o=none:=by
 cases o with
 |none=>rfl
 |some u=>exact(show False from r).elim
def Fg{v:V}{u:qI}(r:RelV v u):PySem.W.handedIn u=true:=by
 cases v with
 |non=>cases (show u=Value.none from r);rfl
 |bl b=>cases (show u=Value.bool b from r);rfl
 |int i=>obtain⟨t,e⟩:=(show ∃t,u=Value.int i t from r);cases e;rfl
 |str x=>obtain⟨t,e⟩:=(show ∃t,u=Value.str x t from r);cases e;rfl
 |byt b=>obtain⟨t,e⟩:=(show ∃t,u=Value.bytes b t from r);cases e;rfl
 |flt b=>obtain⟨t,e⟩:=(show ∃t,u=Value.float b t from r);cases e;rfl
 |ref a=>cases (show u=Value.ref a from r);rfl
 |ty n=>cases (show u=Value.type n from r);rfl
section
variable{P:qM}{w:qN}{H H':Hp}{h h':qQ}{a C dx:qJ}{fs jE:List (Str × V)}
def LP(hok:HOk P w H h)(e:H a=some (.ins C dx fs)):∃mA,ObjM h a dx C mA/\(∀f,RelO (fs.lookup f) (mA f))/\PySem.Within mA (fs.map (·.1))/\fs.length<=1000/\H dx=some (.own a):=by
 obtain⟨d,z,ne,ob,mA,n,r,q⟩:=(show ObjOk P w H h a (.ins C dx fs) from hok a _ e);exact⟨mA,⟨ob,n,ne⟩,r,q,z,d⟩
end
structure Cls(K:iC)(C:qJ):Prop where
 pg:PySem.W.plainGet K C Str.empty=true
 hd:PySem.W.hasDictIn K C=true
 po:PySem.W.plainOver K C=true
 sa:PySem.W.findIn K (.ref C) "__setattr__"=↑(.builtin "object.__setattr__")
def Cls.get{K:iC}{C:qJ}(c:Cls K C)(f:Str):PySem.W.plainGet K C f=true:=c.pg
def NoAttr(K:iC)(C:qJ)(f:Str):Prop:=PySem.W.findIn K (.ref C) f=some none
def NoAttr.taker{K:iC}{C:qJ}{f:Str}(n:NoAttr K C f):PySem.W.takerIn K C f=some none:=by
 unfold PySem.W.takerIn;rw[show PySem.W.findIn K (.ref C) f=some none from n];rfl
structure Meth(K:iC)(C:qJ)(m:Str)(f:qJ):Prop where
 at_:PySem.W.findIn K (.ref C) m=↑(.ref f)
 fn:PySem.W.isFn K (.ref f)=true
 kp:PySem.W.keepIn K (.ref f)=true
section
variable{X:Cx}{gV:iD}{σ:St}{H:Hp}{s:qK}{a C dx:qJ}{fs:List (Str × V)}{f:Str}{v:V}{A:qO}{E:iA}
def IW{b:Bool}{Q:iA}(I:Inv X gV σ H s)(e:H a=some (.ins C dx fs))(c:Cls X.K C)(n:NoAttr X.K C f)(l:fs.lookup f=some v)(h:∀u s',Inv X gV σ H s'->RelV v u->Q u s'):wpAny (model X.prog X.w) A (getAttr (.ref a) f b) Q E s:=by
 obtain⟨mA,O,r,_,_,_⟩:=LP I.hok e;obtain⟨u,hu,ru⟩:=RelO.some_of (v:=v) (o:=mA f) (by rw[← l];exact r f);exact B8 I.kIn O (c.get f) c.hd n hu (Fg ru) (h u _ (I.tok _) ru)
def S8{m:Str}{g:qJ}{pl:Sem Bool}{Q:qI × iJ->Shared->Prop}(I:Inv X gV σ H s)(e:H a=some (.ins C dx fs))(c:Cls X.K C)(k:Meth X.K C m g)(l:fs.lookup m=none)(h:Q (.ref g,[.ref a]) s):wpAny (model X.prog X.w) A (getMethod (.ref a) m pl) Q E s:=by
 obtain⟨mA,O,r,_,_,_⟩:=LP I.hok e;have hn:mA m=none:=RelO.none_of (by rw[← l];exact r m);exact E6 I.kIn O (c.get m) k.at_ k.fn hn h
def Ix{y:V}{u:qI}{Q:Unit->Shared->Prop}(I:Inv X gV σ H s)(e:H a=some (.ins C dx fs))(c:Cls X.K C)(n:NoAttr X.K C f)(hl:fs.length<1000)(ry:RelV y u)(h:∀s',Inv X gV σ (upd H a (.ins C dx (putF f y fs))) s'->Q () s'):wpAny (model X.prog X.w) A (setAttr (.ref a) f u) Q E s:=by
 obtain⟨mA,O,r,wi,_,ho⟩:=LP I.hok e;have hz:(fs.map (·.1)).length<=sizeLine:=by rw[aB,cG];omega
 refine AS I.kIn O c.sa c.po n.taker c.hd wi hz λh' O' sb=>h _ ?_
 have hd:∃o,h'.get? dx=some o:=let ⟨o,_,_,e',_⟩:=O'.ns;⟨o,e'⟩
 refine I.write (x:=a) (e:=dx) (by rw[e];exact True.intro) (.inr ho) (λb q hb z=>sb.2 b hb<|z) hd ?_;refine⟨by rw[Zy O.ne];exact ho,?_,O.ne,O'.obj,_,O'.ns,λg=>?_,λg hg=>?_⟩
 ·have:=QU f y fs;omega
 ·show RelO ((putF f y fs).lookup g) (if g=f then some u else mA g)
  rw[QP];by_cases q:g=f
  ·rw[aC q,aC q];exact ry
  ·rw[aD q,aD q];exact r g
 ·by_cases q:g=f
  ·rw[q];exact(Qi f y fs).1
  ·refine(Qi f y fs).2 g (wi g λz=>hg ?_)
   show(if g=f then some u else mA g)=none;rw[aD q];exact z
def Inv.made(I:Inv X gV σ H s):Inv X gV σ (upd (upd H s.heap.objs.size (.own (s.heap.objs.size+1))) (s.heap.objs.size+1) (.ins C s.heap.objs.size [])) {s with heap:=(s.heap.push PySem.W.emptyDict).push (PySem.W.instObj C s.heap.objs.size)}:=by
 have e1:(s.heap.push PySem.W.emptyDict).get? s.heap.objs.size=some PySem.W.emptyDict:=aW s.heap rfl
 have e2:((s.heap.push PySem.W.emptyDict).push (PySem.W.instObj C s.heap.objs.size)).get? (s.heap.objs.size+1)=some (PySem.W.instObj C s.heap.objs.size):=by
  have:=aW (s.heap.push PySem.W.emptyDict) (o:=PySem.W.instObj C s.heap.objs.size) rfl
  rwa [dQ]at this
 have e3:(s.heap.push PySem.W.emptyDict).Ns s.heap.objs.size (λ_=>none):=⟨PySem.W.emptyDict,#[],_,e1,rfl,(λe he=>absurd he .(2)),λ_=>rfl⟩;have I1:=I.laid (a:=s.heap.objs.size) (o:=.own (s.heap.objs.size+1)) (h':=s.heap.push PySem.W.emptyDict) (t':=s.toks) (λb u q=>aL _ q) (aM _) ⟨_,e1⟩;refine I1.laid (a:=s.heap.objs.size+1) (o:=.ins C s.heap.objs.size []) (t':=s.toks) (λb u q=>aL _ q) (Nat.le_of_eq (dQ _ _)) ?_;have ne:s.heap.objs.size≠s.heap.objs.size+1:=aX (d9 _);refine⟨by rw[Zy ne,ZF],cF _,ne,e2,λ_=>none,(Heap.Ns1.of_empty e3).at λo q=>aL _ q,λ_=>True.intro,λy hy=>absurd rfl hy⟩
def BU{prog:qM}{w:qN}{env:Env}{e:qS}{f:Str}{pos:Pos}{s:qK}{Q:iA}(hb:attributeBase e f env (eval e env)=eval e env)(h:wpAny (model prog w) A (eval e env) (λo i4=>wpAny (model prog w) A (getAttr o f true) Q E i4) E s):wpAny (model prog w) A (eval (.Attribute e f pos) env) Q E s:=
 Attribute_any_ h (by rw[arm_eval_Attribute,hb])
end
def tFld(K:iC)(ta:TE)(f:Str):TE:=λσ H Q=>ta σ H λx H1=>∃a C dx fs v,x=.ref a/\H1 a=some (.ins C dx fs)/\Cls K C/\NoAttr K C f/\fs.lookup f=some v/\Q v H1
def sFld(K:iC)(ta tv:TE)(f:Str):TS:=λD σ H=>tv σ H λy H1=>ta σ H1 λx H2=>∃a C dx fs,x=.ref a/\H2 a=some (.ins C dx fs)/\Cls K C/\NoAttr K C f/\fs.length<1000 /\
 D.nx σ (upd H2 a (.ins C dx (putF f y fs)))
section
variable{X:Cx}{o e value:qS}{f:Str}{pos jf m6:Pos}{ta tv:TE}
def pe_fld(he:PE X e ta)(hb:attributeBase e f X.env (eval e X.env)=eval e X.env):PE X (.Attribute e f pos) (tFld X.K ta f):=by
 intro gV s σ H Q I h;refine BU hb (thn (he gV s σ H _ I h) λu s1 ⟨x,H1,I1,rx,a,C,dx,fs,v,ex,ea,c,n,l,q⟩=>?_);subst ex;obtain rfl:u=Value.ref a:=rx;exact IW I1 ea c n l λu' s2 I2 ru=>⟨v,H1,I2,ru,q⟩
def ps_fld(ha:PE X o ta)(hv:PE X value tv)(hs:swapsWith value (some (.Attribute o f jf)) pos.line X.env=pure false):PS X (.Assign [.Attribute o f jf] value pos) (sFld X.K ta tv f):=by
 intro gV s σ H D I h;refine plainObj_wpAny_Assign_Attribute (thn (hv gV s σ H _ I h) λu s1 ⟨y,H1,I1,ry,q⟩=>thn (ha gV s1 σ H1 _ I1 q) λov s2 ⟨x,H2,I2,rx,a,C,dx,fs,ex,ea,c,n,l,q2⟩=>?_) hs;subst ex;obtain rfl:ov=Value.ref a:=rx;exact Ix I2 ea c n l ry λs3 I3=>⟨σ,_,I3,q2⟩
end
structure Room(k:Nat)(A:qO):Prop where
 hd:A.handled=none
 dp:A.depth+3 * k+5<recursionLimit
 un:A.units+16 * k+200<cLine
def Room.mono{j k:Nat}{A:qO}(r:Room k A)(h:j<=k):Room j A:=⟨r.hd,by have:=r.dp;omega,by have:=r.un;omega⟩
def Room.deeper{k:Nat}{A:qO}(r:Room (k+1) A)(env:Env):Room k (A.deeper env):=
 ⟨r.hd,by have:=r.dp;show A.depth+1+3 * k+5<_;omega,by have:=r.un;show A.units+3+16 * k+200<_;omega⟩
def Hc{A:qO}{C:qJ}{us:iJ}{kw:List (Str × qI)}:(A.under (.builtin "type.__call__" ⟨.ref C::us,kw⟩)).depth=A.depth+1:=by
 first|rfl|simp[Around.under,Code.weight,Code.isCreation,Code.isGuard,Code.isCaller,Code.frames,Code.isFrame,guardIds]
def Hi{A:qO}{C:qJ}{us:iJ}{kw:List (Str × qI)}:(A.under (.builtin "type.__call__" ⟨.ref C::us,kw⟩)).units=A.units+1:=by
 first|rfl|simp[Around.under,Code.cUnits,Code.frames,Code.isFrame]
def Room.make{k:Nat}{A:qO}(r:Room (k+1) A)(C:qJ)(us:iJ)(kw:List (Str × qI)):Room k (A.under (.builtin "type.__call__" ⟨.ref C::us,kw⟩)):=
 ⟨r.hd,by have:=r.dp;rw[Hc];omega,by have:=r.un;rw[Hi];omega⟩
def Room.depth{k:Nat}{A:qO}(r:Room k A):A.depth<recursionLimit:=by have:=r.dp;omega
def Room.units{k:Nat}{A:qO}(r:Room k A):A.units+64<cLine:=by have:=r.un;omega
def tNil:TA:=λ_ H Q=>Q [] H
def tCons(ta:TE)(tr:TA):TA:=λσ H Q=>ta σ H λx H1=>tr σ H1 λxs H2=>Q (x::xs) H2
section
variable{X:Cx}{e:qS}{es:iN}{te:TE}{t:TA}{pos:Pos}
def Vq:PA X [] tNil:=λ_ _ _ _ H Q I h=>ip ⟨[],H,I,.nil,h⟩
abbrev rA(e)(es)(X:Cx):=starEach (e::es) X.env=(false,eval e X.env)::starEach es X.env
def X1(ha:PE X e te)(hr:PA X es t)(hs:rA e es X:=by rfl):PA X (e::es) (tCons te t):=by
 intro pos gV s σ H Q I h;rw[hs];show wpAny _ _ (spliced ((false,eval e X.env)::backTo pos (starEach es X.env))) _ _ s;refine fV (thn (ha gV s σ H _ I h) λu s1 ⟨x,H1,I1,r1,q1⟩=>?_);exact thn (hr pos gV s1 σ H1 _ I1 q1) λus s2 ⟨xs,H2,I2,r2,q2⟩=>⟨x::xs,H2,I2,.cons r1 r2,q2⟩
def tTup(t:TA):TE:=λσ H Q=>t σ H λxs H1=>xs.length<=sizeLine/\∀p,H1 p=none->Q (.ref p) (upd H1 p (.tup xs))
def tLst(t:TA):TE:=λσ H Q=>t σ H λxs H1=>xs.length<=sizeLine/\∀p,H1 p=none->Q (.ref p) (upd H1 p (.lst xs))
def pe_tup{x1}(h:PA X es t):PE X (.Tuple es x1 pos) (tTup t):=by
 intro gV s σ H Q I hq;refine wpAny_Tuple_spliced (thn (h pos gV s σ H _ I hq) λus s1 ⟨xs,H1,I1,r,z,q⟩=>⟨by rw[← r.length];exact z,?_⟩);have hf:H1 s1.heap.objs.size=none:=I1.hok.fresh (aM _);refine⟨.ref s1.heap.objs.size,upd H1 s1.heap.objs.size (.tup xs),I1.laid (t':=s1.toks) (λb u e=>aL _ e) (aM _) ?_,rfl,q _ hf⟩;exact⟨z,us,r,⟨_,aW _ rfl,rfl,_,rfl⟩⟩
def IF(h:PA X es t):PE X (.List es pos) (tLst t):=by
 intro gV s σ H Q I hq;refine wpAny_List_spliced (thn (h pos gV s σ H _ I hq) λus s1 ⟨xs,H1,I1,r,z,q⟩=>⟨by rw[← r.length];exact z,?_⟩);have hf:H1 s1.heap.objs.size=none:=I1.hok.fresh (aM _);refine⟨.ref s1.heap.objs.size,upd H1 s1.heap.objs.size (.lst xs),I1.laid (t':=s1.toks) (λb u e=>aL _ e) (aM _) ?_,rfl,q _ hf⟩;exact⟨z,us,0,r,aW _ rfl⟩
end
abbrev Sp:=iQ->Hp->VK->XK->Prop
abbrev CXT:=List Env->Hp->Shared->XK->Value->Shared->Prop
structure Env0(P:qM)(w:qN)(K:iC)(mg:iB)(base:qQ)(A:qO)(outer:List Env)(s:qK)(H:Hp):Prop where
 frames:A.frames=some outer
 mod:Mod K mg base
 bs:∀b o,base.get? b=some o->s.heap.get? b=some o/\H b=none
 bsz:base.objs.size<=s.heap.objs.size
 funs:s.heap.FunFrames base outer
 frf:∀b∈frs outer,H b=none
 hok:HOk P w H s.heap
 bare:AllBare s.gens
def CE(outer:List Env)(P:qM)(w:qN)(H:Hp)(s:qK)(Q:VK)(u:qI)(s':qK):Prop:=
 ∃v H',s'.os=s.os/\AllBare s'.gens/\Un (frs outer) [] H H' s.heap s'.heap/\HOk P w H' s'.heap/\RelV v u/\Q v H'
def CR(CX:CXT)(outer:List Env)(P:qM)(w:qN)(H:Hp)(s:qK)(Q:VK)(E:XK)(r:Result)(s':qK):Prop:=
 match r with
 |.ok (.ret u)=>CE outer P w H s Q u s'
 |.ok _=>False
 |.error e=>CX outer H s E e s'
structure FnOk(P:qM)(w:qN)(K:iC)(mg:iB)(base:qQ)(CX:CXT)(k:Nat)(f:qJ)(fd:qP)(ps:iM)(sp:Sp):Prop where
 len:∀vs H Q E,sp vs H Q E->vs.length=ps.length
 run:∀(A:qO) (outer:List Env) (s:qK) (H:Hp) (args:Args) (us:iJ) (vs:iQ) (Q:VK) (E:XK),Room k A->Env0 P w K mg base A outer s H->BindsTo s fd args (ps.zip us)->Vals vs us->sp vs H Q E ->
  codeAny (model P w) A (.call (.ref f) args) (CR CX outer P w H s Q E) s
def FnOk.imp{P:qM}{w:qN}{K:iC}{mg:iB}{base:qQ}{CX:CXT}{k:Nat}{f:qJ}{fd:qP}{ps:iM}{sp og:Sp}(F:FnOk P w K mg base CX k f fd ps sp)(h:∀vs H Q E,og vs H Q E->sp vs H Q E):FnOk P w K mg base CX k f fd ps og:=
 ⟨λvs H Q E q=>F.len vs H Q E (h _ _ _ _ q),λA outer s H args us vs Q E hr he hb hv hs=>F.run A outer s H args us vs Q E hr he hb hv (h _ _ _ _ hs)⟩
def Env0.make{P:qM}{w:qN}{K:iC}{mg:iB}{base:qQ}{A:qO}{outer:List Env}{s:qK}{H:Hp}(e:Env0 P w K mg base A outer s H)(C:qJ)(us:iJ)(kw:List (Str × qI)):Env0 P w K mg base (A.under (.builtin "type.__call__" ⟨.ref C::us,kw⟩)) outer s H:=⟨by first|exact e.frames|(simpa [Around.under,Code.envs,Code.isFrame,pushEnvs] using e.frames),e.mod,e.bs,e.bsz,e.funs,e.frf,e.hok,e.bare⟩
section
variable{X:Cx}{gV:iD}{σ:St}{H:Hp}{s s':qK}
def Inv.env0(I:Inv X gV σ H s):Env0 X.prog X.w X.K X.mg X.base X.A X.stack s H:=
 ⟨I.ok.frames,I.ok.mod,I.bs,bL I.ok.bsz I.sz,I.stack,I.stkFree,I.hok,I.bare⟩
def Inv.after{Q:VK}{u:qI}(I:Inv X gV σ H s)(h:CE X.stack X.prog X.w H s Q u s'):EP X gV σ Q u s':=by
 obtain⟨v,H',os,bare,un,hok,r,q⟩:=h;obtain⟨hh,g,d,t,lQ⟩:=s';obtain rfl:lQ=s.os:=os;exact⟨v,H',I.call (h':=hh) (g':=g) (d':=d) (t':=t) (ch:=[]) un hok bare (λb z=>absurd z .(2)),r,q⟩
end
def tCall(sp:Sp)(dvs:iQ)(E:XK)(t:TA):TE:=λσ H Q=>t σ H λvs H1=>sp (vs++dvs) H1 Q E
def GV(C:qJ)(m:Str)(sp:Sp)(dvs:iQ)(E:XK)(ta:TE)(t:TA):TE:=λσ H Q=>ta σ H λx H1=>∃a dx fs,x=.ref a/\H1 a=some (.ins C dx fs)/\fs.lookup m=none /\
 t σ H1 λvs H2=>sp (x::(vs++dvs)) H2 Q E
def tMake(C:qJ)(sp:Sp)(dvs:iQ)(E:XK)(t:TA):TE:=λσ H Q=>t σ H λvs H1=>∀x dx,H1 x=none->H1 dx=none->dx≠x ->
 sp (.ref x::(vs++dvs)) (upd (upd H1 dx (.own x)) x (.ins C dx [])) (λv H2=>v=.non/\Q (.ref x) H2) E
def Binds(K:iC)(fd:qP)(ps:iM)(ds:iJ):Prop:=
 ∀(s:qK) (us:iJ),K.In s.heap->(us++ds).length=ps.length->BindsTo s fd ⟨us,[]⟩ (ps.zip (us++ds))
def Binds.all{K:iC}{fd:qP}{ps:iM}(h:∀us:iJ,us.length=ps.length->bindArgs fd ⟨us,[]⟩=pure (ps.zip us)):Binds K fd ps []:=λs us _ hl=>by
 rw[bF]at hl ⊢;exact .of_eq (h us hl)
def XQ(CX:CXT)(X:Cx)(E:XK):Prop:=∀(gV:iD) (σ:St) (H:Hp) (s:qK) (e:qI) (s':qK),Inv X gV σ H s->CX X.stack H s E e s'->X.xe e s'
section
variable{X:Cx}{CX:CXT}{k:Nat}{f C:qJ}{fd:qP}{ps:iM}{sp:Sp}{dvs:iQ}{ds:iJ}{E:XK}{x m:Str}{p pos iY:Pos}{e o:qS}{es:iN}{ta:TE}{t:TA}
def Hb{gV:iD}{σ:St}{H:Hp}{s:qK}{Q:VK}{us:iJ}{vs:iQ}(F:FnOk X.prog X.w X.K X.mg X.base CX k f fd ps sp)(hr:Room k X.A)(hb:Binds X.K fd ps ds)(hd:Vals dvs ds)(hx:XQ CX X E)(I:Inv X gV σ H s) (r:Vals vs us) (h:sp (vs++dvs) H Q E):wpAny (model X.prog X.w) X.A (call (.ref f) us) (EP X gV σ Q) X.xe s:=by
 have r2:Vals (vs++dvs) (us++ds):=r.append hd;have hl:(us++ds).length=ps.length:=by rw[← r2.length];exact F.len _ _ _ _ h
 refine gD (dY (F.run X.A X.stack s H ⟨us,[]⟩ (us++ds) (vs++dvs) Q E hr I.env0 (hb s us I.kIn hl) r2 h) λr s' hq=>?_);cases r with
 |error e=>exact hx gV σ H s e s' I hq
 |ok fl=>
  cases fl with
  |ret u=>exact I.after hq
  |next=>exact False.elim hq
  |brk=>exact False.elim hq
  |cont=>exact False.elim hq
abbrev rB(pos:Pos)(es)(X:Cx):=(backTo pos (starEach es X.env)).any (·.1)=false
def A7(F:FnOk X.prog X.w X.K X.mg X.base CX k f fd ps sp)(hr:Room k X.A)(hg:Gl X x)(hm:X.mg x=some (.ref f))(hk:PySem.W.keepIn X.K (.ref f)=true)(hb:Binds X.K fd ps ds)(hd:Vals dvs ds)(hx:XQ CX X E)(ha:PA X (e::es) t) (jv:(x == ("__debug__":Str))=false:=by decide) (he:rA e es X:=by rfl) (jb:rB pos es X:=by rfl):PE X (.Call (.Name x p) (e::es) [] pos) (tCall sp dvs E t):=by
 intro gV s σ H Q I h;refine eR (T5 I hg hm ?_ jv);refine eG (h₀:=X.base) I.ok.mod.kin hk (thn (ha pos gV s σ H _ I h) λus s1 ⟨vs,H1,I1,r,q⟩=>⟨I1.kIn,?_⟩) he jb;exact Hb F hr hb hd hx I1 r q
def BV{pl:Sem Bool}(he:PE X o ta)(c:Cls X.K C)(hm:Meth X.K C m f)(F:FnOk X.prog X.w X.K X.mg X.base CX k f fd ps sp)(hr:Room k X.A)(hb:Binds X.K fd ps ds)(hd:Vals dvs ds)(hx:XQ CX X E)(ha:PA X (e::es) t)(jT:rA e es X:=by rfl) (jb:rB pos es X:=by rfl)(ht:eval (.Call (.Attribute o m iY) (e::es) [] pos) X.env=(do
     let ov ← eval o X.env
     standAt iY.atName
     let (f,first) ← holding [ov] (getMethod ov m pl)
     callWith pos f first (backTo pos (starEach (e::es) X.env)) (backToKw pos (keywordEach [] X.env))):=by rfl):
    PE X (.Call (.Attribute o m iY) (e::es) [] pos) (GV C m sp dvs E ta t):=by
 intro gV s σ H Q I h;refine gu (pl:=pl) (thn (he gV s σ H _ I h) λu s1 ⟨x,H1,I1,rx,a,dx,fs,ex,ea,l,q⟩=>?_) ht;subst ex;obtain rfl:u=Value.ref a:=rx;refine S8 I1 ea c hm l ?_;refine eG (first:=[.ref a]) (h₀:=X.base) I.ok.mod.kin hm.kp (thn (ha pos gV s1 σ H1 _ I1 q) λus s2 ⟨vs,H2,I2,r,q2⟩=>⟨I2.kIn,?_⟩) jT jb;exact Hb (us:=.ref a::us) (vs:=.ref a::vs) F hr hb hd hx I2 (.cons rfl r) q2
def CV{pl:Sem Bool}(he:PE X o ta)(c:Cls X.K C)(hm:Meth X.K C m f)(F:FnOk X.prog X.w X.K X.mg X.base CX k f fd ps sp)(hr:Room k X.A)(hb:Binds X.K fd ps ds)(hd:Vals dvs ds)(hx:XQ CX X E)(ht:eval (.Call (.Attribute o m iY) [] [] pos) X.env=(do
     let ov ← eval o X.env
     standAt iY.atName
     let (f,first) ← holding [ov] (getMethod ov m pl)
     callWith pos f first (backTo pos (starEach [] X.env)) (backToKw pos (keywordEach [] X.env))):=by rfl):
    PE X (.Call (.Attribute o m iY) [] [] pos) (GV C m sp dvs E ta tNil):=by
 intro gV s σ H Q I h;refine gu (pl:=pl) (thn (he gV s σ H _ I h) λu s1 ⟨x,H1,I1,rx,a,dx,fs,ex,ea,l,q⟩=>?_) ht;subst ex;obtain rfl:u=Value.ref a:=rx;refine S8 I1 ea c hm l ?_;exact PySem.W.callWith_K0 (first:=[.ref a]) I1.kIn hm.kp (Hb (us:=[.ref a]) (vs:=[.ref a]) F hr hb hd hx I1 (.cons rfl .nil) q)
structure Mk(K:iC)(C f:qJ):Prop where
 makes:PySem.W.makesIn K C=true
 init:PySem.W.findIn K (.ref C) "__init__"=↑(.ref f)
 fn:PySem.W.isFn K (.ref f)=true
 kp:PySem.W.keepIn K (.ref C)=true
def EF{gV:iD}{σ:St}{H:Hp}{s:qK}{Q:VK}{us:iJ}{vs:iQ}(M:Mk X.K C f)(F:FnOk X.prog X.w X.K X.mg X.base CX k f fd ps sp)(hr:Room (k+1) X.A)(hb:Binds X.K fd ps ds)(hd:Vals dvs ds)(hx:XQ CX X E) (I:Inv X gV σ H s) (r:Vals vs us)(h:∀x dx,H x=none->H dx=none->dx≠x->sp (.ref x::(vs++dvs)) (upd (upd H dx (.own x)) x (.ins C dx [])) (λv H2=>v=.non/\Q (.ref x) H2) E):wpAny (model X.prog X.w) X.A (call (.ref C) us) (EP X gV σ Q) X.xe s:=by
 have hq:=h (s.heap.objs.size+1) s.heap.objs.size (I.hok.fresh (dF _)) (I.hok.fresh (aM _)) (aX (d9 _));have I2:=Inv.made (C:=C) I;have r2:Vals (V.ref (s.heap.objs.size+1)::(vs++dvs)) (Value.ref (s.heap.objs.size+1)::(us++ds)):=.cons rfl (r.append hd)
 have hl:(Value.ref (s.heap.objs.size+1)::us++ds).length=ps.length:=by
  have e:=r2.length;rw[F.len _ _ _ _ hq]at e;exact e.symm
 refine gD (Ck (f:=f) I.kIn M.makes M.init (cX.mp M.fn) (dY (F.run _ X.stack _ _ ⟨Value.ref (s.heap.objs.size+1)::us,[]⟩ (Value.ref (s.heap.objs.size+1)::(us++ds)) _ _ E (hr.make C us [])
  (I2.env0.make C us []) (hb _ (Value.ref (s.heap.objs.size+1)::us) I2.kIn hl) r2 hq) λr s' kH=>?_))
 cases r with
 |error e=>exact hx gV σ _ _ e s' I2 kH
 |ok fl=>
  cases fl with
  |ret u=>
   obtain⟨v,H',I3,rv,ev,q3⟩:=I2.after kH;subst ev;exact⟨rv,⟨V.ref (s.heap.objs.size+1),H',I3,rfl,q3⟩⟩
  |next=>exact False.elim kH
  |brk=>exact False.elim kH
  |cont=>exact False.elim kH
def AB(M:Mk X.K C f)(F:FnOk X.prog X.w X.K X.mg X.base CX k f fd ps sp)(hr:Room (k+1) X.A)(hg:Gl X x)(hm:X.mg x=some (.ref C))(hb:Binds X.K fd ps ds)(hd:Vals dvs ds)(hx:XQ CX X E)(ha:PA X (e::es) t) (jv:(x == ("__debug__":Str))=false:=by decide) (he:rA e es X:=by rfl) (jb:rB pos es X:=by rfl):PE X (.Call (.Name x p) (e::es) [] pos) (tMake C sp dvs E t):=by
 intro gV s σ H Q I h;refine eR (T5 I hg hm ?_ jv);refine eG (h₀:=X.base) I.ok.mod.kin M.kp (thn (ha pos gV s σ H _ I h) λus s1 ⟨vs,H1,I1,r,q⟩=>⟨I1.kIn,?_⟩) he jb;exact EF M F hr hb hd hx I1 r q
end
structure FnScope(N P:iM)(sc:Scope):Prop where
 kind:sc.kind=.function
 co:sc.isCoroutine=false
 gen:sc.isGenerator=false
 nd:N.Nodup
 pre:N.take P.length=P
 par:∀x∈P,sc.names.lookup x=some .local\/sc.names.lookup x=some .cell
 nofree:∀y∈sc.names,y.2≠.free
def NJ{kindOf:Str->Option NameKind}{x:Str}:∀{binds:List (Str × qI)} {m:iB},(∀v,(x,v) ∉ binds)->bindL kindOf binds m x=m x
 |[],_,_=>rfl
 |(n,v)::r,m,h=>by
  unfold bindL;rw[NJ λw hw=>h w (cU _ hw)];split
  ·have:x≠n:=by rintro rfl;exact h v da
   simp[this]
  ·rfl
def Mq{kindOf:Str->Option NameKind}{x:Str}:∀{binds:List (Str × qI)} {m:iB},(∀v,(x,v) ∉ binds)->bindC kindOf binds m x=m x
 |[],_,_=>rfl
 |(n,v)::r,m,h=>by
  unfold bindC;rw[Mq λw hw=>h w (cU _ hw)];split
  ·rfl
  ·have:x≠n:=by rintro rfl;exact h v da
   simp[this]
def N4{kindOf:Str->Option NameKind}{x:Str}{v:qI}:∀{P:iM} {vs:iJ} {i:Nat} {m:iB},P.Nodup->P[i]?=some x->vs[i]?=some v->kindOf x=some .local -> bindL kindOf (P.zip vs) m x=some v
 |[],_,_,_,_,h,_,_=>by simp at h
 |_::_,[],_,_,_,_,h,_=>by simp at h
 |p::P,w::vs,0,m,nd,h1,h2,hk=>by
  simp at h1 h2;subst h1;subst h2;show bindL kindOf ((p,w)::P.zip vs) m p=_;unfold bindL;rw[NJ λv hv=>(cL.mp nd).1 (ie hv).1,aC hk];simp
 |p::P,w::vs,i+1,m,nd,h1,h2,hk=>by
  show bindL kindOf ((p,w)::P.zip vs) m x=_;unfold bindL;exact N4 (i:=i) (cL.mp nd).2 (by simpa using h1) (by simpa using h2) hk
def NH{kindOf:Str->Option NameKind}{x:Str}{v:qI}:∀{P:iM} {vs:iJ} {i:Nat} {m:iB},P.Nodup->P[i]?=some x->vs[i]?=some v->kindOf x≠some .local -> bindC kindOf (P.zip vs) m x=some v
 |[],_,_,_,_,h,_,_=>by simp at h
 |_::_,[],_,_,_,_,h,_=>by simp at h
 |p::P,w::vs,0,m,nd,h1,h2,hk=>by
  simp at h1 h2;subst h1;subst h2;show bindC kindOf ((p,w)::P.zip vs) m p=_;unfold bindC;rw[Mq λv hv=>(cL.mp nd).1 (ie hv).1,aD hk];simp
 |p::P,w::vs,i+1,m,nd,h1,h2,hk=>by
  show bindC kindOf ((p,w)::P.zip vs) m x=_;unfold bindC;exact NH (i:=i) (cL.mp nd).2 (by simpa using h1) (by simpa using h2) hk
def start(N:iM)(vs:iQ):St:=vs.map some++List.replicate (N.length-vs.length) none
def NC(CX:CXT)(P:qM)(w:qN)(K:iC)(mg:iB)(base:qQ)(N:iM)(qual:Str)(scope:Scope)(f:qJ)(cd:qI)(A:qO)(outer:List Env)(s:qK)(H:Hp)(E:XK):Cx where
 prog:=P
 w:=w
 K:=K
 mg:=mg
 base:=base
 A:=A.deeper (envOfC qual scope s.heap.objs.size f cd)
 N:=N
 s₀:=s
 H₀:=H
 env:=envOfC qual scope s.heap.objs.size f cd
 outer:=outer
 stack:=envOfC qual scope s.heap.objs.size f cd::outer
 ex:=[]
 calm:=true
 fn:=λ_=>true
 pn:=[]
 xe:=λe s'=>wpAny (model P w) (A.deeper (envOfC qual scope s.heap.objs.size f cd)) (leaving (envOfC qual scope s.heap.objs.size f cd) e) (λ_ kM=>CX outer H s E e kM) (λe' kM=>CX outer H s E e' kM) s'
def JS{sc:Scope}{n:Nat}{x:Str}(h:sc.names.lookup x=some .cell):∃c,(cellsFrom n sc.names []).lookup x=some c:=by
 have q:=PySem.W.cellsFrom_some sc.names n [] (.inl h);exact aO.mp q
def Fu{CX:CXT}{P:qM}{w:qN}{K:iC}{mg:iB}{base:qQ}{N ps:iM}{qual:Str}{scope:Scope}{f:qJ}{cd:qI}{A:qO}{outer:List Env}{s s1:qK}{H:Hp}{E:XK}{us:iJ}{vs:iQ}(S:FnScope N ps scope) (hd:A.handled=none) (e0:Env0 P w K mg base A outer s H) (hl:vs.length=ps.length) (r:Vals vs us)(x:InCallC s s.heap.objs.size (bindL (envOfC qual scope s.heap.objs.size f cd).kindOf (ps.zip us) λ_=>none) (cellsFrom (s.heap.objs.size+1) scope.names []) (bindC (envOfC qual scope s.heap.objs.size f cd).kindOf (ps.zip us) λ_=>none) s1):Inv (NC CX P w K mg base N qual scope f cd A outer s H E) [] (start N vs) H s1:=by
 have jb:ps.length<=N.length:=by have:=cE List.length S.pre;rw[fT]at this;omega
 obtain⟨h1,tk,rfl,hk⟩:=x.done;have noA:∀b:qJ,b ∉ (NC CX P w K mg base N qual scope f cd A outer s H E).ex:=λb z=>absurd (show b∈([]:iI) from z) .(2)
 refine⟨⟨e0.mod,S.kind,rfl,rfl,aM _,λy z c h1 h2=>?_,λy hy=>?_,λy c _ h=>?_,λ_=>hd,Around.frames_deeper e0.frames,.inr ⟨rfl,rfl⟩,λb z=>absurd z (noA b),e0.bs,e0.bsz,λb _ _=>noA b,λb z=>absurd z (noA b),e0.funs,e0.frf⟩,
  rfl,e0.bare,Un.kept hk,⟨_,x.toInCall.ns,λi y v h1 h2 h3=>?_⟩,λy c h=>⟨_,x.cell y c h⟩,e0.hok.fresh (aM _),λy c h=>?_,λp hp=>absurd (show p∈([]:iD) from hp) .(2),e0.hok.kept hk,?_⟩
 ·exact name_of_addr x.apart (cA h1) (cA h2)
 ·have hy:scope.names.lookup y=some .cell\/scope.names.lookup y=some .free:=hy
  rcases hy with hy|hy
  ·exact JS hy
  ·exact absurd rfl (S.nofree _ (cA hy))
 ·exact eM (x.above y c (cA h))
 ·have hi:i<vs.length:=by
   unfold start at h2;by_cases hi:i<vs.length
   ·exact hi
   ·rw[bK (by simpa using hi)]at h2
    rw[dM]at h2;split at h2 <;> cases h2
  have ha:vs[i]?=some v:=by
   unfold start at h2;rw[aZ (by simpa using hi),bB]at h2;cases e:vs[i]? with
   |none=>rw[e]at h2;cases h2
   |some a=>rw[e]at h2;cases h2;rfl
  obtain⟨u,hu,rv⟩:=r.get ha
  have hp:ps[i]?=some y:=by
   rw[← S.pre,List.getElem?_take_of_lt .(0)];exact h1
  have ndP:ps.Nodup:=by rw[← S.pre];exact S.nd.sublist (List.take_sublist _ _)
  refine⟨u,rv,?_⟩;rcases S.par y (bN hp) with k|k
  ·exact .inl ⟨k,N4 ndP hp hu k⟩
  ·obtain⟨c,e⟩:=JS (n:=s.heap.objs.size+1) k
   refine .inr ⟨.inl k,c,e,?_⟩;have q:=x.cell y c e;rw[NH ndP hp hu (by show scope.names.lookup y≠_;rw[k];decide)]at q;exact q
 ·exact e0.hok.fresh (eM (x.above y c (cA h)))
 ·unfold start
  show _=N.length;rw[aV,aB,dX];omega
def fn_of{CX:CXT}{P:qM}{w:qN}{K:iC}{mg:iB}{base:qQ}{k:Nat}{f:qJ}{name qual:Str}{params:Arguments}{body:List qR}{scope:Scope}{dV kV doc pm jz ct oc:qI}{an od:Option qJ}{lR:Array (iP)} {N ps:iM} {sp:Sp} (lk:K.lookup f=some ⟨oc,od,.func (PySem.W.fnOf name qual params body scope dV kV doc pm an jz ct),lR⟩) (jS:PySem.W.codeIn K jz qual=true) (S:FnScope N ps scope)(len:∀vs H Q E,sp vs H Q E->vs.length=ps.length)(kq:∀(A:qO) (outer:List Env) (s:qK) (H:Hp) (vs:iQ) (Q:VK) (E:XK),Room k (A.deeper (envOfC qual scope s.heap.objs.size f jz))->sp vs H Q E ->
     ∃t,PSs (NC CX P w K mg base N qual scope f jz A outer s H E) body t/\t {nx:=λ_ H'=>Q .non H',rt:=Q} (start N vs) H):
    FnOk P w K mg base CX (k+1) f (PySem.W.fnOf name qual params body scope dV kV doc pm an jz ct) ps sp:=by
 refine⟨len,λA outer s H args us vs Q E hr e0 hb r k9=>?_⟩;have hl:=len _ _ _ _ k9;have KX:K.In s.heap:=e0.mod.kin.keeps λb o e=>(e0.bs b o e).1
 have lim:s.heap.NoLimit:=e0.mod.nolimit.keeps λb o e=>(e0.bs b o e).1
 have hkind:∀y∈ps.zip us,scope.names.lookup y.1=some .local\/(scope.names.lookup y.1=some .cell/\((cellsFrom (s.heap.objs.size+1) scope.names []).lookup y.1).isSome=true):=λ⟨n,v⟩ hy=>by
  rcases S.par n (ie hy).1 with q|q
  ·exact .inl q
  ·exact .inr ⟨q,PySem.W.cellsFrom_some _ _ _ (.inl q)⟩
 refine codeAny_call_function hr.depth (KX _ _ lk) rfl S.co S.gen rfl (PySem.W.codeRec_of KX jS) (hb _ _ _ _ ?_);refine wpAny_newFunctionEnv_cells S.kind hkind λenv he s1 x=>?_
 subst he;refine⟨lim.keeps x.toInCall.keep,codeAny_func ?_⟩;obtain⟨t,ht,hq⟩:=kq A outer s H vs Q E (hr.deeper _) k9;have I:Inv (NC CX P w K mg base N qual scope f jz A outer s H E) [] (start N vs) H s1:=Fu S hr.hd e0 hl r x;refine cw (ht [] s1 (start N vs) H _ I hq) (λfl s' hs=>?_) λe s' hs=>hs
 have fin:∀{i6:St} {H':Hp} {v:V} {u:qI},Inv (NC CX P w K mg base N qual scope f jz A outer s H E) [] i6 H' s'->RelV v u->Q v H'->CE outer P w H s Q u s':=
  λ{i6 H' v u} J rv q=>⟨v,H',J.os,J.bare,J.base,J.hok,rv,q⟩
 cases fl with
 |ret u=>
  obtain⟨v,i6,H',J,rv,q⟩:=hs;exact fin J rv q
 |next=>
  obtain⟨i6,H',J,q⟩:=hs;exact fin (v:=V.non) (u:=Value.none) J rfl q
 |brk=>
  obtain⟨_,_,_,q⟩:=hs;exact False.elim q
 |cont=>
  obtain⟨_,_,_,q⟩:=hs;exact False.elim q
section
variable{X:Cx}{x:Str}{p pos:Pos}{e:qS}{es:iN}{t:TA}{id T:String}{r:iQ->Hp->VK->Prop}
def tCB(r:iQ->Hp->VK->Prop)(t:TA):TE:=λσ H Q=>t σ H λvs H1=>r vs H1 Q
def RF(hc:CallR X (.builtin id) r)(hg:Gl X x)(hm:X.mg x=none)(hv:bootBuiltins x=some (.builtin id))(ha:PA X (e::es) t)(hn:x≠"__name__":=by decide)(jv:(x == ("__debug__":Str))=false:=by decide)(he:rA e es X:=by rfl) (jb:rB pos es X:=by rfl):PE X (.Call (.Name x p) (e::es) [] pos) (tCB r t):=by
 intro gV s σ H Q I h;refine eR (Lp I hg hm hv ?_ hn jv);exact PyProof.Rows.callWith_builtin1 (thn (ha pos gV s σ H _ I h) λus s1 ⟨vs,H1,I1,r1,q1⟩=>hc gV s1 σ H1 vs us Q I1 r1 q1) he jb
def Qy(hc:CallR X (.type T) r)(hg:Gl X x)(hm:X.mg x=none)(hv:bootBuiltins x=some (.type T))(ha:PA X (e::es) t)(hn:x≠"__name__":=by decide)(jv:(x == ("__debug__":Str))=false:=by decide)(he:rA e es X:=by rfl) (jb:rB pos es X:=by rfl):PE X (.Call (.Name x p) (e::es) [] pos) (tCB r t):=by
 intro gV s σ H Q I h;refine eR (Lp I hg hm hv ?_ hn jv);exact ik (thn (ha pos gV s σ H _ I h) λus s1 ⟨vs,H1,I1,r1,q1⟩=>hc gV s1 σ H1 vs us Q I1 r1 q1) he jb
end
end L2
namespace HT
open PySem PyProof.Rows
end HT
namespace L2
open PySem PySem.Spec PyProof.Rows
def ixN(n:Nat)(i:Int):Option Nat:=if 0<=i then (if i<n then some i.toNat else none) else if -(n:Int)<=i then some (i+n).toNat else none
def atI{α:Type}(xs:List α)(i:Int):Option α:=(ixN xs.length i).bind λj=>xs[j]?
def Hx{n:Nat}{i:Int}{j:Nat}(h:ixN n i=some j):seqIndex? i n=some j/\j<n/\-(n:Int)<=i/\i<n:=by
 unfold ixN at h;by_cases h0:0<=i
 ·rw[aC h0]at h
  by_cases h1:i<n
  ·rw[aC h1]at h
   have e:i.toNat=j:=bM h;exact⟨by rw[seqIndex_of h0 h1,e],.(0),.(0),h1⟩
  ·rw[aD h1]at h;cases h
 ·rw[aD h0]at h
  by_cases h1:-(n:Int)<=i
  ·rw[aC h1]at h
   have e:(i+n).toNat=j:=bM h;exact⟨by rw[seqIndex_neg .(0) h1,e],.(0),h1,.(0)⟩
  ·rw[aD h1]at h;cases h
def Kc{α:Type}{xs:List α}{i:Int}{v:α}(h:atI xs i=some v):∃j,seqIndex? i xs.length=some j/\xs[j]?=some v/\j<xs.length/\-(xs.length:Int)<=i/\i<xs.length:=by
 unfold atI at h;cases e:ixN xs.length i with
 |none=>rw[e]at h;cases h
 |some j=>
  rw[e]at h;obtain⟨h1,h2,h3,h4⟩:=Hx e;exact⟨j,h1,h,h2,h3,h4⟩
def Ae{α:Type}{xs:List α}{j:Nat}{v:α}(h:xs[j]?=some v):atI xs (j:Int)=some v:=by
 have hj:j<xs.length:=(aJ.mp h).1
 have e:ixN xs.length (j:Int)=some j:=by
  unfold ixN;rw[aC .(0),aC .(0)];simp
 unfold atI;rw[e];exact h
def L7(b:qS):Prop:=∀o i,subscripted b false o i=operate [o,i] (getItem o i)
def IxR(X:Cx)(r:R2):Prop:=
 ∀(value slice:qS) (gV:iD) (s:qK) (σ:St) (H:Hp) (x y:V) (v u:qI) (Q:VK),Inv X gV σ H s->RelV x v->RelV y u->r x y H Q ->
  subscripted slice false v u=operate [v,u] (getItem v u)->wpAny (model X.prog X.w) X.A (subscriptTail value slice v u) (EP X gV σ Q) X.xe s
def MtR(X:Cx)(id:String)(r:V->List V->Hp->VK->Prop):Prop:=
 ∀(gV:iD) (s:qK) (σ:St) (H:Hp) (x:V) (xs:iQ) (v:qI) (us:iJ) (Q:VK),Inv X gV σ H s->RelV x v->Vals xs us->r x xs H Q ->
  wpAny (model X.prog X.w) X.A (call (.builtin id) (v::us)) (EP X gV σ Q) X.xe s
section
variable{X:Cx}{a b:qS}{ta tb:TE}{pos:Pos}
def IxR.or{r r':R2}(h:IxR X r)(h':IxR X r'):IxR X (λx y H Q=>r x y H Q\/r' x y H Q):=by
 intro value slice gV s σ H x y v u Q I rx ry q hs;rcases q with q|q
 ·exact h value slice gV s σ H x y v u Q I rx ry q hs
 ·exact h' value slice gV s σ H x y v u Q I rx ry q hs
def pe_ix{r:R2}(hr:IxR X r)(ha:PE X a ta)(hb:PE X b tb)(hs:L7 b):PE X (.Subscript a b pos) (tOp r ta tb):=by
 intro gV s σ H Q I h;exact Subscript_ (binT ha hb I h λv u s2 x y H2 I2 rx ry q=>hr a b gV s2 σ H2 x y v u Q I2 rx ry q (hs _ _))
def rIxL(K:iC):R2:=λx y H Q=>∃p xs i v,x=.ref p/\y=.int i/\SqL K H p xs/\atI xs i=some v/\Q v H
def rIxT(K:iC):R2:=λx y H Q=>∃p xs i v,x=.ref p/\y=.int i/\SqT K H p xs/\atI xs i=some v/\Q v H
def rIxS:R2:=λx y H Q=>∃z i c,x=.str z/\y=.int i/\z.length<=sizeLine/\atI z.cps.toList i=some c/\Q (.str ⟨#[c]⟩) H
def BM:IxR X (rIxL X.K):=by
 intro value slice gV s σ H x y v u Q I rx ry h hs;obtain⟨p,xs,i,z,rfl,rfl,hq,he,q⟩:=h;cases rx;obtain⟨t,rfl⟩:=ry;obtain⟨iy,r,pl,hz⟩:=I.list hq;obtain⟨j,h1,h2,h3,h4,h5⟩:=Kc he;obtain⟨w,ew,rw'⟩:=r.get h2;have hl:=r.length;have hn:=QC;have fin:EP X gV σ Q w s:=⟨z,H,I,rw',q⟩;by_cases h0:0<=i
 ·have hj:i.toNat=j:=by
   rw[seqIndex_of h0 h5]at h1;exact bM h1
  exact item_listR pl.isList h0 .(0) (by rw[hj];simpa using ew) fin hs
 ·have hj:(i+(iy.toArray.size:Int)).toNat=j:=by
   rw[seqIndex_neg .(0) h4]at h1;rw[bD,← hl];exact bM h1
  exact subscriptTail_builtinR (x:=w) pl.isList.typeIs slot_list_getitem.lookup
   (wpAny_getItem_list_neg (Q:=λr s'=>r=w/\EP X gV σ Q r s') pl.isList .(0) (by rw[bD] <;> omega) .(0) (by rw[hj];simpa using ew) ⟨rfl,fin⟩) hs
def ix_tup:IxR X (rIxT X.K):=by
 intro value slice gV s σ H x y v u Q I rx ry h hs;obtain⟨p,xs,i,z,rfl,rfl,hq,he,q⟩:=h;cases rx;obtain⟨t,rfl⟩:=ry;obtain⟨iy,r,pl,hz⟩:=I.tuple hq;obtain⟨j,h1,h2,h3,h4,h5⟩:=Kc he;obtain⟨w,ew,rw'⟩:=r.get h2;have hl:=r.length;have hn:=QC;have fin:EP X gV σ Q w s:=⟨z,H,I,rw',q⟩
 exact subscriptTail_builtinR (x:=w) pl.typeIs slot_tuple_getitem.lookup
  (getItem_tuple (j:=j) (Q:=λr s'=>r=w/\EP X gV σ Q r s') pl .(0) .(0) (by rw[bD,← hl];exact h1) (by simpa using ew) ⟨rfl,fin⟩) hs
def ix_str:IxR X rIxS:=by
 intro value slice gV s σ H x y v u Q I rx ry h hs;obtain⟨z,i,c,rfl,rfl,hz,he,q⟩:=h;obtain⟨t,rfl⟩:=rx;obtain⟨t',rfl⟩:=ry;obtain⟨j,h1,h2,h3,h4,h5⟩:=Kc he;have hl:z.cps.toList.length=z.length:=by simp[Str.length]
 rw[hl]at h1 h4 h5;have hn:=QC
 exact tail_any (typeIs_str s z t) slot_str_getitem.lookup (getItem_str (c:=c) (by
  have e1:decide (i < -(2 ^ 63:Int))=false:=aG .(0);have e2:decide (i ≥ 2 ^ 63)=false:=aG .(0);rw[e1,e2,Bool.or_false]) (by rw[h1];simpa using h2) ⟨.str ⟨#[c]⟩,H,I.tok _,⟨_,rfl⟩,q⟩) hs
def rIx(K:iC):R2:=λx y H Q=>rIxL K x y H Q\/rIxT K x y H Q\/rIxS x y H Q
def DI:IxR X (rIx X.K):=BM.or (ix_tup.or ix_str)
def Il(iy:iJ)(n j:Nat)(u:qI):Obj.mapSeq (·.setIfInBounds j u) {cls:=.type "list",data:=.seq iy.toArray n}={cls:=.type "list",data:=.seq (iy.set j u).toArray n}:=by
 simp[Obj.mapSeq]
def Inv.lst{gV:iD}{σ:St}{H:Hp}{s:qK}{p:qJ}{xs:iQ}(I:Inv X gV σ H s)(h:H p=some (.lst xs)):∃(iy:iJ) (n:Nat),Vals xs iy/\s.heap.get? p=some {cls:=.type "list",data:=.seq iy.toArray n}/\xs.length<=sizeLine:=by
 obtain⟨z,iy,n,r,e⟩:=I.hok p _ h;exact⟨iy,n,r,e,z⟩
def Inv.lstUpd{gV:iD}{σ:St}{H:Hp}{s:qK}{p:qJ}{xs ys:iQ}{iy its':iJ}{n n':Nat}{f:Obj->Obj}(I:Inv X gV σ H s)(h:H p=some (.lst xs))(ho:s.heap.get? p=some {cls:=.type "list",data:=.seq iy.toArray n}) (hf:f {cls:=.type "list",data:=.seq iy.toArray n}={cls:=.type "list",data:=.seq its'.toArray n'}) (r:Vals ys its') (hz:ys.length<=sizeLine) (t:Nat):Inv X gV σ (upd H p (.lst ys)) {s with heap:=s.heap.update p f,toks:=t}:=by
 have e:(s.heap.update p f).get? p=some {cls:=.type "list",data:=.seq its'.toArray n'}:=by
  rw[cC f ho (by rw[hf] <;> rfl),hf]
 refine I.write (x:=p) (e:=p) (by rw[h];trivial) (.inl rfl) (λb u hb q=>cQ _ _ (cI hb)<|q) ⟨_,e⟩ ?_;exact⟨hz,its',n',r,e⟩
def rSetL:V->V->V->Hp->(Hp->Prop)->Prop:=λo i v H Q=>∃p xs k j,o=.ref p/\i=.int k/\H p=some (.lst xs)/\ixN xs.length k=some j/\Q (upd H p (.lst (xs.set j v)))
def set_list:PSet X rSetL:=by
 intro gV s σ H o i v ov iv u Q I ro ri rv h;obtain⟨p,xs,k,j,rfl,rfl,hp,hj,q⟩:=h;cases ro;obtain⟨t,rfl⟩:=ri;obtain⟨iy,n,r,ho,hz⟩:=I.lst hp;obtain⟨h1,h2,h3,h4⟩:=Hx hj;have hl:=r.length;have hn:=QC
 have I':Inv X gV σ (upd H p (.lst (xs.set j v))) {s with heap:=s.heap.update p (Obj.mapSeq (·.setIfInBounds j u))}:=
  I.lstUpd hp ho (Il iy n j u) (r.set rv j) (by rw[dh];exact hz) s.toks
 by_cases h0:0<=k
 ·have hk:k.toNat=j:=by
   rw[seqIndex_of h0 h4]at h1;exact bM h1
  exact PySem.W.ki_setAt ho h0 .(0) (by rw[bD,← hl];exact h4) (by rw[hk];exact⟨_,I',q⟩)
 ·have hk:(k+(iy.toArray.size:Int)).toNat=j:=by
   rw[seqIndex_neg .(0) h3]at h1;rw[bD,← hl];exact bM h1
  exact PySem.W.ki_setBack ho .(0) (by rw[bD,← hl];exact h3) .(0) (by rw[hk];exact⟨_,I',q⟩)
def Sq:V->Bool
 |.non=>true
 |.bl _=>true
 |.int _=>true
 |.str _=>true
 |_=>false
def eqV:V->V->Bool
 |.non,.non=>true
 |.bl a,.bl b=>a == b
 |.bl a,.int b=>(if a then 1 else 0) == b
 |.int a,.bl b=>a == (if b then 1 else 0)
 |.int a,.int b=>a == b
 |.str a,.str b=>a == b
 |_,_=>false
def eqAt_V{A:qO}{s:qK}{y x:V}{u v:qI}(ry:RelV y u)(rx:RelV x v)(fy:Sq y=true)(fx:Sq x=true):SeqAt.EqAt A s u v (eqV y x):=by
 cases y with
 |non=>
  cases ry;cases x with
  |non=>cases rx;exact SeqAt.EqAt.same _
  |bl b=>cases rx;exact SeqAt.EqAt.none_bool b
  |int b=>obtain⟨t,rfl⟩:=rx;exact SeqAt.EqAt.none_int b t
  |str b=>obtain⟨t,rfl⟩:=rx;exact SeqAt.EqAt.none_str b t
  |_=>exact absurd (show false=true from fx) aF
 |bl a=>
  cases ry;cases x with
  |non=>cases rx;exact SeqAt.EqAt.bool_none a
  |bl b=>cases rx;exact SeqAt.EqAt.bool_bool a b
  |int b=>obtain⟨t,rfl⟩:=rx;exact SeqAt.EqAt.bool_int a b t
  |str b=>obtain⟨t,rfl⟩:=rx;exact SeqAt.EqAt.bool_str a b t
  |_=>exact absurd (show false=true from fx) aF
 |int a=>
  obtain⟨t',rfl⟩:=ry;cases x with
  |non=>cases rx;exact SeqAt.EqAt.int_none a t'
  |bl b=>cases rx;exact SeqAt.EqAt.int_bool a t' b
  |int b=>obtain⟨t,rfl⟩:=rx;exact SeqAt.EqAt.int_int a t' b t
  |str b=>obtain⟨t,rfl⟩:=rx;exact SeqAt.EqAt.int_str a t' b t
  |_=>exact absurd (show false=true from fx) aF
 |str a=>
  obtain⟨t',rfl⟩:=ry;cases x with
  |non=>cases rx;exact SeqAt.EqAt.str_none a t'
  |bl b=>cases rx;exact SeqAt.EqAt.str_bool a t' b
  |int b=>obtain⟨t,rfl⟩:=rx;exact SeqAt.EqAt.str_int a t' b t
  |str b=>obtain⟨t,rfl⟩:=rx;exact SeqAt.EqAt.str_str a t' b t
  |_=>exact absurd (show false=true from fx) aF
 |_=>exact absurd (show false=true from fy) aF
def eqU(x:V)(u:qI):Bool:=match u with
 |.none=>eqV .non x
 |.bool b=>eqV (.bl b) x
 |.int i _=>eqV (.int i) x
 |.str z _=>eqV (.str z) x
 |_=>false
def DU{x y:V}{u:qI}(r:RelV y u)(f:Sq y=true):eqU x u=eqV y x:=by
 cases y with
 |non=>cases r;rfl
 |bl b=>cases r;rfl
 |int i=>obtain⟨t,rfl⟩:=r;rfl
 |str z=>obtain⟨t,rfl⟩:=r;rfl
 |_=>exact absurd (show false=true from f) aF
def Rp{x:V}:∀{xs:iQ} {us:iJ},Vals xs us->xs.all Sq=true->us.any (eqU x)=xs.any λy=>eqV y x
 |_,_,.nil,_=>rfl
 |y::xs,u::us,.cons r t,f=>by
  rw[eW,bW]at f;rw[dq,dq,DU r f.1,Rp t f.2]
def Th{A:qO}{s:qK}{x:V}{v:qI}(rx:RelV x v)(fx:Sq x=true):∀{xs:iQ} {us:iJ},Vals xs us->xs.all Sq=true->∀u∈us,SeqAt.EqAt A s u v (eqU x u)
 |_,_,.nil,_=>λu hu=>by cases hu
 |y::xs,u::us,.cons r t,f=>λu' hu=>by
  rw[eW,bW]at f;rcases aN.mp hu with rfl|hu
  ·rw[DU r f.1];exact eqAt_V r rx f.1 fx
  ·exact Th rx fx t f.2 u' hu
def inV(x:V)(xs:iQ):Bool:=xs.any λy=>eqV y x
def rIn(K:iC)(neg:Bool):R2:=λx y H Q=>∃p xs,y=.ref p/\(SqL K H p xs\/SqT K H p xs)/\Sq x=true/\xs.all Sq=true/\Q (.bl (if neg then !inV x xs else inV x xs)) H
def G9:OpR X (compareOp .In) (rIn X.K false):=by
 intro gV s σ H x y v u Q I rx ry h;obtain⟨p,xs,rfl,hq,fx,fs,q⟩:=h;cases ry;rcases hq with hq|hq
 ·obtain⟨iy,r,pl,hz⟩:=I.list hq
  refine SeqAt.in_listAt (eqU x) pl.isList (λw hw=>Th rx fx r fs w (by simpa using hw)) ⟨.bl _,H,I,rfl,?_⟩;rw[show iy.toArray.any (eqU x)=iy.any (eqU x) by simp,Rp r fs];exact q
 ·obtain⟨iy,r,pl,hz⟩:=I.tuple hq
  refine SeqAt.in_tupleAt (eqU x) pl (λw hw=>Th rx fx r fs w (by simpa using hw)) ⟨.bl _,H,I,rfl,?_⟩;rw[show iy.toArray.any (eqU x)=iy.any (eqU x) by simp,Rp r fs];exact q
def Rj:OpR X (compareOp .NotIn) (rIn X.K true):=by
 intro gV s σ H x y v u Q I rx ry h;obtain⟨p,xs,rfl,hq,fx,fs,q⟩:=h;cases ry;rcases hq with hq|hq
 ·obtain⟨iy,r,pl,hz⟩:=I.list hq
  refine SeqAt.notIn_listAt (eqU x) pl.isList (λw hw=>Th rx fx r fs w (by simpa using hw)) ⟨.bl _,H,I,rfl,?_⟩;rw[show iy.toArray.any (eqU x)=iy.any (eqU x) by simp,Rp r fs];exact q
 ·obtain⟨iy,r,pl,hz⟩:=I.tuple hq
  refine SeqAt.notIn_tupleAt (eqU x) pl (λw hw=>Th rx fx r fs w (by simpa using hw)) ⟨.bl _,H,I,rfl,?_⟩;rw[show iy.toArray.any (eqU x)=iy.any (eqU x) by simp,Rp r fs];exact q
def LC:CallR X (.builtin "len") (λxs H Q=>∃p ys,xs=[.ref p]/\(SqL X.K H p ys\/SqT X.K H p ys)/\Q (.int ys.length) H):=by
 intro gV s σ H xs us Q I r h;obtain⟨p,ys,rfl,hq,q⟩:=h;obtain⟨u,rfl,rx⟩:=So r;cases rx;have hn:=QC;rcases hq with hq|hq
 ·obtain⟨iy,r',pl,hz⟩:=I.list hq
  have iZ:=r'.length;exact Calls.call_len_list pl.isList .(9) ⟨.int ys.length,H,I.tok _,⟨s.toks+1,by rw[bD,iZ]⟩,q⟩
 ·obtain⟨iy,r',pl,hz⟩:=I.tuple hq
  have iZ:=r'.length;exact len_tuple pl .(9) ⟨.int ys.length,H,I.tok _,⟨s.toks+1,by rw[bD,iZ]⟩,q⟩
def CallR.or{f:qI}{r r':iQ->Hp->VK->Prop}(h:CallR X f r)(h':CallR X f r'):CallR X f (λxs H Q=>r xs H Q\/r' xs H Q):=by
 intro gV s σ H xs us Q I rs q;rcases q with q|q
 ·exact h gV s σ H xs us Q I rs q
 ·exact h' gV s σ H xs us Q I rs q
def MH:CallR X (.type "list") (λxs H Q=>∃p ys,xs=[.ref p]/\(SqL X.K H p ys\/SqT X.K H p ys)/\∀l,H l=none->Q (.ref l) (upd H l (.lst ys))):=by
 intro gV s σ H xs us Q I r h;obtain⟨p,ys,rfl,hq,q⟩:=h;obtain⟨u,rfl,rx⟩:=So r;cases rx
 have fin : ∀ (iy : iJ),Vals ys iy -> ys.length <= sizeLine -> ∀ (h' : qQ) (c' : Nat),(∀ b o',s.heap.get? b = some o' -> h'.get? b = some o') ->
     h'.get? s.heap.objs.size=some {cls:=.type "list",dict:=none,data:=.seq iy.toArray c',slots:=#[]}->EP X gV σ Q (.ref s.heap.objs.size) {s with heap:=h'}:=λiy r' hz h' c' kp e=>
  ⟨.ref s.heap.objs.size,_,I.laid (t':=s.toks) kp (aM _) (show ObjOk X.prog X.w _ h' _ (.lst ys) from⟨hz,iy,c',r',e⟩),rfl,q _ (I.hok.fresh (aM _))⟩
 rcases hq with hq|hq
 ·obtain⟨iy,r',pl,hz⟩:=I.list hq
  have iZ:=r'.length;obtain⟨o,ho,hc,n,hd⟩:=pl.isList;exact call_list_seq p (.inl rfl) ho hc hd (λh' c' kp e=>fin iy r' hz h' c' kp e) .(9)
 ·obtain⟨iy,r',pl,hz⟩:=I.tuple hq
  have iZ:=r'.length;obtain⟨o,ho,hc,n,hd⟩:=pl;exact call_list_seq p (.inr rfl) ho hc hd (λh' c' kp e=>fin iy r' hz h' c' kp e) .(9)
def tyV(K:iC)(T:String)(x:V)(H:Hp):Prop:=match x with
 |.str _=>T="str"
 |.int _=>T="int"
 | .ref p => (T = "list" /\ ∃ xs,SqL K H p xs) \/ (T = "tuple" /\ ∃ o,K.lookup p = some o /\ o.cls = .type "tuple" /\ o.dict = none) \/
     (T="dict"/\((∃kvs,H p=some (.dK kvs))\/∃kvs,H p=some (.dT kvs)))\/(T="set"/\∃S n,H p=some (.set S n))
 |_=>False
def Db{gV:iD}{σ:St}{H:Hp}{s:qK}{T:String}{x:V}{v:qI}(I:Inv X gV σ H s)(r:RelV x v)(ty:tyV X.K T x H):s.TypeIs v T/\∀a,v=.ref a->∃ob,s.heap.get? a=some ob/\ob.dict=none:=by
 cases x with
 |str z=>
  obtain⟨t,rfl⟩:=r;cases (show T="str" from ty);exact⟨typeIs_str s z t,λ_ e=>nomatch e⟩
 |int i=>
  obtain⟨t,rfl⟩:=r;cases (show T="int" from ty);exact⟨typeIs_int s i t,λ_ e=>nomatch e⟩
 |ref p=>
  cases r;rcases ty with ⟨rfl,xs,hq⟩|⟨rfl,o,hk,hc,hd⟩|⟨rfl,hk⟩|⟨rfl,S,n,hk⟩
  ·obtain⟨iy,_,pl,_⟩:=I.list hq
   refine⟨pl.isList.typeIs,λa e=>?_⟩;cases e;obtain⟨o,n,e,c,hd,_⟩:=pl;exact⟨o,e,hd⟩
  ·refine⟨⟨o,I.kIn p o hk,hc⟩,λa e=>?_⟩
   cases e;exact⟨o,I.kIn _ o hk,hd⟩
  ·have z:∃o,s.heap.get? p=some o/\o.ExactDict:=by
    rcases hk with ⟨kvs,hk⟩|⟨kvs,hk⟩
    ·obtain⟨_,_,_,_,o,_,_,e,ex,_⟩:=I.hok p _ hk
     exact⟨o,e,ex⟩
    ·obtain⟨_,_,_,_,o,_,_,e,ex,_⟩:=I.hok p _ hk
     exact⟨o,e,ex⟩
   obtain⟨o,e,ex⟩:=z;refine⟨⟨o,e,ex.1⟩,λa e2=>?_⟩;cases e2;exact⟨o,e,ex.2.1⟩
  ·obtain⟨o,_,_,_,e,ex,_⟩:=I.hok p _ hk
   refine⟨⟨o,e,ex.1⟩,λa e2=>?_⟩;cases e2;exact⟨o,e,ex.2.1⟩
 |_=>exact False.elim ty
def tBM0(K:iC)(T:String)(r:V->List V->Hp->VK->Prop)(to:TE):TE:=λσ H Q=>to σ H λx H1=>tyV K T x H1/\r x [] H1 Q
def tBM(K:iC)(T:String)(r:V->List V->Hp->VK->Prop)(to:TE)(t:TA):TE:=λσ H Q=>to σ H λx H1=>tyV K T x H1/\t σ H1 λxs H2=>r x xs H2 Q
variable{o e:qS}{es:iN}{to:TE}{t:TA}{name:Str}{iY i0:Pos}{T id:String}{r:V->List V->Hp->VK->Prop}
def pe_bm0(pa:PlainAttrs T)(slot:Slot T name id)(m7:typeOf (.builtin id)=pure (.type "method_descriptor"))(hm:MtR X id r)(ho:PE X o to)(jp:attributeBase o name X.env (eval o X.env)=eval o X.env:=by rfl) (jq:(iY.endLine == i0.line)=true:=by rfl):PE X (.Call (.Attribute o name iY) [] [] i0) (tBM0 X.K T r to):=by
 intro gV s σ H Q I h;refine wpAny_Call_method0_late jp jq (thn (ho gV s σ H _ I h) λv s1 ⟨x,H1,I1,r1,ty,q1⟩=>?_);obtain⟨h1,h2⟩:=Db I1 r1 ty;exact⟨T,id,pa,slot,m7,h1,h2,ff rfl (PySem.evalArgs_none (hm gV s1 σ H1 x [] v [] Q I1 r1 .nil q1))⟩
def CH(pa:PlainAttrs T)(slot:Slot T name id)(m7:typeOf (.builtin id)=pure (.type "method_descriptor"))(hm:MtR X id r)(ho:PE X o to)(ha:PA X (e::es) t)(jp:attributeBase o name X.env (eval o X.env)=eval o X.env:=by rfl)(jC:((backTo i0 (starEach (e::es) X.env)).all (λx=>!x.1)&&(backToKw i0 (keywordEach [] X.env)).all (λx=>x.1.isSome)
     && decide ((e::es).length+([]:List Keyword).length+(if ([]:List Keyword).isEmpty then 0 else 1)<30))=true:=by rfl)
    (jq:(iY.endLine == i0.line)=true:=by rfl) (hs:rA e es X:=by rfl) (jA:(backTo i0 (starEach es X.env)).any (·.1)=false:=by rfl):
    PE X (.Call (.Attribute o name iY) (e::es) [] i0) (tBM X.K T r to t):=by
 intro gV s σ H Q I h;refine wpAny_Call_method_late jp jC jq rfl (thn (ho gV s σ H _ I h) λv s1 ⟨x,H1,I1,r1,ty,q1⟩=>?_);obtain⟨h1,h2⟩:=Db I1 r1 ty;refine⟨T,id,pa,slot,m7,h1,h2,?_⟩;have hA:=ha i0 gV s1 σ H1 _ I1 q1;rw[hs]at hA ⊢;refine ff (by show(false || (backTo i0 (starEach es X.env)).any (·.1))=false;rw[jA] <;> rfl) (fG ?_);exact thn hA λus s2 ⟨vs,H2,I2,r2,q2⟩=>hm gV s2 σ H2 x vs v us Q I2 r1 r2 q2
end
def MtM(X:Cx)(id:String)(r:V->List V->Hp->VK->Prop):Prop:=
 ∀(gV:iD) (s:qK) (σ:St) (H:Hp) (x:V) (xs:iQ) (v:qI) (us:iJ) (Q:VK),Inv X gV σ H s->RelV x v->Vals xs us->r x xs H Q ->
  wpAny (model X.prog X.w) X.A (call (.builtin id) (v::us)) (EP X gV σ Q) X.xe s
def Vals.one:∀{x:V} {us:iJ},Vals [x] us->∃u,us=[u]/\RelV x u
 |_,_,.cons r .nil=>⟨_,rfl,r⟩
def Vals.rep{xs:iQ}{us:iJ}(h:Vals xs us):∀k:Nat,Vals (List.replicate k xs).flatten (List.replicate k us).flatten
 |0=>.nil
 |k+1=>by
  rw[cO,cO,dH,dH];exact Vals.append h (Vals.rep h k)
def Mi(iy:iJ):∀(k:Nat) (i7:iJ), List.foldl (λx1 x2=>x1++x2) i7.toArray (List.replicate k iy.toArray)=(i7++(List.replicate k iy).flatten).toArray
 |0,i7=>by simp
 |k+1,i7=>by
  have e:i7.toArray++iy.toArray=(i7++iy).toArray:=by simp
  have e2:(i7++iy)++(List.replicate k iy).flatten=i7++(List.replicate (k+1) iy).flatten:=by
   rw[cO,dH,bT]
  rw[← e2,← Mi iy k (i7++iy),← e,cO,ig]
section
variable{X:Cx}{gV:iD}{σ:St}{H:Hp}{s:qK}{l b:qJ}{xs ys zs:iQ}
def Inv.lset{iy its':iJ}{n:Nat}{f:Array qI->Array qI}{t':Nat}(I:Inv X gV σ H s)(hH:H l=some (.lst xs))(e:s.heap.get? l=some {cls:=.type "list",data:=.seq iy.toArray n}) (hf:f iy.toArray=its'.toArray) (hv:Vals ys its') (hz:ys.length<=sizeLine):Inv X gV σ (upd H l (.lst ys)) {s with heap:=s.heap.update l (Obj.mapSeq f),toks:=t'}:=by
 have q:=PySem.IsL.update e f;rw[hf]at q;refine I.write (x:=l) (e:=l) (by rw[hH];exact trivial) (.inl rfl) (λb' u hb hu=>cQ s.heap (Obj.mapSeq f) (cI hb)<|hu) ⟨_,q⟩ ?_;exact⟨hz,its',_,hv,q⟩
def Inv.lnew{iy:iJ}{t':Nat}(I:Inv X gV σ H s)(hv:Vals ys iy)(hz:ys.length<=sizeLine):Inv X gV σ (upd H s.heap.objs.size (.lst ys)) {s with heap:=s.heap.push {cls:=.type "list",data:=.seq iy.toArray},toks:=t'}:=
 I.laid (λ_ _ q=>aL _ q) (aM _) ⟨hz,iy,0,hv,aW _ rfl⟩
def Inv.fresh(I:Inv X gV σ H s):H s.heap.objs.size=none:=I.hok.fresh (aM _)
def Inv.lstM(I:Inv X gV σ H s)(hH:H l=some (.lst xs)):xs.length<=sizeLine/\∃(iy:iJ) (n:Nat),Vals xs iy/\xs.length=iy.length/\s.heap.get? l=some {cls:=.type "list",data:=.seq iy.toArray n}:=by
 obtain⟨z,iy,n,r,e⟩:=I.hok l _ hH;exact⟨z,iy,n,r,r.length,e⟩
def Jd{n:Nat}(h:n<=sizeLine):Builtin.List.listTooLong n=false:=by
 unfold Builtin.List.listTooLong;exact aG .(0)
end
section
variable{X:Cx}
def GJ:V->List V->Hp->VK->Prop:=λx vs H Q=>∃l xs y,x=.ref l/\vs=[y]/\H l=some (.lst xs)/\xs.length<sizeLine/\Q .non (upd H l (.lst (xs++[y])))
def Er:MtM X "list.append" GJ:=by
 intro gV s σ H x vs v us Q I rx rv h;obtain⟨l,xs,y,rfl,rfl,hH,hz,q⟩:=h;cases rx;obtain⟨u,rfl,ru⟩:=rv.one;obtain⟨z,iy,n,r,hl,e⟩:=I.lstM hH;refine call_meets F.slot_list_append ⟨_,e,rfl⟩ F.entry_list_append (F.args_list_append_2 _ _) (PySem.list_append l iy.toArray n u (by rw[bD];omega)) ⟨e,?_⟩;refine⟨.non,_,I.lset (its':=iy++[u]) hH e .(2) (r.append (.cons ru .nil)) ?_,rfl,q⟩;rw[aV,gv];omega
def rRep:R2:=λx y H Q=>∃l k xs,x=.ref l/\y=.int k/\H l=some (.lst xs)/\-(2 ^ 63)<=k/\k<2 ^ 63/\xs.length * k.toNat<=sizeLine /\
 ∀p,H p=none->Q (.ref p) (upd H p (.lst (List.replicate k.toNat xs).flatten))
def An{α:Type}(xs:List α)(k:Nat):(List.replicate k xs).flatten.length=k * xs.length:=by
 induction k with
 |zero=>simp
 |succ k ih=>rw[cO,dH,aV,ih,Nat.succ_mul,Nat.add_comm]
def op_rep:OpR X (binaryOp .Mult) rRep:=by
 intro gV s σ H x y v u Q I rx ry h;obtain⟨l,k,xs,rfl,rfl,hH,h1,h2,hz,q⟩:=h;cases rx;obtain⟨t,rfl⟩:=ry;obtain⟨z,iy,n,r,hl,e⟩:=I.lstM hH;have iZ:iy.toArray.size * k.toNat<=sizeLine:=by rw[bD,← hl];exact hz
 have hcap:¬ iy.toArray.size * k.toNat > (2 ^ 63-1) / 8:=by
  have:(sizeLine:Nat)<=(2 ^ 63-1) / 8:=by decide
  omega
 have hfit:¬ (!Builtin.List.listFitsIndex k)=true:=by
  rw[fitsIndex_both h1 h2];exact aF
 have hlong:¬ Builtin.List.listTooLong (iy.toArray.size * k.toNat)=true:=by
  rw[Jd iZ];exact aF
 have hnew:List.foldl (λx1 x2=>x1++x2) #[] (List.replicate (if iy.toArray.isEmpty=true then 0 else k.toNat) iy.toArray)=(List.replicate k.toNat iy).flatten.toArray:=by
  have f0:∀m:Nat,List.foldl (λx1 x2=>x1++x2) #[] (List.replicate m iy.toArray)=(List.replicate m iy).flatten.toArray:=λm=>by
   have:=Mi iy m [];rw[gn]at this;exact this
  rw[f0];cases iy with
  |nil=>simp
  |cons a r'=>rw[aD .(2)]
 refine wpAny_binaryOp_repeat_ref (T:="list") (U:="int") .(1) ⟨_,e,rfl⟩ (λs'=>typeIs_int s' k t) noFill_list_mul F.fills_int_mul F.slot_int_rmul repeat_list F.slot_int_index.lookup
  (call_meets F.slot_int_rmul (typeIs_int s k t) F.entry_int_rmul (F.args_int_rmul_2 _ _) (int___rmul___int_list k t l iy.toArray n)
   ⟨e,rfl,⟨_,e,rfl⟩,call_meets F.slot_list_mul ⟨_,e,rfl⟩ F.entry_list_mul (F.args_list_mul_2 _ _) (AutoListH.list___mul___list_int_3 l iy.toArray n k t hfit hcap hlong) ⟨e,?_⟩⟩)
 rw[hnew];exact⟨.ref _,_,I.lnew (t':=s.toks) (r.rep k.toNat) (by rw[An,Nat.mul_comm];exact hz),rfl,q _ I.fresh⟩
end
section
variable{κ:Type}[DecidableEq κ]
def RA(kvs:List (κ × V))(k:κ):Option V:=(kvs.find? λkv=>decide (kv.1=k)).map (·.2)
def Rc(kvs:List (κ × V))(k:κ)(v:V):List (κ × V):=
 if (kvs.any λkv=>decide (kv.1=k))=true then kvs.map (λkv=>if kv.1=k then (kv.1,v) else kv) else kvs++[(k,v)]
def OA{p:κ × V}{r:List (κ × V)}{k:κ}(e:p.1=k):RA (p::r) k=some p.2:=by simp[RA,cH,e]
def Of{p:κ × V}{r:List (κ × V)}{k:κ}(e:¬ p.1=k):RA (p::r) k=RA r k:=by simp[RA,cH,e]
def Kp(k:κ):∀kvs:List (κ × V),(kvs.any λkv=>decide (kv.1=k))=(RA kvs k).isSome
 |[]=>rfl
 |p::r=>by
  rw[dq];by_cases e:p.1=k
  ·simp only[OA e,bG e,Bool.true_or,gM]
  ·rw[Of e,aG e,fQ];exact Kp k r
def QY(kvs:List (κ × V))(k:κ)(v:V):(Rc kvs k v).length<=kvs.length+1:=by
 unfold Rc;split
 ·rw[aB];omega
 ·rw[aV,bI,cM];omega
def RelO.isSome_eq{o:Option V}{u:iP}(r:RelO o u):o.isSome=u.isSome:=by
 cases o with
 |none=>cases u with
  |none=>rfl
  |some _=>exact(show False from r).elim
 |some _=>cases u with
  |none=>exact(show False from r).elim
  |some _=>rfl
def RelO.getD{o:Option V}{u:iP}{d:V}{d':qI}(r:RelO o u)(rd:RelV d d'):RelV (o.getD d) (u.getD d'):=by
 cases o with
 |none=>cases u with
  |none=>exact rd
  |some _=>exact(show False from r).elim
 |some _=>cases u with
  |none=>exact(show False from r).elim
  |some _=>exact r
def KV.val{kvs:List (κ × V)}{vs:List (κ × qI)}(r:KV kvs vs)(k:κ):RelO (RA kvs k) (valueAt vs k):=by
 unfold KV at r
 induction r with
 |nil=>exact True.intro
 |@cons p q ps qs h t ih=>
  obtain⟨h1,h2⟩:=h;by_cases e:p.1=k
  ·have e':q.1=k:=h1.symm<|e
   have b:valueAt (q::qs) k=some q.2:=by simp[valueAt,cH,e']
   rw[OA e,b];exact h2
  ·have e':¬ q.1=k:=λz=>e (h1<|z)
   have b:valueAt (q::qs) k=valueAt qs k:=by simp[valueAt,cH,e']
   rw[Of e,b];exact ih
def KV.any{kvs:List (κ × V)}{vs:List (κ × qI)}(r:KV kvs vs)(k:κ):(kvs.any λkv=>decide (kv.1=k))=vs.any λkv=>decide (kv.1=k):=by
 unfold KV at r
 induction r with
 |nil=>rfl
 |cons h t ih=>rw[dq,dq,ih,h.1]
def KV.repl{kvs:List (κ × V)}{vs:List (κ × qI)}(r:KV kvs vs)(k:κ){y:V}{u:qI}(ry:RelV y u):KV (kvs.map λkv=>if kv.1=k then (kv.1,y) else kv) (vs.map λkv=>if kv.1=k then (kv.1,u) else kv):=by
 unfold KV at r ⊢
 induction r with
 |nil=>exact .nil
 |@cons p q ps qs h t ih=>
  rw[aS,aS];refine .cons ?_ ih;obtain⟨h1,h2⟩:=h;by_cases e:p.1=k
  ·rw[aC e,aC (h1.symm<|e)];exact⟨h1,ry⟩
  ·rw[aD e,aD (λz=>e (h1<|z))];exact⟨h1,h2⟩
def KV.put{kvs:List (κ × V)}{vs:List (κ × qI)}(r:KV kvs vs)(k:κ){y:V}{u:qI}(ry:RelV y u):KV (Rc kvs k y) (stored vs k u):=by
 unfold Rc stored;rw[r.any k];by_cases e:(vs.any λkv=>decide (kv.1=k))=true
 ·rw[aC e,aC e];exact r.repl k ry
 ·rw[aD e,aD e];exact Paired.snoc r ⟨rfl,ry⟩
def KV.length{kvs:List (κ × V)}{vs:List (κ × qI)}(r:KV kvs vs):kvs.length=vs.length:=ia r
end
def OR{P:qM}{w:qN}{k:Key}{u:qI}(r:RelV (kV k) u):(ZZ P w).is k u=true:=by
 cases k with
 |inl i=>obtain⟨t,e⟩:=(show ∃t,u=Value.int i t from r);subst e;exact KI P w i t
 |inr x=>obtain⟨t,e⟩:=(show ∃t,u=Value.str x t from r);subst e;exact Kz P w x t
def Mb{P:qM}{w:qN}:∀{ks:List Key} {us:iJ},Vals (ks.map kV) us->ItemsAre (ZZ P w) ks us
 |[],_,r=>by rw[gW]at r;cases r;exact .nil
 |k::ks,_,r=>by
  rw[aS]at r;cases r with
  |cons h t=>exact .cons (OR h) (Mb t)
abbrev KT(H:Hp):List (List Key × V)->List (List Key × qJ × qI)->Prop:=Paired λp q=>p.1=q.1/\H q.2.1=some (.tup (p.1.map kV))/\RelV p.2 q.2.2
def KT.val{H:Hp}{kvs:List (List Key × V)}{xs:List (List Key × qJ × qI)}(r:KT H kvs xs)(k:List Key):RelO (RA kvs k) ((atKey xs k).map (·.2)):=by
 induction r with
 |nil=>exact True.intro
 |@cons p q ps qs h t ih=>
  obtain⟨h1,_,h2⟩:=h;by_cases e:p.1=k
  ·have e':q.1=k:=h1.symm<|e
   have b:atKey (q::qs) k=some q.2:=by simp[atKey,cH,e']
   rw[OA e,b];exact h2
  ·have e':¬ q.1=k:=λz=>e (h1<|z)
   have b:atKey (q::qs) k=atKey qs k:=by simp[atKey,cH,e']
   rw[Of e,b];exact ih
def KT.repl{H:Hp}{kvs:List (List Key × V)}{xs:List (List Key × qJ × qI)}(r:KT H kvs xs)(k:List Key){y:V}{u:qI}(ry:RelV y u):KT H (kvs.map λkv=>if kv.1=k then (kv.1,y) else kv) (xs.map (putAt k u)):=by
 induction r with
 |nil=>exact .nil
 |@cons p q ps qs h t ih=>
  rw[aS,aS];refine .cons ?_ ih;obtain⟨h1,h2,h3⟩:=h;unfold putAt;by_cases e:p.1=k
  ·rw[aC e,aC (h1.symm<|e)];exact⟨h1,h2,ry⟩
  ·rw[aD e,aD (λz=>e (h1<|z))];exact⟨h1,h2,h3⟩
def KT.put{H:Hp}{kvs:List (List Key × V)}{xs:List (List Key × qJ × qI)}(r:KT H kvs xs)(k:List Key){b:qJ}{y:V}{u:qI}(hb:H b=some (.tup (k.map kV)))(ry:RelV y u):KT H (Rc kvs k y) (storedH xs k b u):=by
 have e:(kvs.any λkv=>decide (kv.1=k))=(atKey xs k).isSome:=by
  rw[Kp,(r.val k).isSome_eq,gY]
 unfold Rc storedH;rw[e];by_cases q:(atKey xs k).isSome=true
 ·rw[aC q,aC q];exact r.repl k ry
 ·rw[aD q,aD q];exact Paired.snoc r ⟨rfl,hb,ry⟩
def KT.keeps{H H':Hp}{kvs:List (List Key × V)}{xs:List (List Key × qJ × qI)}(r:KT H kvs xs)(ht:∀b ys,H b=some (.tup ys)->H' b=some (.tup ys)):KT H' kvs xs:=
 Paired.mapP r λ_ _ z=>⟨z.1,ht _ _ z.2.1,z.2.2⟩
section
variable{P:qM}{w:qN}{H:Hp}{h:qQ}{a:qJ}
def rd_of{u:HO}(ok:HOk P w H h)(e:Rd H a u):ObjOk P w H h a u:=e.ok ok
def Ry{kvs:List (Key × V)}(ok:HOk P w H h)(e:Rd H a (.dK kvs)):kvs.length<=sizeLine/\(a == sysModules)=false/\∃vs,KV kvs vs/\h.DictOf (ZZ P w) a vs:=
 show ObjOk P w H h a (.dK kvs) from rd_of ok e
def dk_of{kvs:List (Key × V)}(ok:HOk P w H h)(e:H a=some (.dK kvs)):kvs.length<=sizeLine/\(a == sysModules)=false/\∃vs,KV kvs vs/\h.DictOf (ZZ P w) a vs:=Ry ok (.inl e)
def SX{ks:List Key}(ok:HOk P w H h)(e:H a=some (.tup (ks.map kV))):(tupleKind (ZZ P w)).is h ks a:=by
 obtain⟨_,iy,r,o,h1,h2,n,h3⟩:=(show ObjOk P w H h a (.tup (ks.map kV)) from ok a _ e);exact⟨o,iy.toArray,n,h1,h2,h3,by simpa using Mb r⟩
def QQ{kvs:List (List Key × V)}(ok:HOk P w H h)(e:Rd H a (.dT kvs)):kvs.length<=sizeLine/\(a == sysModules)=false /\ ∃xs,KT H kvs xs/\h.DictOfH (tupleKind (ZZ P w)) a xs:=by
 obtain⟨z,y,xs,r,o,es,ep,h1,h2,h3,h4,h5⟩:=(show ObjOk P w H h a (.dT kvs) from rd_of ok e);refine⟨z,y,xs,r,o,es,ep,h1,h2,h3,h4,λx hx=>?_,h5⟩
 have all:∀{l:List (List Key × V)} {m:List (List Key × qJ × qI)},KT H l m->∀x∈m,(tupleKind (ZZ P w)).is h x.1 x.2.1:=by
  intro l m q
  induction q with
  |nil=>intro x hx;exact nomatch hx
  |@cons p q ps qs hq t ih=>
   intro x hx;rcases aN.mp hx with e|hx
   ·subst e
    exact SX ok (by rw[← hq.1];exact hq.2.1)
   ·exact ih x hx
 exact all r x hx
def dt_of{kvs:List (List Key × V)}(ok:HOk P w H h)(e:H a=some (.dT kvs)):kvs.length<=sizeLine/\(a == sysModules)=false /\ ∃xs,KT H kvs xs/\h.DictOfH (tupleKind (ZZ P w)) a xs:=QQ ok (.inl e)
end
def DGet(H:Hp)(a:qJ)(y:V)(r:Option V):Prop:=
 (∃kvs k,Rd H a (.dK kvs)/\y=kV k/\r=RA kvs k)\/∃kvs k b,Rd H a (.dT kvs)/\y=.ref b/\H b=some (.tup (k.map kV))/\r=RA kvs k
def DPut(H:Hp)(a:qJ)(y v:V)(H':Hp):Prop:=
 (∃kvs k,H a=some (.dK kvs)/\y=kV k/\kvs.length<sizeLine/\H'=upd H a (.dK (Rc kvs k v))) \/
 ∃kvs k b,H a=some (.dT kvs)/\y=.ref b/\H b=some (.tup (k.map kV))/\kvs.length<sizeLine/\H'=upd H a (.dT (Rc kvs k v))
def DGet.k{H:Hp}{a:qJ}{kvs:List (Key × V)}{k:Key}(e:H a=some (.dK kvs)):DGet H a (kV k) (RA kvs k):=.inl ⟨kvs,k,.inl e,rfl,rfl⟩
def DGet.t{H:Hp}{a b:qJ}{kvs:List (List Key × V)}{k:List Key}(e:H a=some (.dT kvs))(eb:H b=some (.tup (k.map kV))):DGet H a (.ref b) (RA kvs k):=.inr ⟨kvs,k,b,.inl e,rfl,eb,rfl⟩
def DPut.k{H:Hp}{a:qJ}{kvs:List (Key × V)}{k:Key}{v:V}(e:H a=some (.dK kvs))(hl:kvs.length<sizeLine):DPut H a (kV k) v (upd H a (.dK (Rc kvs k v))):=.inl ⟨kvs,k,e,rfl,hl,rfl⟩
def DPut.t{H:Hp}{a b:qJ}{kvs:List (List Key × V)}{k:List Key}{v:V}(e:H a=some (.dT kvs))(eb:H b=some (.tup (k.map kV)))(hl:kvs.length<sizeLine):DPut H a (.ref b) v (upd H a (.dT (Rc kvs k v))):=.inr ⟨kvs,k,b,e,rfl,eb,hl,rfl⟩
section
variable{X:Cx}{gV:iD}{σ:St}{H:Hp}{s:qK}{a:qJ}{y v:V}{u r:qI}{o:Option V}{A:qO}{E:iA}
def Inv.big(I:Inv X gV σ H s):sysModules<s.heap.objs.size:=by
 have h:mainGlobals<s.heap.objs.size:=(I.mod.glob.keeps I.bk).lt;exact Nat.lt_trans .(1) h
def FX{Q:iA}(hu:A.units+1<cLine)(I:Inv X gV σ H s)(g:DGet H a y (some v))(ry:RelV y u)(h:∀w' s',Inv X gV σ H s'->RelV v w'->Q w' s'):wpAny (model X.prog X.w) A (getItem (.ref a) u) Q E s:=by
 rcases g with ⟨kvs,k,e,ey,l⟩|⟨kvs,k,b,e,ey,eb,l⟩
 ·subst ey
  obtain⟨z,hd,vs,rel,dd⟩:=Ry I.hok e;obtain⟨w',hw,rw'⟩:=RelO.some_of (v:=v) (o:=valueAt vs k) (by rw[l];exact rel.val k);exact wpAny_getItem_of (OR ry) dd.mapOf hw (h w' _ (I.tok _) rw')
 ·subst ey
  cases (show u=Value.ref b from ry);obtain⟨z,hd,xs,rel,dd⟩:=QQ I.hok e;obtain⟨w',hw,rw'⟩:=RelO.some_of (v:=v) (o:=(atKey xs k).map (·.2)) (by rw[l];exact rel.val k);obtain⟨p,hp,kJ⟩:=cW.mp hw;refine wpAny_getItem_heap (dZ hu) (SX I.hok eb) dd hp ?_;rw[kJ];exact h w' _ (I.tok _) rw'
def d_in{Q:iA}(hu:A.units+1<cLine)(I:Inv X gV σ H s)(g:DGet H a y o)(ry:RelV y u)(h:∀s',Inv X gV σ H s'->Q (.bool o.isSome) s'):wpAny (model X.prog X.w) A (compareOp .In u (.ref a)) Q E s:=by
 rcases g with ⟨kvs,k,e,ey,l⟩|⟨kvs,k,b,e,ey,eb,l⟩
 ·subst ey
  obtain⟨z,hd,vs,rel,dd⟩:=Ry I.hok e;refine wpAny_in_of (OR ry) hd dd.mapOf ?_;rw[← (rel.val k).isSome_eq,← l];exact h _ (I.tok _)
 ·subst ey
  cases (show u=Value.ref b from ry);obtain⟨z,hd,xs,rel,dd⟩:=QQ I.hok e;refine wpAny_in_heap (dZ hu) (SX I.hok eb) hd dd ?_;have q:=(rel.val k).isSome_eq;rw[gY]at q;rw[← q,← l];exact h _ (I.tok _)
def d_notIn{Q:iA}(hu:A.units+1<cLine)(I:Inv X gV σ H s)(g:DGet H a y o)(ry:RelV y u)(h:∀s',Inv X gV σ H s'->Q (.bool (!o.isSome)) s'):wpAny (model X.prog X.w) A (compareOp .NotIn u (.ref a)) Q E s:=by
 rcases g with ⟨kvs,k,e,ey,l⟩|⟨kvs,k,b,e,ey,eb,l⟩
 ·subst ey
  obtain⟨z,hd,vs,rel,dd⟩:=Ry I.hok e;refine wpAny_notIn_of (OR ry) hd dd.mapOf ?_;rw[← (rel.val k).isSome_eq,← l];exact h _ (I.tok _)
 ·subst ey
  cases (show u=Value.ref b from ry);obtain⟨z,hd,xs,rel,dd⟩:=QQ I.hok e;refine wpAny_notIn_heap (dZ hu) (SX I.hok eb) hd dd ?_;have q:=(rel.val k).isSome_eq;rw[gY]at q;rw[← q,← l];exact h _ (I.tok _)
def Hy{h':qQ}{t':Nat}{ob:HO}(I:Inv X gV σ H s)(mu:Mut (H a))(hs:Heap.SameBut a s.heap h')(he:∃q,h'.get? a=some q)(new:ObjOk X.prog X.w (upd H a ob) h' a ob):Inv X gV σ (upd H a ob) {s with heap:=h',toks:=t'}:=
 I.write (x:=a) (e:=a) mu (.inl rfl) (λb q hb z=>hs.2 b hb<|z) he new
def dk_new{P:qM}{w:qN}{H':Hp}{h':qQ}{kvs:List (Key × V)}{vs:List (Key × qI)}(z:kvs.length<=sizeLine)(hd:(a == sysModules)=false)(rel:KV kvs vs)(dd:h'.DictOf (ZZ P w) a vs):ObjOk P w H' h' a (.dK kvs):=⟨z,hd,vs,rel,dd⟩
def Fy{H':Hp}{Q:Unit->Shared->Prop}(hu:A.units+1<cLine)(I:Inv X gV σ H s)(g:DPut H a y v H')(ry:RelV y u)(rv:RelV v r)(h:∀s',Inv X gV σ H' s'->Q () s'):wpAny (model X.prog X.w) A (setItem (.ref a) u r) Q E s:=by
 rcases g with ⟨kvs,k,e,ey,l,eH⟩|⟨kvs,k,b,e,ey,eb,l,eH⟩
 ·subst ey eH
  obtain⟨z,hd,vs,rel,dd⟩:=dk_of I.hok e;have hz:vs.length<=sizeLine:=by rw[← rel.length];exact z
  have hl:(Rc kvs k v).length<=sizeLine:=by have:=QY kvs k v;omega
  refine wpAny_setItem_pairs (hsz:=hz) (OR ry) dd λh' mD hs=>h _ ?_
  have he:∃q,h'.get? a=some q:=let ⟨q,_,_,hq,_⟩:=mD;⟨q,hq⟩
  exact Hy I (by rw[e];exact True.intro) hs he (dk_new hl hd (rel.put k rv) mD)
 ·subst ey eH
  cases (show u=Value.ref b from ry);obtain⟨z,hd,xs,rel,dd⟩:=dt_of I.hok e;have hz:xs.length<=sizeLine:=by rw[← ia rel];exact z
  have hl:(Rc kvs k v).length<=sizeLine:=by have:=QY kvs k v;omega
  refine wpAny_setItem_heap (hsz:=hz) (dZ hu) (SX I.hok eb) dd λh' mD hs=>h _ ?_
  obtain⟨q,es,ep,hq,h2,h3,h4,_,h5⟩:=mD;refine Hy I (by rw[e];exact True.intro) hs ⟨q,hq⟩ ⟨hl,hd,_,(rel.put k eb rv).keeps λc ys ec=>?_,q,es,ep,hq,h2,h3,h4,h5⟩;rw[Zy (ne_of ec e (λz=>nomatch z))];exact ec
end
section
variable{X:Cx}{gV:iD}{σ:St}{H:Hp}{s:qK}{a:qJ}{kvs:List (Key × V)}{k:Key}{u:qI}{A:qO}{E:iA}
def d_len{Q:iA}(I:Inv X gV σ H s)(e:Rd H a (.dK kvs))(h:∀t s',Inv X gV σ H s'->Q (.int kvs.length t) s'):wpAny (model X.prog X.w) A (call (.builtin "len") [.ref a]) Q E s:=by
 obtain⟨z,hd,vs,rel,dd⟩:=Ry I.hok e;refine call_len_dict hd dd (by rw[← rel.length];rw[cG]at z;omega) ?_;rw[← rel.length];exact h _ _ (I.tok _)
end
def NoSl(i:qS):Prop:=∀ov iv,subscripted i false ov iv=operate [ov,iv] (getItem ov iv)
def Bx{prog:qM}{w:qN}{A:qO}{E:iA}{s:qK}{env:Env}{value slice:qS}{pos:Pos}{T id:String}{Q:iA}(hl:typeLookup (.type T) "__getitem__"=pure (some (.builtin id))) (hs:NoSl slice)(h:wpAny (model prog w) A (eval value env) (λo i4=>wpAny (model prog w) A (eval slice env) (λi ir=>ir.TypeIs o T/\wpAny (model prog w) A (getItem o i) Q E ir) E i4) E s):wpAny (model prog w) A (eval (.Subscript value slice pos) env) Q E s:=by
 refine Subscript_ (cw h (λo i4 jm=>cw jm (λi ir kr=>?_) λ_ _ x=>x) λ_ _ x=>x);obtain⟨hT,kr⟩:=kr;unfold subscriptTail;refine aA ?_;rw[getitemInPython_of_ne hT.not_modules];refine aA (wpAny_specialOf hT hl ?_)
 have fin:wpAny (model prog w) A (subscripted slice false o i) (λr jD=>wpAny (model prog w) A (letTemporaryGo value o r >>= λ_=>pure r) Q E jD) E ir:=by
  rw[hs o i];exact wpAny_operating (cw kr (λr jD j9=>aA (wpAny_letTemporaryGo (aE j9))) λ_ _ x=>x)
 first
  |exact aE (aA fin)
  |exact aA (aE (aA fin))
  |exact aA fin
def J7{X:Cx}{gV:iD}{σ:St}{H:Hp}{s:qK}{a:qJ}{y:V}{o:Option V}(I:Inv X gV σ H s)(g:DGet H a y o):s.TypeIs (.ref a) "dict":=by
 rcases g with ⟨kvs,k,e,_,_⟩|⟨kvs,k,b,e,_,_,_⟩
 ·obtain⟨_,_,vs,_,dd⟩:=Ry I.hok e
  exact dd.typeIs
 ·obtain⟨_,_,xs,_,dd⟩:=QQ I.hok e
  exact dd.typeIs
def tDGet(td ty:TE):TE:=λσ H Q=>td σ H λx H1=>ty σ H1 λy H2=>∃a v,x=.ref a/\DGet H2 a y (some v)/\Q v H2
def tDIn(ty td:TE):TE:=λσ H Q=>ty σ H λy H1=>td σ H1 λx H2=>∃a o,x=.ref a/\DGet H2 a y o/\Q (.bl o.isSome) H2
def AW(ty td:TE):TE:=λσ H Q=>ty σ H λy H1=>td σ H1 λx H2=>∃a o,x=.ref a/\DGet H2 a y o/\Q (.bl (!o.isSome)) H2
def sDPut(td ty tv:TE):TS:=λD σ H=>tv σ H λv H1=>td σ H1 λx H2=>ty σ H2 λy H3=>∃a H4,x=.ref a/\DPut H3 a y v H4/\D.nx σ H4
section
variable{X:Cx}{o i e value:qS}{pos jf m6:Pos}{td ty tv:TE}
def Ar(hu:X.A.units+1<cLine)(ho:PE X o td)(hi:PE X i ty)(hs:NoSl i):PE X (.Subscript o i pos) (tDGet td ty):=by
 intro gV s σ H Q I h;refine Bx PySem.F.slot_dict_getitem.lookup hs (thn (ho gV s σ H _ I h) λu s1 ⟨x,H1,I1,rx,q1⟩=>thn (hi gV s1 σ H1 _ I1 q1) λiv s2 ⟨y,H2,I2,ry,a,v,ex,g,q2⟩=>?_);subst ex;obtain rfl:u=Value.ref a:=rx;exact⟨J7 I2 g,FX hu I2 g ry λw' s3 I3 rw'=>⟨v,H2,I3,rw',q2⟩⟩
def D3(hu:X.A.units+1<cLine)(hi:PE X i ty)(ho:PE X o td):PC X .In i o (tDIn ty td):=by
 intro gV s σ H Q I h;refine thn (hi gV s σ H _ I h) λiv s1 ⟨y,H1,I1,ry,q1⟩=>thn (ho gV s1 σ H1 _ I1 q1) λu s2 ⟨x,H2,I2,rx,a,ov,ex,g,q2⟩=>?_
 subst ex;obtain rfl:u=Value.ref a:=rx;exact d_in hu I2 g ry λs3 I3=>⟨.bl ov.isSome,H2,I3,rfl,q2⟩
def Fa(hu:X.A.units+1<cLine)(hi:PE X i ty)(ho:PE X o td):PC X .NotIn i o (AW ty td):=by
 intro gV s σ H Q I h;refine thn (hi gV s σ H _ I h) λiv s1 ⟨y,H1,I1,ry,q1⟩=>thn (ho gV s1 σ H1 _ I1 q1) λu s2 ⟨x,H2,I2,rx,a,ov,ex,g,q2⟩=>?_
 subst ex;obtain rfl:u=Value.ref a:=rx;exact d_notIn hu I2 g ry λs3 I3=>⟨.bl (!ov.isSome),H2,I3,rfl,q2⟩
def BY(hu:X.A.units+1<cLine)(ho:PE X o td)(hi:PE X i ty)(hv:PE X value tv)(hs:swapsWith value (some (.Subscript o i jf)) pos.line X.env=pure false):PS X (.Assign [.Subscript o i jf] value pos) (sDPut td ty tv):=by
 intro gV s σ H D I h;refine wpAny_Assign_Subscript (thn (hv gV s σ H _ I h) λr s1 ⟨v,H1,I1,rv,q1⟩=>thn (ho gV s1 σ H1 _ I1 q1) λu s2 ⟨x,H2,I2,rx,q2⟩=>thn (hi gV s2 σ H2 _ I2 q2) λiv s3 ⟨y,H3,I3,ry,a,H4,ex,g,q3⟩=>?_) hs;subst ex;obtain rfl:u=Value.ref a:=rx;exact Fy hu I3 g ry rv λs4 I4=>⟨σ,H4,I4,q3⟩
end
def EH{P:qM}{w:qN}{H:Hp}(h:qQ)(hb:sysModules<h.objs.size):ObjOk P w H (h.push {cls:=.type "dict",data:=.dict #[]}) h.objs.size (.dK []):=
 ⟨cF _,aU.mpr (cI (aX hb)),[],.nil,Heap.DictOf.new h⟩
def CW{P:qM}{w:qN}{H:Hp}(h:qQ)(hb:sysModules<h.objs.size):ObjOk P w H (h.push {cls:=.type "dict",data:=.dict #[]}) h.objs.size (.dT []):=
 ⟨cF _,aU.mpr (cI (aX hb)),[],.nil,_,#[],0,aW _ rfl,⟨rfl,rfl,rfl⟩,rfl,rfl,gA⟩
def tDNewK:TE:=λ_ H Q=>∀p,H p=none->Q (.ref p) (upd H p (.dK []))
def tDNewT:TE:=λ_ H Q=>∀p,H p=none->Q (.ref p) (upd H p (.dT []))
section
variable{X:Cx}{pos:Pos}
def CG:PE X (.Dict [] [] pos) tDNewK:=λgV s σ H Q I h=>
 wpAny_Dict_empty ⟨.ref s.heap.objs.size,_,I.laid (a:=s.heap.objs.size) (o:=.dK []) (t':=s.toks) (λ_ _ q=>aL _ q) (aM _) (EH s.heap I.big),rfl,h _ (I.hok.fresh (aM _))⟩
def DM:PE X (.Dict [] [] pos) tDNewT:=λgV s σ H Q I h=>
 wpAny_Dict_empty ⟨.ref s.heap.objs.size,_,I.laid (a:=s.heap.objs.size) (o:=.dT []) (t':=s.toks) (λ_ _ q=>aL _ q) (aM _) (CW s.heap I.big),rfl,h _ (I.hok.fresh (aM _))⟩
end
structure M1(X:Cx)(o:qS)(m:Str)(iY:Pos)(e:qS)(i0:Pos):Prop where
 base:attributeBase o m X.env (eval o X.env)=eval o X.env
 few:((backTo i0 (starEach [e] X.env)).all (λx=>!x.1)&&(backToKw i0 (keywordEach [] X.env)).all (λx=>x.1.isSome)
  && decide (([e]:iN).length+([]:List Keyword).length+(if ([]:List Keyword).isEmpty then 0 else 1)<30))=true
 line:(iY.endLine == i0.line)=true
 trees:backTo i0 (starEach [e] X.env)=[(false,eval e X.env)]
structure M2(X:Cx)(o:qS)(m:Str)(iY:Pos)(e f:qS)(i0:Pos):Prop where
 base:attributeBase o m X.env (eval o X.env)=eval o X.env
 few:((backTo i0 (starEach [e,f] X.env)).all (λx=>!x.1)&&(backToKw i0 (keywordEach [] X.env)).all (λx=>x.1.isSome)
  && decide (([e,f]:iN).length+([]:List Keyword).length+(if ([]:List Keyword).isEmpty then 0 else 1)<30))=true
 line:(iY.endLine == i0.line)=true
 trees:backTo i0 (starEach [e,f] X.env)=[(false,eval e X.env),(false,eval f X.env)]
def IsD(H:Hp)(a:qJ):Prop:=(∃kvs,Rd H a (.dK kvs))\/∃kvs,Rd H a (.dT kvs)
def CI{X:Cx}{gV:iD}{σ:St}{H:Hp}{s:qK}{a:qJ}(I:Inv X gV σ H s)(d:IsD H a):s.TypeIs (.ref a) "dict"/\(∀b,Value.ref a=.ref b->∃ob,s.heap.get? b=some ob/\ob.dict=none)/\(a == sysModules)=false:=by
 rcases d with ⟨kvs,e⟩|⟨kvs,e⟩
 ·obtain⟨_,hd,vs,_,dd⟩:=Ry I.hok e
  refine⟨dd.typeIs,λb q=>?_,hd⟩;cases q;obtain⟨ob,_,_,h1,h2,_⟩:=dd;exact⟨ob,h1,h2.2.1⟩
 ·obtain⟨_,hd,xs,_,dd⟩:=QQ I.hok e
  refine⟨dd.typeIs,λb q=>?_,hd⟩;cases q;obtain⟨ob,_,_,h1,h2,_⟩:=dd;exact⟨ob,h1,h2.2.1⟩
section
variable{X:Cx}{gV:iD}{σ:St}{H:Hp}{s:qK}{a:qJ}{y d:V}{u r:qI}{o:Option V}{A:qO}{E:iA}
def d_get1{Q:iA}(hu:A.units+1<cLine)(I:Inv X gV σ H s)(g:DGet H a y o)(ry:RelV y u)(h:∀w' s',Inv X gV σ H s'->RelV (o.getD .non) w'->Q w' s'):wpAny (model X.prog X.w) A (call (.builtin "dict.get") [.ref a,u]) Q E s:=by
 rcases g with ⟨kvs,k,e,ey,l⟩|⟨kvs,k,b,e,ey,eb,l⟩
 ·subst ey
  obtain⟨z,hd,vs,rel,dd⟩:=Ry I.hok e;refine gG dy dd.typeIs eP (PySem.F.args_dict_get_2 _ _) (meets_dict_get (ZZ X.prog X.w) a (OR ry) hd) ⟨_,dd.mapOf,h _ _ (I.tok _) ?_⟩;rw[l];exact(rel.val k).getD rfl
 ·subst ey
  cases (show u=Value.ref b from ry);obtain⟨z,hd,xs,rel,dd⟩:=QQ I.hok e;refine gG dy dd.typeIs eP (PySem.F.args_dict_get_2 _ _) (meetsH_dict_get (tupleKind (ZZ X.prog X.w)) a b hd) ⟨dZ hu,k,xs,SX I.hok eb,dd,h _ _ (I.tok _) ?_⟩;rw[l];exact(rel.val k).getD rfl
def d_get2{Q:iA}(hu:A.units+1<cLine)(I:Inv X gV σ H s)(g:DGet H a y o)(ry:RelV y u)(rd:RelV d r)(h:∀w' s',Inv X gV σ H s'->RelV (o.getD d) w'->Q w' s'):wpAny (model X.prog X.w) A (call (.builtin "dict.get") [.ref a,u,r]) Q E s:=by
 rcases g with ⟨kvs,k,e,ey,l⟩|⟨kvs,k,b,e,ey,eb,l⟩
 ·subst ey
  obtain⟨z,hd,vs,rel,dd⟩:=Ry I.hok e;refine gG dy dd.typeIs eP (PySem.F.args_dict_get_3 _ _ _) (meets_dict_get_default (ZZ X.prog X.w) a (OR ry) hd r) ⟨_,dd.mapOf,h _ _ (I.tok _) ?_⟩;rw[l];exact(rel.val k).getD rd
 ·subst ey
  cases (show u=Value.ref b from ry);obtain⟨z,hd,xs,rel,dd⟩:=QQ I.hok e;refine gG dy dd.typeIs eP (PySem.F.args_dict_get_3 _ _ _) (meetsH_dict_get_default (tupleKind (ZZ X.prog X.w)) a b hd r) ⟨dZ hu,k,xs,SX I.hok eb,dd,h _ _ (I.tok _) ?_⟩;rw[l];exact(rel.val k).getD rd
end
def tDGet1(td ty:TE):TE:=λσ H Q=>td σ H λx H1=>∃a,x=.ref a/\IsD H1 a/\ty σ H1 λy H2=>∃o,DGet H2 a y o/\Q (o.getD .non) H2
def tDGet2(td ty tx:TE):TE:=λσ H Q=>td σ H λx H1=>∃a,x=.ref a/\IsD H1 a/\ty σ H1 λy H2=>tx σ H2 λz H3=>∃o,DGet H3 a y o/\Q (o.getD z) H3
section
variable{X:Cx}{o e f:qS}{iY i0:Pos}{td ty tx:TE}
def C1(hu:X.A.units+1<cLine)(ho:PE X o td)(he:PE X e ty)(m:M1 X o "get" iY e i0):PE X (.Call (.Attribute o "get" iY) [e] [] i0) (tDGet1 td ty):=by
 intro gV s σ H Q I h;refine wpAny_Call_method m.base m.few m.line fX dy PySem.F.type_dict_get (thn (ho gV s σ H _ I h) λu s1 ⟨x,H1,I1,rx,a,ex,d,q1⟩=>?_);subst ex;obtain rfl:u=Value.ref a:=rx;obtain⟨t1,t2,_⟩:=CI I1 d;refine⟨t1,t2,?_⟩;rw[m.trees];refine ff rfl (fG (fV (thn (he gV s1 σ H1 _ I1 q1) λiv s2 ⟨y,H2,I2,ry,ov,g,q2⟩=>ip ?_)));exact d_get1 hu I2 g ry λw' s3 I3 rw'=>⟨_,H2,I3,rw',q2⟩
def EE(hu:X.A.units+1<cLine)(ho:PE X o td)(he:PE X e ty)(hf:PE X f tx)(m:M2 X o "get" iY e f i0):PE X (.Call (.Attribute o "get" iY) [e,f] [] i0) (tDGet2 td ty tx):=by
 intro gV s σ H Q I h;refine wpAny_Call_method m.base m.few m.line fX dy PySem.F.type_dict_get (thn (ho gV s σ H _ I h) λu s1 ⟨x,H1,I1,rx,a,ex,d,q1⟩=>?_);subst ex;obtain rfl:u=Value.ref a:=rx;obtain⟨t1,t2,_⟩:=CI I1 d;refine⟨t1,t2,?_⟩;rw[m.trees]
 refine ff rfl (fG (fV (thn (he gV s1 σ H1 _ I1 q1) λiv s2 ⟨y,H2,I2,ry,q2⟩=>
  fV (thn (hf gV s2 σ H2 _ I2 q2) λfv s3 ⟨z,H3,I3,rz,ov,g,q3⟩=>ip ?_))))
 exact d_get2 hu I3 g ry rz λw' s4 I4 rw'=>⟨_,H3,I4,rw',q3⟩
end
end L2
namespace Att
open PySem PySem.W PySem.Calls PyProof.Rows
def Q6{P:Params}{h:qQ}:∀(ns:iK) (vs:iJ),WellAll P h vs (ns.map WData.int)->IntsAre vs ns:=by
 intro ns
 induction ns with
 |nil=>
  intro vs w;rw[gW]at w;cases w;exact .nil
 |cons n ns ih=>
  intro vs w;rw[aS]at w;cases w with
  |cons a b=>
   cases a;exact .cons _ _ (ih _ b)
def Ex{l:OpenLaw}{n:Nat}(hn:l.most=some n){P:Params}{h:qQ}{args:List WData}{lC:iJ}(kO:l.row.toRowW.claim.pre args=true) (kg:WellAll P h lC args):∃a vs ns,lC=[Value.ref a]/\args=[WData.list (ns.map WData.int)]/\h.get? a=some {cls:=.type "list",data:=.seq vs.toArray}/\IntsAre vs ns/\ns.length<=n:=by
 have hsh:WShape.hasAll [] args [.list .int]=true:=(pre_splitW kO).1;have hc:l.pre.holds [] {args:=args}=true:=(pre_splitW kO).2;obtain⟨d,r,rfl,h1,h2⟩:=hasAllW_cons hsh;obtain rfl:=hasAllW_nil h2;obtain⟨xs,rfl,h3⟩:=hasW_list h1;obtain⟨ns,rfl⟩:=items_int h3
 have iZ:ns.length<=n:=by
  unfold OpenLaw.pre at hc
  have h4:(WTm.not (.lt (.lit (.int (n:Int))) (.len (.arg 0)))).holds [] {args:=[.list (ns.map .int)]}=true:=by
   have h4:=(holds_andW hc).1;rw[hn]at h4;exact h4
  have h5:=condW_of h4 (w_not (w_lt w_lit (w_len_list (w_arg rfl))));rw[aB]at h5;refine Nat.le_of_not_lt λq=>?_
  have q':(n:Int)<((ns.length:Nat):Int):=by omega
  first
   |(rw[bG q']at h5;exact absurd h5 .(1))
   |(simp at h5;omega)
 cases kg with
 |cons w1 w2=>
  cases w2;cases w1 with
  |list ho hall=>exact⟨_,_,ns,rfl,rfl,ho,Q6 ns _ hall,iZ⟩
def Fi(l:OpenLaw)(args:List WData):l.row.toRowW.claim.post args (.bool true) args=true:=
 postW_of (r:=l.row.toRowW) (X:=(true == true))
  (show WShape.has [] (.bool true) .bool=true by first|rfl|decide|simp[WShape.has,WShape.arms,WShape.armsAll])
  (show(WTm.eq .res (.lit (.bool true))).value [] {args:=args,res:=some (.bool true),after:=args}=some (.bool (true == true)) from w_eq_bool (w_res rfl) w_lit) rfl
def attach_call{l:OpenLaw}{n:Nat}{q:qM}{loose:iM}{XP:(iB)->Heap->Prop}{YP:qN->Heap->Prop}{d:DefRec}(hn:l.most=some n) (m8:d.params.defaults=[])(call:∀(w:qN) (s₀ i4:qK) (mg mb:iB) (fa:qJ) (o:Obj) (pm cd doc:qI) (a:qJ) (vs:iJ) (ns:iK),
     Ground q loose [] XP w s₀ mg mb i4.heap->YP w i4.heap ->
     i4.heap.get? fa=some o->o.data=.func (docDef d.name d.params d.body d.scope pm cd doc)->i4.heap.CodeRec cd d.name->mg d.name=some (.ref fa) ->
     i4.heap.get? a=some {cls:=.type "list",data:=.seq vs.toArray}->IntsAre vs ns->ns.length<=n->i4.gens=#[] ->
     codeAny (model l.prog w) callerA (.call (.ref fa) ⟨[.ref a],[]⟩) (λr s'=>r=.ok (.ret (.bool true))/\OldK i4.heap s'.heap/\s'.os=i4.os/\AllBare s'.gens) i4):
    WalkO q loose XP YP l.row.toRowW d [] (λf vs=>PySem.call f vs):=by
 intro w s₀ i4 mg mb G Y fa o pm cd doc dV kV ho hd jS hD mE hg args lC as kO oQ qr kg oh;obtain rfl:dV=.none:=Dflts.none hD m8;obtain rfl:kV=.none:=Dflts.noKw hD;obtain⟨a,vs,ns,rfl,rfl,lD,kt,iZ⟩:=Ex hn kO kg;refine enter_call (dY (call w s₀ i4 mg mb fa o pm cd doc a vs ns G Y ho (fd_plain hd) jS mE lD kt iZ hg) λr s' hq=>?_);obtain⟨rfl,h2,h3,h4⟩:=hq;exact⟨.inl ⟨.bool true,.bool true,[],rfl,λ_=>rfl,.bool true,Fi l _,λ_=>⟨List.Pairwise.nil,λ_ hm=>(nomatch hm)⟩⟩,h2,h3,h4⟩
end Att
namespace L2
open PySem PySem.Spec PyProof.Rows
def NI:∀{vs:iJ} {ns:iK},IntsAre vs ns->Vals (ns.map V.int) vs
 |_,_,.nil=>.nil
 |_,_,.cons n t h=>.cons ⟨t,rfl⟩ (NI h)
def Only(H:Hp):Prop:=∀b,H b=none\/∃o xs,H b=some (.frz o (.lst xs))
def Cy{P:qM}{w:qN}{K:iC}{mg mb:iB}{CX:CXT}{k:Nat}{fa a:qJ}{fd:qP}{x:Str}{sp:Sp}{i4:qK}{vs:iJ}{ns:iK}(KX:K.In i4.heap) (mF:i4.heap.Ns mainGlobals mg) (hb:i4.heap.Ns builtinsNs mb) (m9:∀x:Str,x≠"__name__"->mb x=bootBuiltins x) (ja:i4.heap.NoLimit) (hg:i4.gens=#[])(ha:i4.heap.get? a=some {cls:=.type "list",data:=.seq vs.toArray}) (hi:IntsAre vs ns) (hl:ns.length<=sizeLine) (hr:Room k callerA)(F:∀base:qQ,K.In base->base.Ns mainGlobals mg->FnOk P w K mg base CX k fa fd [x] sp) (l0:∀(s:qK) (u:qI),BindsTo s fd ⟨[u],[]⟩ [(x,u)])(k9:∀H:Hp,Only H->SqL K H a (ns.map V.int)->sp [.ref a] H (λv _=>v=.bl true) λ_ _ _=>False)(oR:∀H e s',CX [] H i4 (λ_ _ _=>False) e s'->False):codeAny (model P w) callerA (.call (.ref fa) ⟨[.ref a],[]⟩) (λr s'=>r=.ok (.ret (.bool true))/\OldK i4.heap s'.heap/\s'.os=i4.os/\AllBare s'.gens) i4:=by
 have rv:=NI hi;have lenV:=hi.length
 have core : ∀ H : Hp,Only H -> SqL K H a (ns.map V.int) -> HOk P w H i4.heap -> (∀ b,H b ≠ none -> b = a) -> (H a ≠ none -> K.lookup a = none) ->
     codeAny (model P w) callerA (.call (.ref fa) ⟨[.ref a],[]⟩) (λr s'=>r=.ok (.ret (.bool true))/\OldK i4.heap s'.heap/\s'.os=i4.os/\AllBare s'.gens) i4:=by
  intro H hO hS hok hA hK;have base_of:∀{b:qJ} {o:Obj},i4.heap.get? b=some o->H b=none->(MW i4.heap H).get? b=some o:=λe n=>CL e n
  have noA:∀{b:qJ} {o:Obj} {es:Array DictEntry} {ep:Nat},i4.heap.get? b=some o->o.data=.dict es ep->H b=none:=λ{b o es ep} e d=>by
   cases q:H b with
   |none=>rfl
   |some u=>
    have e':b=a:=hA b (by rw[q];simp);subst e';rw[ha]at e;cases e;have d':Data.seq vs.toArray _=Data.dict es ep:=d;cases d'
  have nsK:∀{b:qJ} {m:iB},i4.heap.Ns b m->(MW i4.heap H).Ns b m:=λ{b m} ⟨o,es,ep,e,d,r⟩=>⟨o,es,ep,base_of e (noA e d),d,r⟩
  have hKb:K.In (MW i4.heap H):=λb o e=>base_of (KX b o e) (by
   cases q:H b with
   |none=>rfl
   |some u=>
    have e':b=a:=hA b (by rw[q];simp);subst e';rw[hK (by rw[q];simp)]at e;cases e)
  have hM:Mod K mg (MW i4.heap H):=⟨hKb,nsK mF,⟨mb,nsK hb,m9⟩,let ⟨mc,h1,h2⟩:=ja;⟨mc,nsK h1,h2⟩⟩;have e0:Env0 P w K mg (MW i4.heap H) callerA [] i4 H:=⟨rfl,hM,λb o e=>B7 e,Nat.le_of_eq (FH _ _),trivial,λb hb=>absurd (show b∈([]:iI) from hb) .(2),hok,.of_eq hg⟩;refine dY ((F _ hKb (nsK mF)).run callerA [] i4 H ⟨[.ref a],[]⟩ [.ref a] [.ref a] _ _ hr e0 (l0 i4 (.ref a)) (.cons rfl .nil) (k9 H hO hS)) λr s' h=>?_
  cases r with
  |error e=>exact(oR H e s' h).elim
  |ok fl=>
   cases fl with
   |next=>exact False.elim h
   |brk=>exact False.elim h
   |cont=>exact False.elim h
   |ret u=>
    obtain⟨v,H',os,bare,un,nc,r',q⟩:=h;have q':v=.bl true:=q;subst q';obtain rfl:u=Value.bool true:=r';refine⟨rfl,OldK.of_keep λb o e=>?_,os,bare⟩;cases q:H b with
    |none=>exact un.keep b o e q (by intro z;exact absurd (show b∈([]:iI) from z) .(2)) .(2)
    |some u=>
     rcases hO b with z|⟨ob,xs,z⟩
     ·rw[q]at z;cases z
     ·have z2:=un.frzs b ob _ z
      obtain⟨e1,_⟩:=hok b _ z;obtain⟨e2,_⟩:=nc b _ z2;rw[e]at e1;cases e1;exact e2
 cases hk:K.lookup a with
 |some o=>
  have e:=KX a o hk;rw[ha]at e;cases e;refine core (λ_=>none) (λ_=>.inl rfl) (.inr ⟨_,vs.toArray,_,hk,rfl,rfl,rfl,by rw[bD,lenV];exact hl,by simpa using rv⟩) (λb u z=>by have z':(none:Option HO)=some u:=z;cases z') (λb z=>absurd rfl z) λz=>absurd rfl z
 |none=>
  refine core (λb=>if b=a then some (.frz {cls:=.type "list",data:=.seq vs.toArray} (.lst (ns.map V.int))) else none) (λb=>?_) (.inl (.inr ⟨{cls:=.type "list",data:=.seq vs.toArray},aC rfl⟩)) (λb u z=>?_) (λb z=>?_) λ_=>hk
  ·by_cases hb:b=a
   ·exact .inr ⟨_,_,aC hb⟩
   ·exact .inl (aD hb)
  ·by_cases hb:b=a
   ·have z':=(aC hb).symm.trans z
    cases z';subst hb;exact⟨ha,by rw[aB];exact hl,vs,_,rv,ha⟩
   ·have z':=(aD hb).symm.trans z
    cases z'
  ·by_cases hb:b=a
   ·exact hb
   ·exact absurd (aD hb) z
abbrev E0:XK:=λ_ _ _=>False
structure Fun(K:iC)(x qual:Str)(st:qR)(f:qJ)(fd:qP):Prop where
 ex:∃(oc:qI) (od:Option qJ) (kV doc pm:qI) (an:Option qJ) (jz ct:qI) (lR:Array (iP)),
  fd=PySem.W.fnOf x qual (Pf st) (UY st) (YC st) .none kV doc pm an jz ct/\K.lookup f=some ⟨oc,od,.func fd,lR⟩/\PySem.W.codeIn K jz qual=true
 kp:PySem.W.keepIn K (.ref f)=true
section
variable{P:qM}{w:qN}{K:iC}{mg:iB}{base:qQ}
def Fun.binds{x qual:Str}{st:qR}{f:qJ}{fd:qP}{ps:iM}(F:Fun K x qual st f fd)(h:∀(kV doc pm:qI) (an:Option qJ) (jz ct:qI) (us:iJ),us.length=ps.length->bindArgs (PySem.W.fnOf x qual (Pf st) (UY st) (YC st) .none kV doc pm an jz ct) ⟨us,[]⟩=pure (ps.zip us)):Binds K fd ps []:=by
 obtain⟨oc,od,kV,doc,pm,an,jz,ct,lR,rfl,lk,jS⟩:=F.ex;exact .all (h kV doc pm an jz ct)
end
def Same(H H':Hp):Prop:=∀b o,H b=some o->H' b=some o
def Same.refl(H:Hp):Same H H:=λ_ _ h=>h
def Same.trans{H H1 H2:Hp}(a:Same H H1)(b:Same H1 H2):Same H H2:=λc o h=>b c o (a c o h)
def Same.free{H H':Hp}(e:Same H H'){l:qJ}(h:H' l=Option.none):H l=Option.none:=by
 cases q:H l with
 |none=>rfl
 |some o=>
  rw[e l o q]at h;cases h
section
variable{X:Cx}
def F8:CallR X (.builtin "len") (λxs H Q=>∃a kvs,xs=[V.ref a]/\H a=some (.dK kvs)/\Q (.int kvs.length) H):=by
 intro gV s σ H xs us Q I r h;obtain⟨a,kvs,rfl,ha,q⟩:=h;obtain⟨u,rfl,ru⟩:=So r;cases ru;exact d_len I (.inl ha) λt s' I'=>⟨.int kvs.length,H,I',⟨t,rfl⟩,q⟩
end
section
variable{X:Cx}{e:qS}{es:iN}{te:TE}{pos:Pos}
def tFmt(te:TE):TE:=λσ H Q=>te σ H λx H1=>∃i,x=.int i/\i.natAbs.log2<1920/\Q (.str (toString i)) H1
def pe_fmt(he:PE X e te):PE X (.FormattedValue e (-1) none pos) (tFmt te):=by
 intro gV s σ H Q I h;refine PyProof.Rows.FormattedValue_plain (thn (he gV s σ H _ I h) λv s1 ⟨x,H1,I1,r1,i,ex,hb,q⟩=>?_);subst ex;obtain⟨t,rfl⟩:=r1;exact PySem.wpAny_formatField_int hb ⟨.str (toString i),H1,I1.tok _,⟨_,rfl⟩,q⟩
def PJ(X:Cx)(n:Nat)(es:iN)(t:TA):Prop:=
 ∀(gV:iD) (s:qK) (σ:St) (H:Hp) (i7:Str) (Q:VK),Inv X gV σ H s->i7.length+n * es.length<=sizeLine ->
  t σ H (λ_ H1=>∀z:Str,Q (.str z) H1)->wpAny (model X.prog X.w) X.A (joinParts i7 (evalEach es X.env)) (EP X gV σ Q) X.xe s
def tPart1(n:Nat)(te:TE)(t:TA):TA:=λσ H Q=>te σ H λx H1=>(∃y:Str,x=.str y/\y.length<=n)/\t σ H1 Q
def pj_nil{n:Nat}:PJ X n [] tNil:=by
 intro gV s σ H i7 Q I hl h;exact PyProof.Rows.joinParts_nil ⟨.str i7,H,I.tok _,⟨_,rfl⟩,h i7⟩ (by simpa using hl)
def HI{n:Nat}{t:TA}(he:PE X e te)(hr:PJ X n es t)(hs:evalEach (e::es) X.env=eval e X.env::evalEach es X.env:=by rfl):PJ X n (e::es) (tPart1 n te t):=by
 intro gV s σ H i7 Q I hl h;rw[hs];refine PyProof.Rows.joinParts_cons (thn (he gV s σ H _ I h) λv s1 ⟨x,H1,I1,r1,⟨y,ex,hy⟩,q⟩=>?_);subst ex;obtain⟨t',rfl⟩:=r1
 have hz:i7.length+n * es.length+n<=sizeLine:=by
  rw[bI,Nat.mul_succ]at hl;omega
 have hap:(i7++y).length=i7.length+y.length:=strLen_append ..;have hm:(i7++y).length<=sizeLine:=by rw[hap];omega
 exact⟨hm,hr gV s1 σ H1 (i7++y) Q I1 (by rw[hap];omega) q⟩
def tJoin(t:TA):TE:=λσ H Q=>t σ H λ_ H1=>∀z:Str,Q (.str z) H1
abbrev rL(ji)(jj)(rest)(X:Cx):=evalEach (ji::jj::rest) X.env=eval ji X.env::eval jj X.env::evalEach rest X.env
def BQ{ji jj:qS}{rest:iN}{n:Nat}{t:TA}(h:PJ X n (ji::jj::rest) t)(hn:n * (ji::jj::rest).length<=16000000)(hs:rL ji jj rest X:=by rfl):PE X (.JoinedStr (ji::jj::rest) pos) (tJoin t):=by
 intro gV s σ H Q I q;refine PyProof.Rows.JoinedStr_many ?_;rw[← hs];refine h gV s σ H Str.empty Q I ?_ q;rw[cG];have:Str.empty.length=0:=rfl;omega
def Fh{i:Int}{n:Nat}(h:i.natAbs.log2<1920)(hn:1921<=n):(toString i:Str).length<=n:=bL (PyProof.Rows.int_text_len_1921 h) hn
end
def ObjOk.ex{P:qM}{w:qN}{H:Hp}{h:qQ}{a:qJ}{o:HO}(x:ObjOk P w H h a o):∃ob,h.get? a=some ob:=by
 cases o with
 |lst xs=>obtain⟨_,_,_,_,e⟩:=x;exact⟨_,e⟩
 |tup xs=>obtain⟨_,_,_,ob,e,_⟩:=x;exact⟨_,e⟩
 |dK kvs=>obtain⟨_,_,_,_,o,_,_,e,_⟩:=x;exact⟨_,e⟩
 |dT kvs=>obtain⟨_,_,_,_,o,_,_,e,_⟩:=x;exact⟨_,e⟩
 |set S n=>obtain⟨o,_,_,_,e,_⟩:=x;exact⟨_,e⟩
 |ins C dx fs=>obtain⟨_,_,_,e,_⟩:=x;exact⟨_,e⟩
 |own y=>exact x
 |xd fs=>obtain⟨_,⟨_,_,_,e,_⟩,_⟩:=x;exact⟨_,e⟩
 |rng lo hi=>obtain⟨_,_,_,e⟩:=x;exact⟨_,e⟩
 |frz ob u=>obtain⟨e,_⟩:=x;exact⟨_,e⟩
 |tbl ps=>exact⟨_,x⟩
 |met f y=>exact⟨_,x⟩
 |ext φ=>obtain⟨_,e,_⟩:=x;exact e
def Un.on{fs:iI}{H H1:Hp}{h0 h1 h2:qQ}(u:Un fs [] H H1 h0 h1)(kB:∀b o o1,h0.get? b=some o->b ∉ fs->h1.get? b=some o1->h2.get? b=some o1)(ks:∀b o o1,h0.get? b=some o->b∈fs->h1.get? b=some o1->∃sl,h2.get? b=some {o1 with slots:=sl}):Un fs [] H H1 h0 h2 where
 keep:=λb o e n hb hx=>kB b o o e hb (u.keep b o e n hb hx)
 slot:=λb o e n hb hx=>by
  obtain⟨sl,e1⟩:=u.slot b o e n hb hx;obtain⟨jd,e2⟩:=ks b o _ e hb e1;exact⟨jd,e2⟩
 free:=u.free
 there:=λb o e hx=>by
  obtain⟨o1,e1⟩:=u.there b o e hx;by_cases hb:b∈fs
  ·obtain⟨sl,e2⟩:=ks b o o1 e hb e1
   exact⟨_,e2⟩
  ·exact⟨o1,kB b o o1 e hb e1⟩
 tups:=u.tups
 frzs:=u.frzs
 tbls:=u.tbls
structure Fly(P:qM)(w:qN)(outer:List Env)(H:Hp)(s:qK)(H':Hp)(a:qJ)(cls:qI)(s':qK):Prop where
 os:s'.os=s.os
 bare:AllBare s'.gens
 un:Un (frs outer) [] H H' s.heap s'.heap
 hok:HOk P w H' s'.heap
 fl:∃B a0,Heap.FlyingW B outer a cls a0 s'.heap/\(∀b o ob,H' b=some o->s'.heap.get? b=some ob->B.get? b=some ob) /\
  ∀b o ob,s.heap.get? b=some o->b ∉ frs outer->s'.heap.get? b=some ob->B.get? b=some ob
def CXw(P:qM)(w:qN):CXT:=λouter H s E e s'=>∃a cls H',e=.ref a/\Fly P w outer H s H' a cls s'/\E cls none H'
def HOk.flown{P:qM}{w:qN}{H:Hp}{h h' B:qQ}(x:HOk P w H h)(c1:∀b o ob,H b=some o->h.get? b=some ob->B.get? b=some ob)(st:B.StaysIn h'):HOk P w H h':=λb o e=>
 (x b o e).stay (λc u hc q=>by
  rcases hc with rfl|hc
  ·exact st _ _ (c1 _ _ _ e q)
  ·exact st _ _ (c1 _ _ _ hc q)) (λ_ q=>q) λ_ _ q=>q
section
variable{P:qM}{w:qN}{K:iC}{mg:iB}{base:qQ}{N:iM}{qual:Str}{scope:Scope}{f:qJ}{cd:qI}{A:qO}{outer:List Env}{s:qK}{H:Hp}{E:XK}
def HD:XQ (CXw P w) (NC (CXw P w) P w K mg base N qual scope f cd A outer s H E) E:=by
 intro gV σ H1 s1 e s' I ng;obtain⟨a,cls,H',rfl,j6,hE⟩:=ng;have I':=I.call' (ch:=[]) j6.os j6.un j6.hok j6.bare (λ_ z=>nomatch z);obtain⟨B,a0,fl,c1,c2⟩:=j6.fl;have hfr:(A.deeper (envOfC qual scope s.heap.objs.size f cd)).frames=some (envOfC qual scope s.heap.objs.size f cd::outer):=I.ok.frames;refine wpAny_leaves_onW (L:=s.heap.objs.size) hfr rfl fl λh' ku up=>⟨a,cls,H',rfl,?_,hE⟩
 have hub:Un (frs outer) [] H H' s.heap s'.heap:=I'.base
 have nL:∀b o,s.heap.get? b=some o->b ∉ frs outer->b ∉ frs (envOfC qual scope s.heap.objs.size f cd::outer):=λb o e hb hm=>by
  unfold frs at hm hb;rw[cJ]at hm;rcases aN.mp hm with z|z
  ·exact absurd (aP e) (by rw[z];exact cV _)
  ·exact hb z
 have kB:∀b o o1,s.heap.get? b=some o->b ∉ frs outer->s'.heap.get? b=some o1->B.get? b=some o1:=λb o o1 e hb e1=>by
  obtain⟨o2,e2⟩:=(show Un (frs outer) [] H H1 s.heap s1.heap from I.base).there b o e .(2);exact c2 b o2 o1 e2 (nL b o e hb) e1
 refine⟨I'.os,I'.bare,hub.on (λb o o1 e hb e1=>ku.1 _ _ (kB b o o1 e hb e1)) (λb o o1 e hb e1=>?_),j6.hok.flown c1 ku.1,B,a0,ku,λb o ob e eb=>?_,λb o ob e hb eb=>?_⟩
 ·obtain⟨_,o',jh,lE⟩:=I'.funs.mem hb
  have jh:s'.heap.get? b=some o':=jh;rw[e1]at jh;cases jh;exact up b o1 e1 lE
 ·obtain⟨lG,e2⟩:=(j6.hok b o e).ex
  have e3:=c1 b o lG e e2;have e4:=ku.1 _ _ e3;have eb:h'.get? b=some ob:=eb;rw[e4]at eb;cases eb;exact e3
 ·obtain⟨lG,e2⟩:=hub.there b o e .(2)
  have e3:=kB b o lG e hb e2;have e4:=ku.1 _ _ e3;have eb:h'.get? b=some ob:=eb;rw[e4]at eb;cases eb;exact e3
end
def LY(X:Cx)(E:XK):Prop:=∀(gV:iD) (σ:St) (H:Hp) (s:qK) (h':qQ) (e:qJ) (cls:qI) (args:iJ),Inv X gV σ H s->Heap.MadeExcOf s.heap h' e cls args->E cls none H->X.xe (.ref e) {s with heap:=h'}
section
variable{P:qM}{w:qN}{K:iC}{mg:iB}{base:qQ}{N:iM}{qual:Str}{scope:Scope}{f:qJ}{cd:qI}{A:qO}{outer:List Env}{s:qK}{H:Hp}{E:XK}
def throwX:LY (NC (CXw P w) P w K mg base N qual scope f cd A outer s H E) E:=by
 intro gV σ H1 s1 h1 e cls args I hx hE;have hfr:(A.deeper (envOfC qual scope s.heap.objs.size f cd)).frames=some (envOfC qual scope s.heap.objs.size f cd::outer):=I.ok.frames;have jT:s1.heap.FunFrames base (envOfC qual scope s.heap.objs.size f cd::outer):=I.stack
 have hl:s1.heap.FunFrames (PySem.W.hideAll s1.heap (frs (envOfC qual scope s.heap.objs.size f cd::outer))) (envOfC qual scope s.heap.objs.size f cd::outer):=
  PySem.W.funFrames_hide jT λenv he a ha=>gQ.mpr ⟨env,he,ha⟩
 refine wpAny_leaves_madeW (base:=PySem.W.hideAll s1.heap (frs (envOfC qual scope s.heap.objs.size f cd::outer))) (h:=s1.heap) (L:=s.heap.objs.size) hfr rfl (λb o q=>PySem.W.of_hideAll _ q) hl hx λh' t ku _ _ up=>⟨e,cls,H1,rfl,?_,hE⟩
 have hub:Un (frs outer) [] H H1 s.heap s1.heap:=I.base
 have nL:∀b o,s.heap.get? b=some o->b ∉ frs outer->b ∉ frs (envOfC qual scope s.heap.objs.size f cd::outer):=λb o e hb hm=>by
  unfold frs at hm hb;rw[cJ]at hm;rcases aN.mp hm with z|z
  ·exact absurd (aP e) (by rw[z];exact cV _)
  ·exact hb z
 have tB:∀b o ob,H1 b=some o->s1.heap.get? b=some ob->(PySem.W.hideAll s1.heap (frs (envOfC qual scope s.heap.objs.size f cd::outer))).get? b=some ob:=λb o ob e eb=>
  gI _ eb λhm=>by
   have:=I.stkFree b hm;rw[e]at this;cases this
 have kB:∀b o o1,s.heap.get? b=some o->b ∉ frs outer->s1.heap.get? b=some o1->(PySem.W.hideAll s1.heap (frs (envOfC qual scope s.heap.objs.size f cd::outer))).get? b=some o1:=λb o o1 e hb e1=>
  gI _ e1 (nL b o e hb)
 refine⟨I.os,I.bare,hub.on (λb o o1 e hb e1=>ku.1 _ _ (kB b o o1 e hb e1)) (λb o o1 e hb e1=>?_),I.hok.flown tB ku.1,_,_,ku,λb o ob e eb=>?_,λb o ob e hb eb=>?_⟩
 ·obtain⟨_,o',jh,lE⟩:=I.funs.mem hb
  have jh:s1.heap.get? b=some o':=jh;rw[e1]at jh;cases jh;exact up b o1 (hx.keeps b o1 e1) lE
 ·obtain⟨lG,e2⟩:=(I.hok b o e).ex
  have e3:=tB b o lG e e2;have e4:=ku.1 _ _ e3;have eb:h'.get? b=some ob:=eb;rw[e4]at eb;cases eb;exact e3
 ·obtain⟨lG,e2⟩:=hub.there b o e .(2)
  have e3:=kB b o lG e hb e2;have e4:=ku.1 _ _ e3;have eb:h'.get? b=some ob:=eb;rw[e4]at eb;cases eb;exact e3
end
def Eo{K:iC}{h:qQ}{C:qJ}{lh:iJ}{jF:String}(X:K.In h)(q:PySem.W.excIn K C lh jF=true):∃bm Nn nm qn bs hdct sn sub ab col dd k0 k1 k2 k3 k5 mN,h.get? C=some (excClassObj nm qn C Nn bs bm hdct sn sub ab col dd k0 k1 k2 k3 k5 jF)/\h.Ns Nn mN/\mN "__init__"=none/\OwnTail h lh bm:=by
 unfold PySem.W.excIn at q;split at q
 ·rename_i dd cd sl ho
  split at q
  ·rename_i C' bm k0 k1 k2 k3 n k5 hm hs
   simp only[bW,cX,eO]at q;obtain⟨⟨⟨⟨⟨e1,e2⟩,l6⟩,ht⟩,hok⟩,mG⟩:=q;subst e1 e2;obtain⟨nm,bs,mro,ns,qn,hd,sn,sub,ab,col,del⟩:=cd;dsimp only at hm l6 hok mG;subst hm l6;obtain⟨l⟩:=sl;have hs:l=_:=hs;subst hs;exact⟨bm,ns,nm,qn,bs,hd,sn,sub,ab,col,dd,k0,k1,k2,k3,k5,_,X _ _ ho,.of_isNs (PySem.W.isNs_of_in X hok),PySem.W.nsMap_none_of_in X hok mG,PySem.W.tail_of_in X ht⟩
  ·cases q
 ·cases q
section
variable{X:Cx}{x:Str}{C:qJ}{lh:iJ}{B jF jX:String}{E:XK}{kP:qS}{rest:iN}{np i0 pos:Pos}{t:TA}
def tRaise(C:qJ)(E:XK)(t:TA):TS:=λ_ σ H=>t σ H λvs H1=>vs.length<=sizeLine/\E (.ref C) none H1
def Dc(FB:ExcBaseFacts B jF jX lh)(q:PySem.W.excIn X.K C lh jF=true)(hg:Gl X x)(hm:X.mg x=some (.ref C))(hc:X.calm=true)(hE:LY X E)(ha:PA X (kP::rest) t)(he:starEach (kP::rest) X.env=(false,eval kP X.env)::starEach rest X.env:=by rfl) (jb:(backTo i0 (starEach rest X.env)).any (·.1)=false:=by rfl) (jv:(x == ("__debug__":Str))=false:=by decide):PS X (.Raise (some (.Call (.Name x np) (kP::rest) [] i0)) none pos) (tRaise C E t):=by
 intro gV s σ H D I h;obtain⟨bm,Nn,nm,qn,bs,hdct,sn,sub,ab,col,dd,k0,k1,k2,k3,k5,mN,hC,hN,mG,T⟩:=Eo I.mod.kin q
 refine wpAny_Raise_call_subT (C:=C) (nm:=nm) (q:=qn) (N:=Nn) (bs:=bs) (bm:=bm) (hdct:=hdct) (sn:=sn) (sub:=sub) (ab:=ab) (col:=col) (dd:=dd) (k0:=k0) (k1:=k1) (k2:=k2) (k3:=k3) (k5:=k5)
  FB (mN:=mN) (T.hasType FB.hasBase) (I.ok.hd hc) (by rw[he];show(false || (backTo i0 (starEach rest X.env)).any (·.1))=false;rw[jb];rfl) mG (T5 I hg hm ⟨rfl,?_⟩ jv)
 have hw:=ha i0 gV s σ H _ I h;rw[he]at hw ⊢;refine fG (thn hw λus s1 ⟨vs,H1,I1,r,hl,hq⟩=>?_);exact⟨rfl,by rw[← r.length];exact hl,I1.bk _ _ hC,hN.keeps I1.bk,T.keeps I1.bk,λh' e oS=>hE gV σ H1 s1 h' e _ _ I1 oS hq⟩
end
def Fun.okX{P:qM}{w:qN}{K:iC}{mg:iB}{base:qQ}{x qual:Str}{st:qR}{f:qJ}{fd:qP}{N ps:iM}{k:Nat}{sp:Sp}(F:Fun K x qual st f fd)(S:FnScope N ps (YC st))(len:∀vs H Q E,sp vs H Q E->vs.length=ps.length)(kq:∀(jz:qI) (A:qO) (outer:List Env) (s:qK) (H:Hp) (vs:iQ) (Q:VK) (E:XK),Room k (A.deeper (envOfC qual (YC st) s.heap.objs.size f jz))->sp vs H Q E ->
     ∃t,PSs (NC (CXw P w) P w K mg base N qual (YC st) f jz A outer s H E) (UY st) t/\t {nx:=λ_ H'=>Q .non H',rt:=Q} (start N vs) H):FnOk P w K mg base (CXw P w) (k+1) f fd ps sp:=by
 obtain⟨oc,od,kV,doc,pm,an,jz,ct,lR,rfl,lk,jS⟩:=F.ex;exact fn_of lk jS S len λA outer s H vs Q E hr k9=>kq jz A outer s H vs Q E hr k9
def GS{P:qM}{w:qN}{X:Cx}:XQ (CXw P w) X E0:=λ_ _ _ _ _ _ _ ⟨_,_,_,_,_,h⟩=>h.elim
section
variable{X:Cx}{gV:iD}{σ:St}
def PEat(X:Cx)(gV:iD)(σ:St)(e:qS)(t:TE):Prop:=
 ∀(s:qK) (H:Hp) (Q:VK),Inv X gV σ H s->t σ H Q->wpAny (model X.prog X.w) X.A (eval e X.env) (EP X gV σ Q) X.xe s
def PSat(X:Cx)(gV:iD)(σ:St)(st:qR)(t:TS):Prop:=
 ∀(s:qK) (H:Hp) (D:Ends),Inv X gV σ H s->t D σ H->wpAny (model X.prog X.w) X.A (exec st X.env) (SP X gV D) X.xe s
def OY(X:Cx)(gV:iD)(σ:St)(st:List qR)(t:TS):Prop:=
 ∀(s:qK) (H:Hp) (D:Ends),Inv X gV σ H s->t D σ H->wpAny (model X.prog X.w) X.A (execs st X.env) (SP X gV D) X.xe s
def WV(CX:CXT)(X:Cx)(gV:iD)(σ:St)(E:XK):Prop:=∀(H:Hp) (s:qK) (e:qI) (s':qK),Inv X gV σ H s->CX X.stack H s E e s'->X.xe e s'
end
section
variable{X:Cx}{gV:iD}{σ:St}{CX:CXT}{k:Nat}{f C:qJ}{fd:qP}{ps:iM}{sp:Sp}{dvs:iQ}{ds:iJ}{E:XK}{m:Str}{pos iY:Pos}{e o:qS}{es:iN}{ta:TE}{t:TA}
def K1{H:Hp}{s:qK}{Q:VK}{us:iJ}{vs:iQ}(F:FnOk X.prog X.w X.K X.mg X.base CX k f fd ps sp)(hr:Room k X.A)(hb:Binds X.K fd ps ds)(hd:Vals dvs ds)(hx:WV CX X gV σ E)(I:Inv X gV σ H s) (r:Vals vs us) (h:sp (vs++dvs) H Q E):wpAny (model X.prog X.w) X.A (call (.ref f) us) (EP X gV σ Q) X.xe s:=by
 have r2:Vals (vs++dvs) (us++ds):=r.append hd;have hl:(us++ds).length=ps.length:=by rw[← r2.length];exact F.len _ _ _ _ h
 refine gD (dY (F.run X.A X.stack s H ⟨us,[]⟩ (us++ds) (vs++dvs) Q E hr I.env0 (hb s us I.kIn hl) r2 h) λr s' hq=>?_);rcases r with ex|fl
 ·exact hx H s ex s' I hq
 ·cases fl with
  |ret u=>exact I.after hq
  |next=>exact(show False from hq).elim
  |brk=>exact(show False from hq).elim
  |cont=>exact(show False from hq).elim
def Ef{pl:Sem Bool}(he:PE X o ta)(c:Cls X.K C)(hm:Meth X.K C m f)(F:FnOk X.prog X.w X.K X.mg X.base CX k f fd ps sp)(hr:Room k X.A)(hb:Binds X.K fd ps ds)(hd:Vals dvs ds)(hx:WV CX X gV σ E)(ha:PA X (e::es) t)(jT:rA e es X:=by rfl) (jb:rB pos es X:=by rfl)(ht:eval (.Call (.Attribute o m iY) (e::es) [] pos) X.env=(do
     let ov ← eval o X.env
     standAt iY.atName
     let (f,first) ← holding [ov] (getMethod ov m pl)
     callWith pos f first (backTo pos (starEach (e::es) X.env)) (backToKw pos (keywordEach [] X.env))):=by rfl):
    PEat X gV σ (.Call (.Attribute o m iY) (e::es) [] pos) (GV C m sp dvs E ta t):=by
 intro s H Q I h;refine gu (pl:=pl) (thn (he gV s σ H _ I h) λu s1 ⟨x,H1,I1,rx,a,dx,fs,ex,ea,l,q⟩=>?_) ht;subst ex;cases (show u=Value.ref a from rx);refine S8 I1 ea c hm l ?_;refine eG (first:=[.ref a]) (h₀:=X.base) I.ok.mod.kin hm.kp (thn (ha pos gV s1 σ H1 _ I1 q) λus s2 ⟨vs,H2,I2,r,q2⟩=>⟨I2.kIn,?_⟩) jT jb;exact K1 (us:=.ref a::us) (vs:=.ref a::vs) F hr hb hd hx I2 (.cons rfl r) q2
def Ep{te:TE}(he:PEat X gV σ e te)(hs:rM e pos X:=by rfl):PSat X gV σ (.Expr e pos) (tDrop te):=by
 intro s H D I h;exact wpAny_Expr_any (thn (he s H _ I h) λu s1 ⟨x,H1,I1,_,q⟩=>⟨σ,H1,I1,q⟩) I.quiet hs
def A5{c:qS}{a b:List qR}{tc:TT}{t u:TS}(hc:PT X c tc)(ha:OY X gV σ a t)(hb:OY X gV σ b u):PSat X gV σ (.If c a b pos) (tIfS tc t u):=by
 intro s H D I h;refine wpAny_If (thn (hc gV s σ H _ I h) λk s1 ⟨H1,I1,q⟩=>?_);cases k with
 |true=>exact ha s1 H1 D I1 (by simpa using q)
 |false=>exact hb s1 H1 D I1 (by simpa using q)
def WE{st:qR}{t:TS}(h1:PSat X gV σ st t):OY X gV σ [st] t:=by
 intro s H D I h;refine wpAny_execs_cons (thn (h1 s H D I h) λf s1 q=>?_);cases f with
 |next=>obtain⟨i6,H',I',q'⟩:=q;exact eQ ⟨i6,H',I',q'⟩
 |brk=>exact q
 |cont=>exact q
 |ret u=>exact q
end
abbrev Cx.held(X:Cx)(a:qJ):Cx:={X with A:=X.A.mark (some (.ref a)),calm:=false,xe:=λ_ _=>False}
section
variable{X:Cx}{gV:iD}{σ:St}{H:Hp}{s:qK}{a:qJ}
def Cx.Ok.held(ok:X.Ok)(a:qJ):(X.held a).Ok:=
 ⟨ok.mod,ok.kind,ok.glob,ok.blt,ok.above,ok.inj,ok.has,ok.cab,(λh=>by cases h),ok.frames,ok.stk,ok.exf,ok.bs,ok.bsz,ok.noex,ok.exfs,ok.funs,ok.frf⟩
def Inv.held(I:Inv X gV σ H s)(a:qJ):Inv (X.held a) gV σ H s:=⟨I.ok.held a,I.os,I.bare,I.base,I.loc,I.cell,I.free,I.freeC,I.pin,I.hok,I.len⟩
def Inv.unheld(ok:X.Ok)(I:Inv (X.held a) gV σ H s):Inv X gV σ H s:=⟨ok,I.os,I.bare,I.base,I.loc,I.cell,I.free,I.freeC,I.pin,I.hok,I.len⟩
end
def FP(a C:qJ):HO:=.ext λh=>∃ob,h.get? a=some ob/\ob.cls=.ref C
section
variable{X:Cx}{gV:iD}{σ:St}{H H':Hp}{s s':qK}{h' B:qQ}
def Inv.flown(jL:X.ex=[])(I:Inv X gV σ H s)(I':Inv X gV σ H' s')(c1:∀b o ob,H' b=some o->s'.heap.get? b=some ob->B.get? b=some ob)(c2:∀b o ob,s.heap.get? b=some o->b ∉ frs X.stack->s'.heap.get? b=some ob->B.get? b=some ob) (st:B.StaysIn h') (up:s'.heap.UpToSlots h'):Inv X gV σ H' {s' with heap:=h'}:=by
 have nL:∀b,b ∉ X.fs->b≠X.env.locals->b ∉ frs X.stack:=λb h1 h2 hm=>(aN.mp (I.stkSub b hm)).elim h2 h1
 have ub:Un X.fs [] X.H₀ H X.s₀.heap s.heap:=jL ▸ I.base
 have ub':Un X.fs [] X.H₀ H' X.s₀.heap s'.heap:=jL ▸ I'.base
 have neL:∀b o,X.s₀.heap.get? b=some o->b≠X.env.locals:=λb o e=>aX (bE (aP e) I.ok.above)
 have cellK:∀c v,s'.heap.IsCell c v->h'.IsCell c v:=λc v ⟨o,ho,hd⟩=>by
  obtain⟨sl,q⟩:=up c o ho λvs z=>by rw[hd]at z;cases z
  exact⟨_,q,hd⟩
 refine⟨I'.ok,I'.os,I'.bare,jL ▸ ub'.on (λb o o1 e hb e1=>?_) (λb o o1 e hb e1=>?_),?_,λx c e=>?_,I'.free,I'.freeC,λp hp=>?_,I'.hok.flown c1 st,I'.len⟩
 ·obtain⟨o2,e2⟩:=ub.there b o e .(2)
  exact st _ _ (c2 b o2 o1 e2 (nL b hb (neL b o e)) e1)
 ·obtain⟨_,o',jh,lE⟩:=I'.funs.mem hb
  rw[e1]at jh;cases jh;exact up b o1 e1 lE
 ·obtain⟨m,hn,hl⟩:=I'.loc
  refine⟨m,up.ns hn,λi x v e1 e2 e3=>?_⟩;obtain⟨u,r,l⟩:=hl i x v e1 e2 e3;refine⟨u,r,?_⟩;rcases l with l|⟨k,c,e,z⟩
  ·exact .inl l
  ·exact .inr ⟨k,c,e,cellK c _ z⟩
 ·obtain⟨v,z⟩:=I'.cell x c e
  exact⟨v,cellK c v z⟩
 ·obtain⟨e,n,ne,nf,d⟩:=I'.pin p hp
  exact⟨st _ _ (c2 p.1 p.2 p.2 (I.pin p hp).1 (nL p.1 nf ne) e),n,ne,nf,d⟩
def Inv.track{a C:qJ}(jL:X.ex=[])(I:Inv X gV σ H s)(n0:X.s₀.heap.get? a=none)(na:H a=none)(np:∀p∈X.pn++gV,p.1≠a){ob:Obj}{vs:Array qI}(he:s.heap.get? a=some ob)(kQ:ob.cls=.ref C)(hd:ob.data=.fields vs):Inv X gV σ (upd H a (FP a C)) s:=by
 have ub:Un X.fs [] X.H₀ H X.s₀.heap s.heap:=jL ▸ I.base
 have ne:∀b o,X.s₀.heap.get? b=some o->b≠a:=λb o e z=>by rw[z,n0]at e;cases e
 have neH:∀b o,H b=some o->b≠a:=λb o e z=>by rw[z,na]at e;cases e
 refine⟨I.ok,I.os,I.bare,jL ▸ ⟨ub.keep,ub.slot,λb o e n hx=>?_,ub.there,λb xs e=>?_,λb o u e=>?_,λb ps e=>?_⟩,I.loc,I.cell,?_,λx c e=>?_,λp hp=>?_,λb o e=>?_,I.len⟩
 ·rw[Zy (ne b o e)];exact ub.free b o e n hx
 ·have q:=ub.tups b xs e
  rw[Zy (neH _ _ q)];exact q
 ·have q:=ub.frzs b o u e
  rw[Zy (neH _ _ q)];exact q
 ·obtain⟨m,q⟩:=ub.tbls b ps e
  exact⟨m,by rw[Zy (neH _ _ q)];exact q⟩
 ·have:X.env.locals≠a:=λz=>by
   obtain⟨m,⟨o,es,ep,ho,jW,_⟩,_⟩:=I.loc;rw[z,he]at ho;cases ho;rw[hd]at jW;cases jW
  rw[Zy this];exact I.free
 ·have:c≠a:=λz=>by
   obtain⟨v,o,ho,jW⟩:=I.cell x c e;rw[z,he]at ho;cases ho;rw[hd]at jW;cases jW
  rw[Zy this];exact I.freeC x c e
 ·obtain⟨e,n,n1,n2,d⟩:=I.pin p hp
  exact⟨e,by rw[Zy (np p hp)];exact n,n1,n2,d⟩
 ·by_cases hb:b=a
  ·subst hb
   rw[ZF]at e;cases e;exact⟨⟨ob,he,kQ⟩,⟨ob,he⟩,λh1 h2 ⟨o1,e1,e2⟩ k=>⟨o1,k o1 e1,e2⟩⟩
  ·rw[Zy hb]at e
   exact(I.hok b o e).stay (λc u _ q=>q) (λc q=>by rw[Zy (neH _ _ q)];exact q) λc xs q=>by rw[Zy (neH _ _ q)];exact q
def Fx{M:Model}{A:qO}{E:iA}{i:Nat}{n:Str}{pos:Pos}{Q:Unit->Shared->Prop}(I:Inv X gV σ H s)(hN:X.N.Nodup)(hi:X.N[i]?=some n)(hl:X.env.scope.names.lookup n=some .local)(h:∀s',Inv X gV (σ.set i none) H s'->Q () s'):wpAny M A (do bindName X.env n .none;unbindBehindTheSuite X.env n pos) Q E s:=by
 obtain⟨m,hn,oh⟩:=id I.loc;obtain⟨oL,es,ep,lZ,hr⟩:=id hn;have hcls:(X.env.scope.kind == .class || (X.env.scope.kind == .module&&X.env.locals != X.env.globals))=false:=by rw[I.ok.kind];rfl
 refine wpAny_nameGoes_keeps hl hn hcls λh' v lY hs=>h _ ?_
 have neL:∀b o,X.s₀.heap.get? b=some o->b≠X.env.locals:=λb o e=>aX (bE (aP e) I.ok.above)
 have hiσ:i < σ.length:=by rw[I.len];exact(aJ.mp hi).1
 refine⟨I.ok,I.os,I.bare,⟨λb o e n hb hx=>?_,λb o e n hb hx=>?_,I.base.free,λb o e hx=>?_,I.base.tups,I.base.frzs,I.base.tbls⟩,⟨_,lY,λj y v' e1 e2 e3=>?_⟩,λy c e=>?_,I.free,I.freeC,λp hp=>?_,λb ob e=>?_,by simpa using I.len⟩
 ·exact hs.2 b (neL b o e)<|I.base.keep b o e n hb hx
 ·obtain⟨sl,e1⟩:=I.base.slot b o e n hb hx
  exact⟨sl,hs.2 b (neL b o e)<|e1⟩
 ·obtain⟨o',e1⟩:=I.base.there b o e hx
  exact⟨o',hs.2 b (neL b o e)<|e1⟩
 ·by_cases hj:j=i
  ·subst hj
   rw[bQ hiσ]at e2;cases e2
  ·rw[bJ (cI hj)]at e2
   obtain⟨u',r',q⟩:=oh j y v' e1 e2 e3;refine⟨u',r',?_⟩;rcases q with ⟨k,e⟩|⟨k,c,e,z⟩
   ·refine .inl ⟨k,?_⟩
    have:y≠n:=λe=>hj (P5 hN e1 (e ▸ hi))
    simp[this,e]
   ·exact .inr ⟨k,c,e,z.sameBut hs (I.cne y c e)⟩
 ·obtain⟨w',z⟩:=I.cell y c e
  exact⟨w',z.sameBut hs (I.cne y c e)⟩
 ·obtain⟨e,n,ne,nf,d⟩:=I.pin p hp
  exact⟨hs.2 p.1 ne<|e,n,ne,nf,d⟩
 ·refine(I.hok b ob e).stay (λc w' hc q=>hs.2 c ?_<|q) (λ_ q=>q) λ_ _ q=>q
  rintro rfl;rcases hc with rfl|hc
  ·rw[I.free]at e;cases e
  ·rw[I.free]at hc;cases hc
end
section
variable{X:Cx}{P:qM}{w:qN}
def tTry(K:iC)(CE:qI)(i:Nat)(tb:XK->TS)(ts:qJ->TS):TS:=λD σ H=>∃E:XK,tb E D σ H/\∀cls o H',E cls o H'->∃C,cls=.ref C/\PySem.W.exmOne K (.ref C) CE=some true /\
 ∀a,H' a=none->ts a {nx:=λjy H2=>D.nx (jy.set i none) H2,rt:=D.rt,bk:=λjy H2=>D.bk (jy.set i none) H2,ct:=λjy H2=>D.ct (jy.set i none) H2} (σ.set i (some (.ref a))) (upd H' a (FP a C))
def ps_try{body:List qR}{x n:Str}{np jY pos:Pos}{kh:qR}{jG:List qR}{CE:qI}{i:Nat}{tb:XK->TS}{ts:qJ->TS}(hX:X.prog=P/\X.w=w)(jL:X.ex=[])(kx:X.stack=X.env::X.outer/\X.env.frame=some X.env.locals)(hN:X.N.Nodup) (hi:X.N[i]?=some n) (hl:X.env.scope.names.lookup n=some .local) (hg:Gl X x) (hm:X.mg x=some CE)(hb:∀(E:XK) (xe:iA) (gV:iD) (σ:St),WV (CXw P w) (X.wish xe) gV σ E->OY (X.wish xe) gV σ body (tb E))(hs:∀a,PSs (X.held a) (kh::jG) (ts a)) (jv:(x == ("__debug__":Str))=false:=by decide):PS X (.Try body [.ExceptHandler (some (.Name x np)) (some n) (kh::jG) jY] [] [] pos) (tTry X.K CE i tb ts):=by
 obtain⟨rfl,rfl⟩:=hX;intro gV s σ H D I h;obtain⟨E,qb,qc⟩:=h;refine wpAny_Try_except ?_
 refine cw (hb E (λe i4=>wpAny (model X.prog X.w) X.A (noteFrame e X.env) (λ_ ir=>wpAny (model X.prog X.w) X.A (setFlight e none) (λ_ jD=>wpAny (model X.prog X.w) X.A (handleBy e X.env [.ExceptHandler (some (.Name x np)) (some n) (kh::jG) jY]) (SP X gV D) X.xe jD) X.xe ir) X.xe i4)
  gV σ ?_ s H D (I.wish _) qb) (λf s1 q=>?_) λ_ _ q=>q
 ·intro H1 s1 e s' I1 ng
  obtain⟨a,cls,H',rfl,j6,hE⟩:=ng;obtain⟨C,rfl,oT,qs⟩:=qc cls none H' hE;have I1:=I1.unwish;have I2:Inv X gV σ H' s':=I1.call' (ch:=[]) j6.os j6.un j6.hok j6.bare (λ_ z=>nomatch z);obtain⟨B,a0,fl,c1,c2⟩:=j6.fl;have fl:Heap.FlyingW B X.stack a (.ref C) a0 s'.heap:=fl;rw[kx.1]at fl;have hfr:X.A.frames=some (X.env::X.outer):=by rw[← kx.1];exact I.ok.frames
  refine wpAny_looks_onW hfr kx.2 fl λh4 l7 oo=>?_
  refine wpAny_landsW l7 λh5 ky oq=>?_
  have I5:Inv X gV σ H' {s' with heap:=h5}:=Inv.flown jL I1 I2 c1 c2 ky.1 (oo<|oq);refine wpAny_handleBy_cons (codeAny_handlers_test (T5 (X:=X.held a) (I5.held a) hg hm ?_ jv)) (by intro q;cases q)
  have LT:PySem.W.Looks (model X.prog X.w) h5 (typeOf (.ref a)) (.ref C):=by
   obtain⟨ob,oU,hc⟩:=ky.there;rw[← hc];exact(PySem.W.Looks.ld oU).andThen .now
  refine(PySem.W.exm_one (K:=X.K) (I5.kIn) LT oT).here ?_;refine codeAny_handlers_suite_as ?_;refine lands_againW ky λh6 nh oV=>?_
  have I6:Inv X gV σ H' {s' with heap:=h6}:=Inv.flown jL I1 I2 c1 c2 nh.1 (oo.trans oq<|oV);obtain⟨oe,ws,ot,nk,l8,_⟩:=nh.first
  have nB:B.get? a=none:=nh.2.1
  have na:H' a=none:=by
   cases q:H' a with
   |none=>rfl
   |some o=>
    obtain⟨ob,e⟩:=(I2.hok a o q).ex;rw[c1 a o ob q e]at nB;cases nB
  have nfr:a ∉ frs X.stack:=λhm=>by
   obtain⟨_,o',jh,lE⟩:=I6.stack.mem hm;rw[ot]at jh;cases jh;exact lE _ l8
  have ns1:∀o,s1.heap.get? a=some o->False:=λo e=>by
   obtain⟨o2,e2⟩:=j6.un.there a o e .(2);rw[c2 a o o2 e nfr e2]at nB;cases nB
  have n0:X.s₀.heap.get? a=none:=by
   cases q:X.s₀.heap.get? a with
   |none=>rfl
   |some o=>
    obtain⟨o2,e2⟩:=I1.base.there a o q (by rw[jL];simp);exact(ns1 o2 e2).elim
  have npn:∀p∈X.pn++gV,p.1≠a:=λp hp z=>ns1 p.2 (by rw[← z];exact(I1.pin p hp).1)
  have I7:=(Inv.track (C:=C) jL I6 n0 na npn ot nk l8).held a;refine OH (X:=X.held a) I7 hN hi (.inl hl) (v:=.ref a) rfl (λs8 I8=>?_) (.inr hl);refine cw (hs a gV s8 _ _ _ I8 (qs a na)) (λf s9 q9=>?_) λ_ _ q=>(show False from q).elim
  have back:∀{lS:St} {H9:Hp} {R:Unit->Shared->Prop},Inv (X.held a) gV lS H9 s9->(∀kK,Inv X gV (lS.set i none) H9 kK->R () kK)->wpAny (model X.prog X.w) X.A (do bindName X.env n .none;unbindBehindTheSuite X.env n jY) R X.xe s9:=λI9 k=>
   Fx (Inv.unheld I.ok I9) hN hi hl k
  cases f with
  |next=>
   obtain⟨lS,H9,I9,q⟩:=q9;exact back I9 λkK lH=>⟨_,H9,lH,q⟩
  |brk=>
   obtain⟨lS,H9,I9,q⟩:=q9;exact back I9 λkK lH=>⟨_,H9,lH,q⟩
  |cont=>
   obtain⟨lS,H9,I9,q⟩:=q9;exact back I9 λkK lH=>⟨_,H9,lH,q⟩
  |ret u=>
   obtain⟨v,lS,H9,I9,r,q⟩:=q9;exact back I9 λkK lH=>⟨v,_,H9,lH,r,q⟩
 ·have q':SP X gV D f s1:=SP.unwish q
  cases f with
  |next=>obtain⟨i6,H',I',q1⟩:=q';exact eQ ⟨i6,H',I',q1⟩
  |brk=>exact q'
  |cont=>exact q'
  |ret u=>exact q'
end
structure ExcK(K:iC)(C:qJ):Prop where
 ga:PySem.W.findIn K (.ref C) "__getattribute__"=↑(.builtin "BaseException.__getattribute__")
 gt:PySem.W.findIn K (.ref C) "__getattr__"=some none
 cl:PySem.W.findIn K (.ref C) "__class__"=↑(.builtin "object.__class__")
 ob:PySem.W.mroIn K C (.type "object")=some true
 be:PySem.W.mroIn K C (.type "BaseException")=some true
 sp:PySem.W.specialIn K (.builtin "object.__class__") "__get__"=↑(.builtin "getset_descriptor.__get__")
 tk:PySem.W.takesIn K (.builtin "object.__class__")=some true
 is:(PySem.W.clsIn K C).isSome=true
section
open PySem.W Builtin Builtin.ObjectAttr Builtin.Getset_descriptor
variable{prog:qM}{w:qN}{A:qO}{E:iA}{h:qQ}{g:Array GenState}{d:Drawn}{t:Nat}{os:OsState}{K:Frag}{a C:qJ}{o:Obj}
def Rf{M:Model}(hx:h.get? a=some o)(hc:o.cls=.ref C):Looks M h (typeOf (.ref a)) (.ref C):=by
 rw[← hc];exact(Looks.ld hx).andThen .now
def xc_get{R:Result->Shared->Prop}{tp:qI}(X:K.In h)(F:ExcK K C)(hx:h.get? a=some o)(hc:o.cls=.ref C)(hq:R (.ok (.ret (.ref C))) ⟨h,g,d,t,os⟩):codeAny (model prog w) A (.call (.builtin "getset_descriptor.__get__") ⟨[.builtin "object.__class__",.ref a,tp],[]⟩) R ⟨h,g,d,t,os⟩:=by
 have T0:=Rf (M:=model prog w) hx hc;have T1:=looks_mroIn (M:=model prog w) X F.ob;refine gX KF.slot_gs.plain KF.entry_gs (KF.slot_gs.check _ _ _ _ _ _ _ _ KF.type_class (KF.args_gs _ _ _) ?_);unfold Builtin.«getset_descriptor.__get__» descrGet;rw[dga_obj];refine aA (aE ?_);unfold descrGetter descrCheckInstance descrNameAndClass isInstance;simp only[KF.owner_class]
 repeat lk
 refine⟨Code.quiet_builtin _ .(5),d6 KF.entry_class ?_⟩;unfold Builtin.«object.__class__» shownTypeOf
 repeat lk
 exact hq
def xc_find(X:K.In h)(F:ExcK K C){M:Model}:Looks M h (find (.ref a) (.ref C) "__class__") (.bind (.builtin "getset_descriptor.__get__") (.builtin "object.__class__")):=by
 have T1:=looks_findIn (M:=M) X F.cl;have T2:Looks M h (getOf (some (.builtin "object.__class__"))) (some (.builtin "getset_descriptor.__get__")):=looks_specialIn X F.sp;have T3:=looks_takesIn (M:=M) X F.tk;intro A' Q' E' s' k q;obtain⟨hh,g',d',t',lQ⟩:=s';have T1:=T1.keeps k;have T2:=T2.keeps k;have T3:=T3.keeps k;unfold find;refine aA (T1.at ?_);refine aA (T2.at ?_);unfold dataDescriptor?;refine aA (aA (T3.at ?_))
 repeat lk
 exact q
def C2{M:Model}{li:qI}{Q:Unit->Shared->Prop}(X:K.In h)(XF:ExcK K C)(hx:h.get? a=some o)(hc:o.cls=.ref C)(hq:Q () ⟨h,g,d,t,os⟩):wpAny M A (checkBuiltinCall "BaseException.__getattribute__" ⟨[.ref a,li],[]⟩) Q E ⟨h,g,d,t,os⟩:=by
 have e1:builtinKind "BaseException.__getattribute__"=some .slot:=by decide +kernel
 have e2:splitId "BaseException.__getattribute__"=some ("BaseException","__getattribute__"):=by decide +kernel
 have T0:=Rf (M:=M) hx hc;have T1:=looks_mroIn (M:=M) X XF.be;have T2:Looks M h (isInstance (.ref a) (.type "BaseException")) true:=T0.andThen T1;have e3:=PySem.F.args_bexc_ga (.ref a) li;simp only[checkBuiltinCall,e1,e2];refine aA (T2.at ?_)
 repeat (any_goals (first|assumption|wp_step))
def Be{tk:Tok}{Q:PySem.Fin->Shared->Prop}(X:K.In h)(XF:ExcK K C)(hx:h.get? a=some o)(hc:o.cls=.ref C)(hq:Q (.done (.ret (.ref C))) ⟨h,g,d,t,os⟩):wpAny (model prog w) A (Builtin.«object.__getattribute__» ⟨[.ref a,.str "__class__" tk],[]⟩) Q E ⟨h,g,d,t,os⟩:=by
 have T0:=Rf (M:=model prog w) hx hc;have T1:=xc_find (a:=a) X XF (M:=model prog w);unfold Builtin.«object.__getattribute__»;refine aA (aE ?_);refine aA (aE ?_);refine aA (T0.at ?_);refine aA (T1.at ?_);show wpAny _ _ (bindTo (.builtin "getset_descriptor.__get__") (.builtin "object.__class__") (.ref a) (.ref C)) _ _ _;unfold bindTo;refine aA (gD (xc_get X XF hx hc ?_));exact aE hq
def A3{s:qK}{Q:iP->Shared->Prop}(X:K.In s.heap)(XF:ExcK K C)(hx:s.heap.get? a=some o)(hc:o.cls=.ref C)(hq:Q (some (.ref C)) {s with toks:=s.toks+1}):wpAny (model prog w) A (getAttr? (.ref a) "__class__") Q E s:=by
 obtain⟨hh,g,d,t,os⟩:=s;have T0:=Rf (M:=model prog w) hx hc;have T1:=looks_findIn (M:=model prog w) X XF.ga;have T2:=looks_findIn (M:=model prog w) X XF.gt;have f3:=PySem.F.attr_ValueError.ga.bind (.ref a);unfold getAttr? getAttrBy? getAttrBy;refine aA (wpAny_mkText (aA (h8 (cz (aA (T0.at (aA (T1.at ?_))))))));show wpAny _ _ (getAttrByItsOwn (.ref a) _ (.ref C) (.builtin "BaseException.__getattribute__") false false) _ _ _;unfold getAttrByItsOwn;refine aA ?_;show wpAny _ _ (typeLookup (.ref C) "__getattr__") _ _ _;refine T2.at ?_;refine aA (h8 (cz ?_));show wpAny _ _ (boundAndCalled (.builtin "BaseException.__getattribute__") (.ref a) _) _ _ _;unfold boundAndCalled;refine aA (wpAny_of_eq f3 ?_);refine gD (gX PySem.F.attr_ValueError.ga.plain PySem.F.entry_bexc_ga (C2 X XF hx hc (Be X XF hx hc ?_)));exact aE (aE hq)
def DN(XF:ExcK K C):KitX K (.ref a) (.ref C) (λh=>∃o,h.get? a=some o/\o.cls=.ref C) where
 ty:=λ_ _ _ ⟨o,hx,hc⟩=>Rf hx hc
 it:=λ_ _ X _=>by
  obtain⟨cd,jS⟩:=aO.mp XF.is;unfold clsIn at jS;split at jS
  ·rename_i c' d' oW jc ho
   intro A' Q' E' s' k q;unfold isType loadHead;exact aA (wpAny_loadPart (k _ _ (X _ _ ho)) (aE q))
  ·cases jS
 ne:=λh tp dd iy n sl X oX=>by
  obtain⟨cd,jS⟩:=aO.mp XF.is;refine Bool.eq_false_iff.mpr λq=>?_
  cases (Value.ref.inj (cX.mp q));unfold clsIn at jS;split at jS
  ·rename_i c' d' oW jc ho
   have z:=(X _ _ ho).symm.trans oX;cases z
  ·cases jS
 ca:=λX ⟨o,hx,hc⟩ k=>A3 X XF hx hc k
end
section
variable{X:Cx}
def clsV:V->Option qI
 |.ref D=>some (.ref D)
 |.ty n=>some (.type n)
 |_=>none
def Cp{v:V}{c u:qI}(h:clsV v=some c)(r:RelV v u):u=c:=by
 cases v with
 |ref D=>cases h;exact r
 |ty n=>cases h;exact r
 |_=>cases h
def FG:CallR X (.builtin "isinstance") (λxs H Q=>∃a C cv c b,xs=[.ref a,cv]/\H a=some (FP a C)/\ExcK X.K C/\clsV cv=some c/\PySem.W.kitOne X.K (.ref C) c=some b/\Q (.bl b) H):=by
 intro gV s σ H xs us Q I r h;obtain⟨a,C,cv,c,b,rfl,ha,XF,hc,hk,q⟩:=h;obtain⟨u,v,rfl,ru,rv⟩:=Cv r;cases (show u=Value.ref a from ru);cases Cp hc rv;obtain⟨hp,_,_⟩:=I.hok a _ ha;exact PySem.W.kia_one (DN XF) I.kIn hp hk (λz=>nomatch z) λtk=>⟨.bl b,H,I.tok _,rfl,q⟩
end
def VQ(oc:Option Str)(n:qJ)(cl:iE):iE:=match oc with
 |none=>cl
 |some x=>(x,n)::cl
def Jc(oc:Option Str)(h:qQ):qQ:=match oc with
 |none=>h
 |some _=>h.push {cls:=.type "cell",data:=.cell none}
def Mo{oc:Option Str}{n c:qJ}{cl:iE}{y:Str}(h:(VQ oc n cl).lookup y=some c):(oc=some y/\c=n)\/cl.lookup y=some c:=by
 cases oc with
 |none=>exact .inr h
 |some x=>
  have h:((x,n)::cl).lookup y=some c:=h;rw[aH]at h;cases e:y == x with
  |true=>rw[e]at h;cases h;exact .inl ⟨by rw[cX.mp e],rfl⟩
  |false=>rw[e]at h;exact .inr h
def KN{oc:Option Str}{n:qJ}{cl:iE}{y:Str}(h:oc≠some y):(VQ oc n cl).lookup y=cl.lookup y:=by
 cases oc with
 |none=>rfl
 |some x=>
  show((x,n)::cl).lookup y=_;rw[aH,aU.mpr λz=>h (by rw[z])]
def N9{n:qJ}{cl:iE}{y:Str}:(VQ (some y) n cl).lookup y=some n:=by
 show((y,n)::cl).lookup y=_;rw[aH,beq_self_eq_true]
def Mm{cl:iE}:∀{names:List (Str × NameKind)},(∀y∈names,y.2≠.cell)->∀n,cellsFrom n names cl=VQ none n cl
 |[],_,_=>rfl
 |(x,k)::r,h,n=>by
  unfold cellsFrom;rw[aD (by have:=h _ (.head _);simpa using this)];exact Mm (λy hy=>h y (.tail _ hy)) n
def K2:∀{names:List (Str × NameKind)},(∀y∈names,y.2≠.cell)->∀h,pushCells h names=Jc none h
 |[],_,_=>rfl
 |(x,k)::r,h,n=>by
  unfold pushCells;rw[aD (by have:=h _ (.head _);simpa using this)];exact K2 (λy hy=>h y (.tail _ hy)) n
def Ag{M:Model}{A:qO}{E:iA}{s:qK}{scope:Scope}{env:Env}{cl:iE}{Q:Env->Shared->Prop}(hQ:Q {scope,locals:=s.heap.objs.size,globals:=env.globals,cells:=cellsFrom (s.heap.objs.size+1) scope.names cl,qual:=env.qual,func:=none,code:=env.code,frame:=env.frame,builtins:=env.builtins} {s with heap:=pushCells (s.heap.push {cls:=.type "dict",data:=.dict #[]}) scope.names}):wpAny M A (newFunctionEnv scope env.globals cl [] env.qual none .none (some env)) Q E s:=by
 simp only[newFunctionEnv,gM,if_true];refine aA (wpAny_alloc ?_);refine aA (wpAny_layCells _ (λname kind cells=>by cases hkc:kind == NameKind.cell <;> simp[hkc]) _ _ _ _ ?_);rw[show({s with heap:=s.heap.push {cls:=.type "dict",data:=.dict #[]}}:qK).heap.objs.size=s.heap.objs.size+1 from dQ ..];rw[List.forIn_nil];exact aA (aE (aE hQ))
def Tm(X:Cx)(jk:iN)(t:TT):Prop:=
 ∀(gV:iD) (s:qK) (σ:St) (H:Hp) (Q:Bool->Hp->Prop),Inv X gV σ H s->t σ H Q ->
  wpAny (model X.prog X.w) X.A (forIn jk true λc r=>if r=true then do let ok ← isTrue c X.env (eval c X.env);pure (ForInStep.yield ok) else pure (ForInStep.yield r)) (TP X gV σ Q) X.xe s
def tNoIf:TT:=λ_ H Q=>Q true H
def E7{X:Cx}:Tm X [] tNoIf:=λ_ _ _ H _ I h=>wpAny_tests_nil ⟨H,I,h⟩
def Br{X:Cx}{c:qS}{t:TT}(h:PT X c t):Tm X [c] t:=λgV s σ H Q I q=>wpAny_tests_one (h gV s σ H Q I q)
def Xr(names:List (Str × NameKind))(env:Env):iE:=names.foldl (λcs p=>if p.2 == .free then (match env.cells.lookup p.1 with|some c=>(p.1,c)::cs|none=>cs) else cs) []
def Qx(env:Env):∀(names:List (Str × NameKind)) (cs:iE),(∀p∈cs,env.cells.lookup p.1=some p.2) -> ∀p∈names.foldl (λcs p=>if p.2 == .free then (match env.cells.lookup p.1 with|some c=>(p.1,c)::cs|none=>cs) else cs) cs,env.cells.lookup p.1=some p.2
 |[],cs,h=>h
 |q::r,cs,h=>by
  refine Qx env r _ ?_;dsimp only;split
  ·split
   ·rename_i c e
    intro p hp;rcases aN.mp hp with rfl|hp
    ·exact e
    ·exact h p hp
   ·exact h
  ·exact h
def Vb(k:Option NameKind):Bool:=k == some .cell || k == some .free
def Ga{k:Option NameKind}(h:Vb k=true):k=some .cell\/k=some .free:=by
 unfold Vb at h;rcases Bool.or_eq_true_iff.mp h with q|q
 ·exact .inl (by simpa using q)
 ·exact .inr (by simpa using q)
abbrev Yt(X:Cx)(oc:Option Str)(scope:Scope)(cl:iE)(xs cn:iM)(C:qJ)(ir:qK)(iw:Hp)(fp:iI):Cx where
 prog:=X.prog
 w:=X.w
 K:=X.K
 mg:=X.mg
 base:=X.base
 A:=X.A
 N:=xs++cn
 s₀:=ir
 H₀:=iw
 env:=compEnvC scope (VQ oc (C+1) cl) C X.env
 outer:=X.stack
 stack:=X.stack
 ex:=fp
 fn:=λy=>decide (oc=some y)
 calm:=X.calm
 pn:=[]
 xe:=λ_ _=>False
def SM(js:iL)(σ:St):St:=js.map λj=>(σ[j]?).join
structure CompOkT(X:Cx)(oc:Option Str)(scope:Scope)(cl:iE)(xs cn:iM)(js:iL):Prop where
 clos:closureFor scope X.env=pure cl
 cs:∀n,cellsFrom n scope.names cl=VQ oc n cl
 pc:∀h,pushCells h scope.names=Jc oc h
 kind:scope.kind=.function
 names:∀y∈scope.names,y.2=.local->scope.names.lookup y.1=some .local
 sub:∀y c,cl.lookup y=some c->X.env.cells.lookup y=some c
 has:∀p∈(relabel scope X.env).names,p.2=.cell\/p.2=.free->oc=some p.1\/∃c,cl.lookup p.1=some c
 cap:∀(k:Nat) y,cn[k]?=some y->∃j,js[k]?=some j/\X.N[j]?=some y/\Vis X.env.scope y/\(X.env.kindOf y=some .cell\/X.env.kindOf y=some .free)/\((compEnvC scope cl 0 X.env).kindOf y=some .cell\/(compEnvC scope cl 0 X.env).kindOf y=some .free)
 own:∀y∈cn,oc≠some y
 len:js.length=cn.length
 nd:(xs++cn).Nodup
abbrev rC(cn:List Str)(js:List Nat)(X:Cx)(scope:Scope):=((cn.zip js).all λp=>(X.N[p.2]? == some p.1)&&Vb (X.env.scope.names.lookup p.1)&&Vb ((relabel scope X.env).names.lookup p.1))=true
def capOf{X:Cx}{scope:Scope}{cl:iE}{cn:iM}{js:iL}(len:js.length=cn.length)(cap:rC cn js X scope):∀(k:Nat) y,cn[k]?=some y->∃j,js[k]?=some j/\X.N[j]?=some y/\Vis X.env.scope y/\(X.env.kindOf y=some .cell\/X.env.kindOf y=some .free)/\((compEnvC scope cl 0 X.env).kindOf y=some .cell\/(compEnvC scope cl 0 X.env).kindOf y=some .free):=λk y e=>by
    have hk:k<cn.length:=(aJ.mp e).1;have hj:js[k]?=some (js[k]'.(0)):=aK _
    have hz:(y,js[k]'.(0))∈cn.zip js:=by
     refine bN (i:=k) ?_;rw[List.getElem?_zip_eq_some];exact⟨e,hj⟩
    have q:=cS.mp cap _ hz;simp only[bW,cX]at q;obtain⟨⟨q1,q2⟩,q3⟩:=q;have c2:=Ga q2;refine⟨_,hj,q1,?_,c2,Ga q3⟩;rcases c2 with z|z
    ·exact .inr (.inl z)
    ·exact .inr (.inr z)
def hasOf{X:Cx}{scope:Scope}{oc:Option Str}(has:((relabel scope X.env).names.all λp=>!(Vb (some p.2)) || (decide (oc=some p.1) || ((Xr scope.names X.env).lookup p.1).isSome))=true):∀p∈(relabel scope X.env).names,p.2=.cell\/p.2=.free->oc=some p.1\/∃c,(Xr scope.names X.env).lookup p.1=some c:=λp hp hk=>by
    have q:=cS.mp has p hp;have l9:Vb (some p.2)=true:=by rcases hk with z|z <;> rw[z] <;> rfl
    rw[l9,fP,fQ,dS,bY]at q;exact q.imp id aO.mp
abbrev rE(scope:Scope)(X:Cx):=((relabel scope X.env).names.all λp=>!(Vb (some p.2)) || (decide ((none:Option Str)=some p.1) || ((Xr scope.names X.env).lookup p.1).isSome))=true
abbrev rJ(scope:Scope)(X:Cx):=closureFor scope X.env=pure (Xr scope.names X.env)
def PH{X:Cx}{scope:Scope}{xs cn:iM}{js:iL}(clos:rJ scope X)(jt:∀y∈scope.names,y.2≠.cell)(kind:scope.kind=.function)(names:∀y∈scope.names,y.2=.local->scope.names.lookup y.1=some .local)(has:rE scope X) (len:js.length=cn.length)(cap:rC cn js X scope)(nd:(xs++cn).Nodup):CompOkT X none scope (Xr scope.names X.env) xs cn js:=
 ⟨clos,Mm jt,K2 jt,kind,names,λy c h=>Qx X.env scope.names [] (λ_ z=>(nomatch z)) (y,c) (cA h),hasOf has,capOf len cap,λ_ _ z=>(nomatch z),len,nd⟩
section
variable{X:Cx}{oc:Option Str}{scope:Scope}{cl:iE}{xs cn:iM}{js:iL}{gV:iD}{σ:St}{iw:Hp}{ir:qK}{fp:iI}
def CompOkT.ok(O:CompOkT X oc scope cl xs cn js)(I:Inv X gV σ iw ir)(hf:∀b∈fp,L4 X gV iw b){C:qJ}(hC:ir.heap.objs.size<=C)(ho:∀b∈fp,∃o,ir.heap.get? b=some o):(Yt X oc scope cl xs cn C ir iw fp).Ok where
 mod:=I.mod
 kind:=by show(relabel scope X.env).kind=.function;exact O.kind
 glob:=I.ok.glob
 blt:=I.ok.blt
 above:=hC
 inj:=λy z c h1 h2=>by
  have lt:∀y,cl.lookup y=some (C+1)->False:=λy h=>by
   obtain⟨v,o,e,_⟩:=I.cell y _ (O.sub y _ h);exact absurd (bE (aP e) hC) (gK.mpr (dF C))
  rcases Mo h1 with ⟨a,rfl⟩|a
  ·rcases Mo h2 with ⟨b,_⟩|b
   ·exact bM (a.symm<|b)
   ·exact(lt z b).elim
  ·rcases Mo h2 with ⟨b,rfl⟩|b
   ·exact(lt y a).elim
   ·exact I.ok.inj y z c (O.sub y c a) (O.sub z c b)
 has:=λy hy=>by
  have hy:(relabel scope X.env).names.lookup y=some .cell\/(relabel scope X.env).names.lookup y=some .free:=hy
  have q:oc=some y\/∃c,cl.lookup y=some c:=by
   rcases hy with hy|hy
   ·exact O.has _ (cA hy) (.inl rfl)
   ·exact O.has _ (cA hy) (.inr rfl)
  by_cases ho:oc=some y
  ·subst ho;exact⟨_,N9⟩
  ·obtain⟨c,e⟩:=q.resolve_left ho
   exact⟨c,KN ho<|e⟩
 cab:=λy c h e=>by
  have h:oc=some y:=bC h;subst h;have e:(VQ (some y) (C+1) cl).lookup y=some c:=e;rw[N9]at e;cases e;exact gZ hC
 hd:=I.ok.hd
 frames:=I.ok.frames
 stk:=.inl rfl
 exf:=λb hb=>by
  obtain⟨o,e⟩:=ho b hb;refine⟨aX (bE (aP e) hC),λy c h=>?_⟩;rcases Mo h with ⟨_,rfl⟩|h
  ·exact d8 (dc (bE (aP e) hC))
  ·exact(hf b hb).2.2.2.2.1 y c (O.sub y c h)
 bs:=I.bs
 bsz:=bL I.ok.bsz I.sz
 noex:=λb o e hb=>by
  rcases (hf b hb).2.2.2.1 with z|z
  ·exact I.ok.noex b o e z
  ·exact absurd (bE (aP e) (bL I.ok.bsz z)) (cV _)
 exfs:=λb hb hm=>(aN.mp (I.stkSub b hm)).elim (hf b hb).2.1 (hf b hb).2.2.1
 funs:=I.stack
 frf:=I.stkFree
def CompOkT.start(O:CompOkT X oc scope cl xs cn js)(I:Inv X gV σ iw ir)(hf:∀b∈fp,L4 X gV iw b)(ho:∀b∈fp,∃o,ir.heap.get? b=some o){jm:qQ}{m:iB}{tk:Nat}(mF:jm.Ns (ir.heap.objs.size+1) m) (hk:∀b o,ir.heap.get? b=some o->jm.get? b=some o) (hD:jm.get? ir.heap.objs.size=some {cls:=.type "list",data:=.seq ([]:iJ).toArray}) (nq:∀y,oc=some y->jm.IsCell (ir.heap.objs.size+1+1) none):Inv (Yt X oc scope cl xs cn (ir.heap.objs.size+1) ir iw fp) [] (List.replicate xs.length none++SM js σ) (upd iw ir.heap.objs.size (.lst [])) {ir with heap:=jm,toks:=tk}:=by
 have fD:iw ir.heap.objs.size=none:=I.hok.fresh (aM _);have fC:iw (ir.heap.objs.size+1)=none:=I.hok.fresh (dF _);have neD:ir.heap.objs.size+1≠ir.heap.objs.size:=Nat.succ_ne_self _;obtain⟨m0,qt,oY⟩:=I.loc;refine⟨O.ok I hf (dF _) ho,rfl,I.bare,?_,⟨m,mF,λi y v e1 e2 e3=>?_⟩,λy c e=>?_,?_,λy c e=>?_,(λp hp=>nomatch hp),?_,?_⟩
 ·exact Un.laid hk (aM _) fD
 ·have hi:xs.length<=i:=by
   by_cases h:i<xs.length
   ·rw[aZ (by simpa using h),dM,aC h]at e2
    cases e2
   ·omega
  rw[bK (by simpa using hi),dX]at e2
  have e1:cn[i-xs.length]?=some y:=by
   have e1:(xs++cn)[i]?=some y:=e1;rw[bK hi]at e1;exact e1
  ·obtain⟨j,hj,oZ,nr,j5,ki⟩:=O.cap _ y e1
   have e4:(σ[j]?).join=some v:=by
    have z:(js.map λj=>(σ[j]?).join)[i-xs.length]?=↑v:=e2;rw[bB,hj]at z;simpa using z
   have e5:σ[j]?=↑v:=by
    cases q:σ[j]? with
    |none=>rw[q]at e4;cases e4
    |some o=>rw[q]at e4;simp at e4;rw[e4]
   obtain⟨u,r,l⟩:=oY j y v oZ e5 nr;refine⟨u,r,.inr ⟨ki,?_⟩⟩;rcases l with ⟨kl,_⟩|⟨_,c,ec,z⟩
   ·rcases j5 with q|q
    ·rw[kl]at q;cases q
    ·rw[kl]at q;cases q
   ·have hown:=O.own y (bN e1)
    have hy:∃c',cl.lookup y=some c':=by
     rcases ki with q|q
     ·exact(O.has _ (cA (show(relabel scope X.env).names.lookup y=some .cell from q)) (.inl rfl)).resolve_left hown
     ·exact(O.has _ (cA (show(relabel scope X.env).names.lookup y=some .free from q)) (.inr rfl)).resolve_left hown
    obtain⟨c',ly⟩:=hy;have ecc:=O.sub y c' ly;rw[ec]at ecc;cases ecc;exact⟨c,KN hown<|ly,z.keeps hk⟩
 ·rcases Mo e with ⟨a,rfl⟩|e
  ·exact⟨none,nq y a⟩
  ·obtain⟨v,z⟩:=I.cell y c (O.sub y c e)
   exact⟨v,z.keeps hk⟩
 ·show upd iw ir.heap.objs.size (.lst []) (ir.heap.objs.size+1)=none
  rw[Zy neD];exact fC
 ·rcases Mo e with ⟨_,rfl⟩|e
  ·rw[Zy (d8 (dc (d9 _)))]
   exact I.hok.fresh (gZ (dF _))
  ·obtain⟨v,o,jh,_⟩:=I.cell y c (O.sub y c e)
   rw[Zy (aX (aP jh))];exact I.freeC y c (O.sub y c e)
 ·exact I.hok.laid hk (aM _) ⟨cF _,[],0,.nil,hD⟩
 ·show(List.replicate xs.length none++SM js σ).length=(xs++cn).length
  simp[SM,O.len]
end
def JQ{prog:qM}{w:qN}{A:qO}{R:Result->Shared->Prop}{s:qK}{jl target iz:qS}{jk:iN}{scope:Scope}{pos:Pos}{it i7:qI}{env:Env}(I:Nat->Shared->Prop)(turn:∀n s,I n s->wpAny (model prog w) A (pyNext it) (λr i4=>match r with
     |none=>R (.ok .next) i4
     | some v => wpAny (model prog w) A (letOwnedTupleGo target it v) (fun _ lj => wpAny (model prog w) A (assign target env v) (fun _ ir=>
         wpAny (model prog w) A (forIn jk true λc r=>if r=true then do let ok ← isTrue c env (eval c env);pure (ForInStep.yield ok) else pure (ForInStep.yield r)) (λok jD=>
          if ok=true then wpAny (model prog w) A (eval jl env) (λx kR=>wpAny (model prog w) A (call (.builtin "list.append") [i7,x]) (λ_ ma=>∃m,m<n/\I m ma) (λ_ _=>False) kR) (λ_ _=>False) jD
          else ∃m,m<n/\I m jD) (λ_ _=>False) ir) (λ_ _=>False) lj) (λ_ _=>False) i4) (λ_ _=>False) s)
    (n:Nat) (h:I n s):codeAny (model prog w) A (.compLoop (.ListComp jl [⟨target,iz,jk,0⟩] scope pos) 0 it i7 env) R s:=by
 refine codeAny_loop rfl I (λn s hI=>?_) n h;show wpAny _ A ((compTurn (.ListComp jl [⟨target,iz,jk,0⟩] scope pos) 0 it i7 env).onRaise (λx=>do noteFrame x env;theTreesLotGoes x)) _ _ s;refine wpAny_noted ?_;rw[compTurn_list];refine aA (wpAny_standAt (aA (cw (turn n s hI) (λr i4 jm=>?_) λ_ _ h'=>h'.elim)));cases r with
 |none=>exact aE jm
 |some v=>
  refine aA (cw jm (λ_ lj md=>?_) λ_ _ h'=>h'.elim);refine aA (cw md (λ_ ir kr=>aA (cw kr (λok jD j9=>?_) λ_ _ h'=>h'.elim)) λ_ _ h'=>h'.elim);cases ok with
  |false=>
   rw[aD aF]at j9;exact aE ⟨rfl,j9⟩
  |true=>
   rw[aC rfl]at j9;exact aA (aA (cw j9 (λx kR nt=>aA (cw nt (λ_ ma nv=>aE (aE ⟨rfl,nv⟩)) λ_ _ h'=>h'.elim)) λ_ _ h'=>h'.elim))
def LU(wi:TI)(n:Nat)(g:TG)(js:iL)(tc:qJ->Shared->Hp->List qJ->TT)(te:qJ->Shared->Hp->List qJ->TE):TE:=λσ H Q=>wi σ H λJ H1=>∀D,H1 D=none->∀C ir iw fp,∃W:Nat->Nat->List V->Hp->Prop,(∃m,W 0 m [] (upd H1 D (.lst [])))/\∀i m ys H2,W i m ys H2->H2 D=some (.lst ys) /\
 ((J.stop i H2/\Q (.ref D) H2)\/(J.go i H2/\∀x H',J.yld i H2 x H'->∀vs:St,vs.length=n->g x (vs++SM js σ) H' λjy H6=>(∃lm:St,lm.length=n/\jy=lm++SM js σ)/\tc C ir iw fp jy H6 λb H3=>if b=true then te C ir iw fp jy H3 λv H4=>H4 D=some (.lst ys)/\ys.length<sizeLine/\∃m',m'<m/\W (i+1) m' (ys++[v]) (upd H4 D (.lst (ys++[v])))
  else ∃m',m'<m/\W (i+1) m' ys H3))
section
variable{X:Cx}{oc:Option Str}{scope:Scope}{cl:iE}{xs cn:iM}{js:iL}{jl iz:qS}{jk:iN}{tg:qS}{g:TG}{pos:Pos}{wi:TI}{tc:qJ->Shared->Hp->List qJ->TT}{te:qJ->Shared->Hp->List qJ->TE}
def QN(O:CompOkT X oc scope cl xs cn js)(hc:X.calm=true)(hg:∀C ir iw fp,PG (Yt X oc scope cl xs cn C ir iw fp) tg g)(ht:∀C ir iw fp,Tm (Yt X oc scope cl xs cn C ir iw fp) jk (tc C ir iw fp))(he:∀C ir iw fp,PE (Yt X oc scope cl xs cn C ir iw fp) jl (te C ir iw fp)){gV:iD} {σ:St} {ir:qK} {lz:qI} {R:V->Hp->Prop} {RR:qI->Addr->Result->Shared->Prop} {E:iA}(h:PIE X gV σ (tg) (λJ H1=>∀D,H1 D=none->∀C ir iw fp,∃W:Nat->Nat->List V->Hp->Prop,(∃m,W 0 m [] (upd H1 D (.lst [])))/\∀i m ys H2,W i m ys H2->H2 D=some (.lst ys) /\
     ((J.stop i H2/\R (.ref D) H2)\/(J.go i H2/\∀x H',J.yld i H2 x H'->∀vs:St,vs.length=xs.length->g x (vs++SM js σ) H' λjy H6=>(∃lm:St,lm.length=xs.length/\jy=lm++SM js σ)/\tc C ir iw fp jy H6 λb H3=>if b=true then te C ir iw fp jy H3 λv H4=>H4 D=some (.lst ys)/\ys.length<sizeLine/\∃m',m'<m/\W (i+1) m' (ys++[v]) (upd H4 D (.lst (ys++[v])))
      else ∃m',m'<m/\W (i+1) m' ys H3))) lz ir)
    (o3:∀D C H' s',Inv X gV σ H' s'->R (.ref D) H'->H' C=none->C≠X.env.locals->X.s₀.heap.objs.size<=C->(∀y c,X.env.cells.lookup y=some c->c≠C)->(∀p∈X.pn++gV,p.1≠C)->(∃m,s'.heap.Ns C m)->RR (.ref D) C (.ok .next) s'):
    wpAny (model X.prog X.w) X.A (newList []) (λi7 jD=>wpAny (model X.prog X.w) X.A (newFunctionEnv scope X.env.globals cl [] X.env.qual none .none (some X.env)) (λme kR=>
     codeAny (model X.prog X.w) X.A (.compStart (.ListComp jl [⟨tg,iz,jk,0⟩] scope pos) 0 lz i7 {me with scope:=relabel scope X.env}) (RR i7 me.locals) kR) E jD) E ir:=by
 obtain⟨it,fp,tn,J,iw,rfl,I2,T,mC,f2,hR⟩:=h;have ho:∀b∈fp,∃o,ir.heap.get? b=some o:=λb hb=>let ⟨o,e,_⟩:=T.obj _ _ mC b hb;⟨o,e⟩
 obtain⟨W,⟨m0,w0⟩,turn⟩:=hR ir.heap.objs.size (I2.hok.fresh (aM _)) (ir.heap.objs.size+1) ir iw fp;refine dL (Ag ?_);dsimp only;generalize hH2:ir.heap.push {cls:=.type "list",dict:=none,data:=.seq ([]:iJ).toArray}=HH;have hsz:HH.objs.size=ir.heap.objs.size+1:=by rw[← hH2,dQ]
 rw[O.cs,O.pc];generalize hh₁:Jc oc (HH.push {cls:=.type "dict",data:=.dict #[]})=jm
 have hkp:∀b o,(HH.push {cls:=.type "dict",data:=.dict #[]}).get? b=some o->jm.get? b=some o:=λb o e=>by
  rw[← hh₁];cases oc with
  |none=>exact e
  |some _=>exact aL _ e
 have old:∀b o,ir.heap.get? b=some o->jm.get? b=some o:=λb o e=>hkp b o (aL _ (hH2 ▸ aL _ e))
 have hD:jm.get? ir.heap.objs.size=some {cls:=.type "list",data:=.seq ([]:iJ).toArray}:=hkp _ _ (aL _ (hH2 ▸ aW _ rfl))
 have hns₁:jm.Ns (ir.heap.objs.size+1) λ_=>none:=by
  rw[← hsz];exact(Heap.Ns.new HH (.type "dict")).keeps hkp
 have nq:∀y,oc=some y->jm.IsCell (ir.heap.objs.size+1+1) none:=λy e=>by
  subst e;have lP:(HH.push {cls:=.type "dict",data:=.dict #[]}).objs.size=ir.heap.objs.size+1+1:=by rw[dQ,hsz]
  rw[← hh₁,← lP];exact⟨_,aW _ rfl,rfl⟩
 show codeAny _ _ (.compStart _ 0 (.ref it) (.ref ir.heap.objs.size) (compEnvC scope (VQ oc (HH.objs.size+1) cl) HH.objs.size X.env)) (RR (.ref ir.heap.objs.size) HH.objs.size) _;rw[hsz];have I3:=O.start I2 f2 ho (tk:=ir.toks) hns₁ old hD nq;have st3:tn 0 jm:=T.keep 0 _ _ mC λb hb o e=>old b o e
 have fpD:∀b∈fp,b≠ir.heap.objs.size:=λb hb=>by obtain⟨o,e⟩:=ho b hb;exact aX (aP e)
 have stat:∀{pl:iD} {H':Hp},(∀b∈fp,H' b=none)->(∀p∈pl,∀b∈fp,p.1≠b)->∀b∈fp,L4 (Yt X oc scope cl xs cn (ir.heap.objs.size+1) ir iw fp) pl H' b:=λ{pl H'} hn hp b hb=>
  ⟨hn b hb,(I3.ok.exf b hb).1,λhm=>I3.ok.exfs b hb hm,.inl hb,(I3.ok.exf b hb).2,λp mf=>hp p (by simpa using mf) b hb⟩
 have loop : ∀ jD : qK,jD = { ir with heap:=jm } ->
     codeAny (model X.prog X.w) X.A (.compLoop (.ListComp jl [⟨tg,iz,jk,0⟩] scope pos) 0 (.ref it) (.ref ir.heap.objs.size) (compEnvC scope (VQ oc (ir.heap.objs.size+1+1) cl) (ir.heap.objs.size+1) X.env)) (RR (.ref ir.heap.objs.size) (ir.heap.objs.size+1)) jD:=by
  rintro jD rfl
  refine JQ (λn s'=>∃i ys vs H',vs.length=xs.length/\Inv (Yt X oc scope cl xs cn (ir.heap.objs.size+1) ir iw fp) [] (vs++SM js σ) H' s'/\tn i s'.heap/\(∀b∈fp,H' b=none)/\W i n ys H') ?_ m0
   ⟨0,[],_,_,dX,I3,st3,λb hb=>by rw[Zy (fpD b hb)];exact(f2 b hb).1,w0⟩
  rintro n s4 ⟨i,ys,v4,H4,hv4,I4,st4,fr4,w4⟩;obtain⟨qu,tr⟩:=turn i n ys H4 w4;rcases tr with ⟨stop,qn⟩|⟨go,step⟩
  ·refine cw (T.done (Yt X oc scope cl xs cn (ir.heap.objs.size+1) ir iw fp) rfl rfl rfl hc i [] s4 _ H4 (λ_ _=>False) I4 (stat fr4 (λ_ z=>nomatch z)) st4 stop) (λr s5 ⟨hr,I5⟩=>?_) λ_ _ q=>q
   subst hr;have I6:Inv X gV σ H4 s5:=I2.call' (ch:=fp) I5.os I5.base I5.hok I5.bare λb hb=>⟨(f2 b hb).2.2.2.1,(f2 b hb).2.1,(f2 b hb).2.2.2.2.1,(f2 b hb).2.2.2.2.2⟩
   obtain⟨m,hn,_⟩:=I5.loc;refine o3 _ _ H4 s5 I6 qn I5.free (d8 (dc I2.lt)) (gZ I2.sz) (λy c e z=>?_) (λp hp z=>?_) ⟨m,hn⟩
   ·obtain⟨v,o,jh,_⟩:=I2.cell y c e
    exact absurd (aP jh) (by rw[z];exact gK.mpr (dF _))
   ·exact absurd (aP (I2.pin p hp).1) (by rw[z];exact gK.mpr (dF _))
  ·refine cw (T.item (Yt X oc scope cl xs cn (ir.heap.objs.size+1) ir iw fp) rfl rfl rfl hc i [] s4 _ H4 (λ_ _=>False) I4 (stat fr4 (λ_ z=>nomatch z)) st4 go) (λr s4' ⟨u,hr,h5⟩=>?_) λ_ _ q=>q
   subst hr;refine cw h5 (λ_ s5 ⟨x5,H5,I5,r5,y5,st5,fr5⟩=>?_) λ_ _ q=>q
   have I5p:=I5.pinned (stat fr5 (λ_ z=>nomatch z)) (T.obj _ _ st5);refine cw (hg _ _ _ _ _ s5 _ H5 x5 u _ I5p r5 (step x5 H5 y5 v4 hv4)) (λ_ s6 ⟨σ6,H6,I6,⟨vs6,hv6,e6⟩,q6⟩=>?_) λ_ _ q=>q
   subst e6
   have again:∀{s7:qK} {H7:Hp},Inv (Yt X oc scope cl xs cn (ir.heap.objs.size+1) ir iw fp) ([]++RZ fp s5.heap) (vs6++SM js σ) H7 s7->tn (i+1) s7.heap/\∀b∈fp,H7 b=none:=λ{s7 H7} I7=>by
    refine⟨T.keep _ _ _ st5 λb hb o e=>(I7.pin (b,o) (cy _ (cy _ (U1 hb e)))).1,λb hb=>?_⟩;obtain⟨o,e,d⟩:=T.obj _ _ st5 b hb;exact(I7.pin (b,o) (cy _ (cy _ (U1 hb e)))).2.1
   refine cw (ht _ _ _ _ _ s6 _ H6 _ I6 q6) (λok s7 ⟨H7,I7,q7⟩=>?_) λ_ _ q=>q
   cases ok with
   |false=>
    rw[aD aF];rw[aD aF]at q7;obtain⟨m',hm,w7⟩:=q7;obtain⟨o4,o5⟩:=again I7;exact⟨m',hm,i+1,ys,vs6,H7,hv6,I7.unpinned,o4,o5,w7⟩
   |true=>
    rw[aC rfl];rw[aC rfl]at q7;refine cw (he _ _ _ _ _ s7 _ H7 _ I7 q7) (λu8 s8 ⟨v8,H8,I8,r8,hD8,hz8,m',hm,w8⟩=>?_) λ_ _ q=>q
    obtain⟨qv,qw⟩:=again I8;obtain⟨z8,iy,k8,ou,e8⟩:=I8.hok _ _ hD8;have hl8:=ou.length;refine append_at (E:=λ_ _=>False) (hsz:=by rw[bD];omega) e8 λh9 o6 e9=>?_
    have I9:Inv (Yt X oc scope cl xs cn (ir.heap.objs.size+1) ir iw fp) ([]++RZ fp s5.heap) (vs6++SM js σ) (upd H8 ir.heap.objs.size (.lst (ys++[v8]))) {s8 with heap:=h9}:=by
     refine I8.write (x:=ir.heap.objs.size) (e:=ir.heap.objs.size) (t':=s8.toks) (by rw[hD8];exact True.intro) (.inl rfl) (λb u hb q=>o6.2 b hb<|q) ⟨_,e9⟩ ?_;refine⟨by rw[aV,gv];omega,iy++[u8],k8+1,ou.append (.cons r8 .nil),?_⟩;rw[e9,List.push_toArray]
    obtain⟨o7,o8⟩:=again I9;exact⟨m',hm,i+1,ys++[v8],vs6,_,hv6,I9.unpinned,o7,o8,w8⟩
 exact codeAny_compStart_list (loop _ rfl) (T.self _ 0 _ _ _ st3 (loop _ rfl))
def Kw(O:CompOkT X oc scope cl xs cn js)(hc:X.calm=true)(hg:∀C ir iw fp,PG (Yt X oc scope cl xs cn C ir iw fp) tg g)(hi:PI X (tg) iz wi)(ht:∀C ir iw fp,Tm (Yt X oc scope cl xs cn C ir iw fp) jk (tc C ir iw fp))(he:∀C ir iw fp,PE (Yt X oc scope cl xs cn C ir iw fp) jl (te C ir iw fp))(hs:∀v,foldedSetIterable iz X.env v=pure v:=by intro _;rfl):PE X (.ListComp jl [⟨tg,iz,jk,0⟩] scope pos) (LU wi xs.length g js tc te):=by
 intro gV s σ H Q I h;rw[eval_ListComp];refine wpAny_comprehension_free (use:=none) rfl hs O.clos O.kind O.names (thn (hi gV s σ H _ I h) λv s1 h1=>thn h1 λlz s2 h2=>?_);refine QN O hc hg ht he (R:=Q) (RR:=λi7 C=>compPost (model X.prog X.w) X.A X.xe none (EP X gV σ Q) i7 C) h2 ?_;intro D C H' s' I' q hC hL h0 kQ hp ⟨m,hn⟩;refine⟨m,hn,λo9 lI=>⟨.ref D,H',?_,rfl,q⟩⟩;exact I'.turned (t':=s'.toks) (λb o hb e=>lI.2 b hb<|e) hC hL (.inr h0) kQ hp
def Mj(j:Nat)(wi:TI)(n:Nat)(g:TG)(js:iL)(tc:qJ->Shared->Hp->List qJ->TT)(te:qJ->Shared->Hp->List qJ->TE):TS:=λD σ H=>LU wi n g js tc te σ H λv H1=>D.nx (σ.set j (some v)) H1
abbrev rH(X:Cx)(y):=X.fn y=true\/X.env.scope.names.lookup y=some .local
def QI{j:Nat}{y:Str}{py ju:Pos}(O:CompOkT X oc scope cl xs cn js)(hc:X.calm=true)(hg:∀C ir iw fp,PG (Yt X oc scope cl xs cn C ir iw fp) tg g)(hi:PI X (tg) iz wi)(ht:∀C ir iw fp,Tm (Yt X oc scope cl xs cn C ir iw fp) jk (tc C ir iw fp))(he:∀C ir iw fp,PE (Yt X oc scope cl xs cn C ir iw fp) jl (te C ir iw fp))(hN:X.N.Nodup) (hj:X.N[j]?=some y) (hy:Loc X.env.scope y) (kz:swapsWith (.ListComp jl [⟨tg,iz,jk,0⟩] scope pos) (some (.Name y py)) ju.line X.env=pure true)(hs:∀v,foldedSetIterable iz X.env v=pure v:=by intro _;rfl) (hf:rH X y:=by first|exact .inl rfl|exact .inr rfl):PS X (.Assign [.Name y py] (.ListComp jl [⟨tg,iz,jk,0⟩] scope pos) ju) (Mj j wi xs.length g js tc te):=by
 intro gV s σ H D I h;rw[exec_Assign_Name_used _ _ _ _ kz];refine aA (wpAny_standAt (aA ?_));show wpAny _ X.A (do let _ ← comprehension (.ListComp jl [⟨tg,iz,jk,0⟩] scope pos) scope X.env _ (newList []) false (eval iz X.env) (some (assign (.Name y py) X.env))) _ _ s
 refine aA (cw (wpAny_comprehension_free (use:=some (assign (.Name y py) X.env)) (Q:=λ_ s'=>SP X gV D .next s') rfl hs O.clos O.kind O.names
  (thn (hi gV s σ H _ I h) λv s1 h1=>thn h1 λlz s2 h2=>?_)) (λ_ s' hq=>aE (aE hq)) λ_ _ e=>e)
 refine QN O hc hg ht he (R:=λv H1=>D.nx (σ.set j (some v)) H1) (RR:=λi7 C=>compPost (model X.prog X.w) X.A X.xe (some (assign (.Name y py) X.env)) (λ_ s'=>SP X gV D .next s') i7 C) h2 ?_;intro DD C H' s' I' q hC hL h0 kQ hp ⟨m,hn⟩;show wpAny _ X.A (assign (.Name y py) X.env (.ref DD)) _ _ s';refine wpAny_assign_Name (N1 I' hN hj hy (v:=.ref DD) rfl (λs3 I3 ⟨a,hsb,ha⟩=>?_) hf)
 have nCa:C≠a:=λz=>by
  rcases ha with e|e
  ·exact hL (z<|e)
  ·exact kQ _ _ e z.symm
 refine⟨m,hn.sameBut hsb nCa,λo9 lI=>⟨_,H',?_,q⟩⟩;exact I3.turned (t':=s3.toks) (λb o hb e=>lI.2 b hb<|e) hC hL (.inr h0) kQ hp
end
abbrev Xx(X:Cx)(oc:Option Str)(scope:Scope)(cl:iE)(x:Str)(cn:iM)(C:qJ)(ir:qK)(iw:Hp)(fp:iI):Cx:=Yt X oc scope cl [x] cn C ir iw fp
def S3(js:iL)(v:Option V)(σ:St):St:=v::js.map λj=>(σ[j]?).join
structure CompOk(X:Cx)(oc:Option Str)(scope:Scope)(cl:iE)(x:Str)(cn:iM)(js:iL):Prop where
 T:CompOkT X oc scope cl [x] cn js
 hx:(relabel scope X.env).names.lookup x=some .local\/(oc=some x/\(relabel scope X.env).names.lookup x=some .cell)
def Ea{X:Cx}{scope:Scope}{x:Str}{cn:iM}{js:iL}(clos:rJ scope X)(jt:∀y∈scope.names,y.2≠.cell)(kind:scope.kind=.function)(names:∀y∈scope.names,y.2=.local->scope.names.lookup y.1=some .local) (hx:scope.names.lookup x=some .local)(has:rE scope X) (len:js.length=cn.length)(cap:rC cn js X scope)(nd:(x::cn).Nodup):CompOk X none scope (Xr scope.names X.env) x cn js:=⟨PH clos jt kind names has len cap nd,.inl (lookup_relabel_local hx)⟩
def Ij{X:Cx}{scope:Scope}{x:Str}{cn:iM}{js:iL}(clos:rJ scope X)(cs:∀n,cellsFrom n scope.names (Xr scope.names X.env)=VQ (some x) n (Xr scope.names X.env))(pc:∀h,pushCells h scope.names=Jc (some x) h)(kind:scope.kind=.function)(names:∀y∈scope.names,y.2=.local->scope.names.lookup y.1=some .local) (hx:(relabel scope X.env).names.lookup x=some .cell)(has:((relabel scope X.env).names.all λp=>!(Vb (some p.2)) || (decide (some x=some p.1) || ((Xr scope.names X.env).lookup p.1).isSome))=true) (len:js.length=cn.length)(cap:rC cn js X scope)(nd:(x::cn).Nodup):CompOk X (some x) scope (Xr scope.names X.env) x cn js:=
 ⟨⟨clos,cs,pc,kind,names,λy c h=>Qx X.env scope.names [] (λ_ z=>(nomatch z)) (y,c) (cA h),hasOf has,capOf len cap,λy hy z=>(cL.mp nd).1 (bM z ▸ hy),len,nd⟩,.inr ⟨rfl,hx⟩⟩
def CompOk.pg{X:Cx}{oc:Option Str}{scope:Scope}{cl:iE}{x:Str}{cn:iM}{js:iL}{px:Pos}(O:CompOk X oc scope cl x cn js)(C:qJ)(ir:qK)(iw:Hp)(fp:iI):PG (Xx X oc scope cl x cn C ir iw fp) (.Name x px) (Nd 0):=by
 rcases O.hx with h|⟨h,h2⟩
 ·exact Y0 O.T.nd rfl (.inl h) (.inr h)
 ·exact Y0 O.T.nd rfl (.inr h2) (.inl (bG h))
def Ky(wi:TI)(js:iL)(tc:qJ->Shared->Hp->List qJ->TT)(te:qJ->Shared->Hp->List qJ->TE):TE:=λσ H Q=>wi σ H λJ H1=>∀D,H1 D=none->∀C ir iw fp,∃W:Nat->Nat->List V->Hp->Prop,(∃m,W 0 m [] (upd H1 D (.lst [])))/\∀i m ys H2,W i m ys H2->H2 D=some (.lst ys) /\
 ((J.stop i H2/\Q (.ref D) H2)\/(J.go i H2/\∀x H',J.yld i H2 x H'->tc C ir iw fp (S3 js (some x) σ) H' λb H3=>if b=true then te C ir iw fp (S3 js (some x) σ) H3 λv H4=>H4 D=some (.lst ys)/\ys.length<sizeLine/\∃m',m'<m/\W (i+1) m' (ys++[v]) (upd H4 D (.lst (ys++[v])))
  else ∃m',m'<m/\W (i+1) m' ys H3))
def Jl(wi:TI)(js:iL)(tc:qJ->Shared->Hp->List qJ->TT)(te:qJ->Shared->Hp->List qJ->TE):LU wi 1 (Nd 0) js tc te=Ky wi js tc te:=by
 funext σ H Q;refine cE (wi σ H) (funext λJ=>funext λH1=>?_);refine cR λD=>cR λhD=>cR λC=>cR λir=>cR λiw=>cR λfp=>?_
 refine cE Exists (funext λW=>cE (_/\·) (cR λi=>cR λm=>cR λys=>cR λH2=>cR λhW=>cE (_/\·) (cE (_\/·) (cE (_/\·) (cR λx=>cR λH'=>cR λhy=>propext ⟨λh=>(h [none] rfl).2,λh vs hv=>?_⟩)))))
 match vs,hv with
 |[v],_=>exact⟨⟨[some x],rfl,rfl⟩,h⟩
section
variable{X:Cx}{oc:Option Str}{scope:Scope}{cl:iE}{x:Str}{cn:iM}{js:iL}{jl iz:qS}{jk:iN}{px pos:Pos}{wi:TI}{tc:qJ->Shared->Hp->List qJ->TT}{te:qJ->Shared->Hp->List qJ->TE}
def GR(O:CompOk X oc scope cl x cn js)(hc:X.calm=true)(hi:PI X (.Name x px) iz wi)(ht:∀C ir iw fp,Tm (Xx X oc scope cl x cn C ir iw fp) jk (tc C ir iw fp))(he:∀C ir iw fp,PE (Xx X oc scope cl x cn C ir iw fp) jl (te C ir iw fp))(hs:∀v,foldedSetIterable iz X.env v=pure v:=by intro _;rfl):PE X (.ListComp jl [⟨.Name x px,iz,jk,0⟩] scope pos) (Ky wi js tc te):=Jl wi js tc te ▸ Kw O.T hc O.pg hi ht he hs
def DS(j:Nat)(wi:TI)(js:iL)(tc:qJ->Shared->Hp->List qJ->TT)(te:qJ->Shared->Hp->List qJ->TE):TS:=λD σ H=>Ky wi js tc te σ H λv H1=>D.nx (σ.set j (some v)) H1
def O7{j:Nat}{y:Str}{py ju:Pos}(O:CompOk X oc scope cl x cn js)(hc:X.calm=true)(hi:PI X (.Name x px) iz wi)(ht:∀C ir iw fp,Tm (Xx X oc scope cl x cn C ir iw fp) jk (tc C ir iw fp))(he:∀C ir iw fp,PE (Xx X oc scope cl x cn C ir iw fp) jl (te C ir iw fp))(hN:X.N.Nodup) (hj:X.N[j]?=some y) (hy:Loc X.env.scope y) (kz:swapsWith (.ListComp jl [⟨.Name x px,iz,jk,0⟩] scope pos) (some (.Name y py)) ju.line X.env=pure true)(hs:∀v,foldedSetIterable iz X.env v=pure v:=by intro _;rfl) (hf:rH X y:=by first|exact .inl rfl|exact .inr rfl):PS X (.Assign [.Name y py] (.ListComp jl [⟨.Name x px,iz,jk,0⟩] scope pos) ju) (DS j wi js tc te):=by
 have h:=QI O.T hc O.pg hi ht he hN hj hy kz hs hf;unfold Mj at h;rw[show([x]:iM).length=1 from rfl,Jl]at h;exact h
end
section
variable{X:Cx}{gV:iD}{σ:St}{H:Hp}{s:qK}
def Inv.freeze{d:qJ}{ob:Obj}{ks:List (Key × V)}(I:Inv X gV σ H s)(hd:H d=some (.dK ks))(ho:s.heap.get? d=some ob):Inv X gV σ (upd H d (.frz ob (.dK ks))) s:=by
 have old:∀b x,H b=some x->(∀ys,x≠.dK ys)->upd H d (.frz ob (.dK ks)) b=some x:=λb x e n=>by
  have hb:b≠d:=λz=>by rw[z,hd]at e;exact n ks (bM e).symm
  rw[Zy hb];exact e
 have ow:∀b a,H b=some (.own a)->upd H d (.frz ob (.dK ks)) b=some (.own a):=λb a e=>old b _ e λ_ z=>by cases z
 have tu:∀b xs,H b=some (.tup xs)->upd H d (.frz ob (.dK ks)) b=some (.tup xs):=λb a e=>old b _ e λ_ z=>by cases z
 refine I.un (h':=s.heap) (t':=s.toks) (H':=upd H d (.frz ob (.dK ks))) ⟨λb o e n _ _=>e,λb o e n _ _=>⟨o.slots,e⟩,λb o e n _=>?_,λb o e _=>⟨o,e⟩,tu,λb o u e=>old b _ e (λ_ z=>by cases z),λb ps e=>⟨#[],?_⟩⟩ (λb x e=>?_)
 ·rw[Zy (cI (Z5 hd n))];exact n
 ·rw[Array.append_empty];exact old b _ e (λ_ z=>by cases z)
 ·by_cases hb:b=d
  ·rw[hb,ZF]at e
   cases e;rw[hb];exact⟨ho,(I.hok d _ hd).stay (λ_ _ _ q=>q) (λc q=>ow c _ q) λc xs q=>tu c xs q⟩
  ·rw[Zy hb]at e
   exact(I.hok b x e).stay (λ_ _ _ q=>q) (λc q=>ow c _ q) λc xs q=>tu c xs q
def Inv.nofrz{d:qJ}{ks:List (Key × V)}(I:Inv X gV σ H s)(hd:H d=some (.dK ks)):∀o u,X.H₀ d≠some (.frz o u):=λo u z=>by
 have:=I.base.frzs d o u z;rw[hd]at this;cases this
def Inv.thaw{d:qJ}{ob:Obj}{ks:List (Key × V)}(I:Inv X gV σ H s)(hd:H d=some (.frz ob (.dK ks)))(nf:∀o u,X.H₀ d≠some (.frz o u)):Inv X gV σ (upd H d (.dK ks)) s:=by
 have old:∀b x,H b=some x->b≠d->upd H d (.dK ks) b=some x:=λb x e n=>by rw[Zy n];exact e
 have nn:∀b,H b=none->upd H d (.dK ks) b=none:=λb n=>by rw[Zy (cI (Z5 hd n))];exact n
 have tu:∀b xs,H b=some (.tup xs)->upd H d (.dK ks) b=some (.tup xs):=λb xs e=>old b _ e λz=>by rw[z,hd]at e;cases e
 have ow:∀b a,H b=some (.own a)->upd H d (.dK ks) b=some (.own a):=λb xs e=>old b _ e λz=>by rw[z,hd]at e;cases e
 refine⟨I.ok,I.os,I.bare,⟨I.base.keep,I.base.slot,λb o e n hx=>nn b (I.base.free b o e n hx),I.base.there,λb xs e=>tu b xs (I.base.tups b xs e),λb o u e=>old b _ (I.base.frzs b o u e) (λz=>nf o u (z ▸ e)),λb ps e=>?_⟩,
  I.loc,I.cell,nn _ I.free,λx c e=>nn c (I.freeC x c e),λp hp=>?_,λb x e=>?_,I.len⟩
 ·obtain⟨more,e1⟩:=I.base.tbls b ps e
  exact⟨more,old b _ e1 λz=>by rw[z,hd]at e1;cases e1⟩
 ·obtain⟨h1,h2,h3⟩:=I.pin p hp
  exact⟨h1,nn _ h2,h3⟩
 ·by_cases hb:b=d
  ·rw[hb,ZF]at e
   cases e;rw[hb];obtain⟨_,q⟩:=(show s.heap.get? d=some ob/\ObjOk X.prog X.w H s.heap d (.dK ks) from I.hok d _ hd);exact q.stay (λ_ _ _ q=>q) (λc q=>ow c _ q) λc xs q=>tu c xs q
  ·rw[Zy hb]at e
   exact(I.hok b x e).stay (λ_ _ _ q=>q) (λc q=>ow c _ q) λc xs q=>tu c xs q
end
def AK{k:Key}{v:qI}(h:OX k v=true):RelV (kV k) v:=by
 rcases YS h with ⟨i,t,rfl,rfl⟩|⟨x,t,rfl,rfl⟩
 ·exact⟨t,rfl⟩
 ·exact⟨t,rfl⟩
def GB{α γ:Type}{R:α->γ->Prop}:∀{xs:List α} {ys:List γ} {i:Nat} {x:α} {y:γ},Paired R xs ys->xs[i]?=some x->ys[i]?=some y->R x y
 |_,_,_,_,_,.nil,e,_=>by simp at e
 |_,_,0,_,_,.cons h _,e1,e2=>by simp at e1 e2;subst e1 e2;exact h
 |_,_,i+1,_,_,.cons _ r,e1,e2=>GB (i:=i) r (by simpa using e1) (by simpa using e2)
def Itd(d:qJ)(ob:Obj)(ks:List (Key × V)):It:=
 ⟨λi H=>H d=some (.frz ob (.dK ks))/\i<ks.length,λi H x H'=>H'=H/\∃p,ks[i]?=some p/\x=kV p.1,λi H=>H d=some (.frz ob (.dK ks))/\ks.length<=i⟩
def TnD(d:qJ)(ob:Obj)(it:qJ)(i:Nat)(h:qQ):Prop:=∃es ep,h.IsKeyIter it d i es.size ep/\ob.data=.dict es ep
def dk_at{P:qM}{w:qN}{H:Hp}{h:qQ}{d:qJ}{ob:Obj}{ks:List (Key × V)}{es:Array DictEntry}{ep:Nat}(ok:HOk P w H h)(hd:H d=some (.frz ob (.dK ks)))(jn:ob.data=.dict es ep):∃ws,KV ks ws/\h.DictAt (ZZ P w) d ws ep/\es.size=ws.length:=by
 obtain⟨ho,z,hS,ws,r,m⟩:=(show h.get? d=some ob/\ks.length<=sizeLine/\(d == sysModules)=false/\∃vs,KV ks vs/\h.DictOf (ZZ P w) d vs from ok d _ hd);obtain⟨o',jK,kG,jh,jL,ln,hk,hp,hn⟩:=m;rw[ho]at jh;cases jh;rw[jn]at ln;injection ln with e1 e2
 subst e1 e2;refine⟨ws,r,⟨ob,es,ho,jL,jn,hk,hp,hn⟩,?_⟩;have:=hp.length;simpa using this
def Ms{P:qM}{w:qN}{K:iC}{tg:qS}(d it:qJ)(ob:Obj)(ks:List (Key × V)):Turn P w K tg (Itd d ob ks) [it] it (TnD d ob it) where
 mem:=by simp
 obj:=λi h ⟨es,ep,st,_⟩ b hb=>by
  have e:b=it:=by simpa using hb
  subst e;obtain⟨o,e,c,d⟩:=st;exact⟨o,e,λv z=>by rw[d]at z;cases z⟩
 keep:=λi h h' ⟨es,ep,⟨o,e,c,q⟩,hd⟩ k=>⟨es,ep,⟨o,k it .(2) o e,c,q⟩,hd⟩
 item:=by
  intro X hP hw hK hc i gV s σ H E I hf st hg;subst hP hw hK;obtain⟨hd,hi⟩:=hg;obtain⟨es,ep,lJ,jn⟩:=st;obtain⟨ws,r,hm,hsz⟩:=dk_at I.hok hd jn;have hl:ks.length=ws.length:=r.length;have hiw:i<ws.length:=by omega
  obtain⟨f0,f1,f2,f3,f4,f5⟩:=hf it .(2);rw[hsz]at lJ;refine wpAny_pyNext_dict_item (knd:=ZZ X.prog X.w) (kvs:=ws) (k:=ws[i].1) (v:=ws[i].2) lJ hm (aK hiw) λkey h' lB mh sb=>?_
  have I1:Inv X gV σ H {s with heap:=h'}:=I.turned (t':=s.toks) (λb o hb e=>sb.2 b hb<|e) f0 f1 f3 f4 f5;obtain⟨oi,e1,c1,d1⟩:=id mh;obtain⟨g1,_⟩:=GB r (aK hi) (aK hiw);refine⟨key,rfl,DJ (s:={s with heap:=h'}) e1 c1 d1 .(1) ⟨kV ks[i].1,H,I1,?_,⟨rfl,ks[i],aK hi,rfl⟩,⟨es,ep,by rw[hsz];exact mh,jn⟩,λb hb=>(hf b hb).1⟩⟩;rw[g1];exact AK lB
 done:=by
  intro X hP hw hK hc i gV s σ H E I hf st hg;subst hP hw hK;obtain⟨hd,hi⟩:=hg;obtain⟨es,ep,lJ,jn⟩:=st;obtain⟨ws,r,hm,hsz⟩:=dk_at I.hok hd jn;have hl:ks.length=ws.length:=r.length;obtain⟨f0,f1,f2,f3,f4,f5⟩:=hf it .(2);rw[hsz]at lJ;exact wpAny_pyNext_dict_end (knd:=ZZ X.prog X.w) (kvs:=ws) (I.ok.hd hc) lJ hm (bP .(0)) λh' eb=>⟨rfl,I.turned (t':=s.toks) (λb o hb e=>eb b o hb e) f0 f1 f3 f4 f5⟩
 self:=λ_ _ _ _ _ ⟨_,_,st,_⟩ h=>wpAny_pyIter_keyiter st h
section
variable{X:Cx}{tg:qS}
def iDict(X:Cx)(tl:TE):TI:=λσ H R=>tl σ H λx H1=>∃d ks,x=.ref d/\((H1 d=some (.dK ks)/\∀ob,(∀o u,X.H₀ d≠some (.frz o u))->R (Itd d ob ks) (upd H1 d (.frz ob (.dK ks))))\/∃ob,H1 d=some (.frz ob (.dK ks))/\R (Itd d ob ks) H1)
def MC{l:qS}{tl:TE}(hl:PE X l tl):PI X tg l (iDict X tl):=by
 intro gV s σ H R I h;refine thn (hl gV s σ H _ I h) λv s1 ⟨x,H1,I1,r1,q1⟩=>?_
 obtain⟨d,ks,e,q⟩:=q1;subst e;cases r1;rcases q with ⟨hd,q⟩|⟨ob,hd,q⟩
 ·obtain⟨z,hS,ws,r,m⟩:=(show ks.length<=sizeLine/\(d == sysModules)=false/\∃vs,KV ks vs/\s1.heap.DictOf (ZZ X.prog X.w) d vs from I1.hok d _ hd)
  obtain⟨ob,es,ep,ho,jL,jn,hk,hp,hn⟩:=m;have hsz:es.size=ws.length:=by have:=hp.length;simpa using this
  have I2:=I1.freeze hd ho;refine im (knd:=ZZ X.prog X.w) (kvs:=ws) (ep:=ep) hS ⟨ob,es,ho,jL,jn,hk,hp,hn⟩ ?_;refine⟨s1.heap.objs.size,[s1.heap.objs.size],_,_,_,rfl,I2.kept (t':=s1.toks) λb o e=>aL _ e,Ms d _ ob ks,⟨es,ep,⟨_,aW _ rfl,rfl,by rw[hsz];rfl⟩,jn⟩,λb hb=>?_,q ob (I1.nofrz hd)⟩;have e:b=s1.heap.objs.size:=by simpa using hb
  subst e;exact I2.fpOk (aM _) (I2.hok.fresh (aM _))
 ·obtain⟨ho,z,hS,ws,r,m⟩:=(show s1.heap.get? d=some ob/\ks.length<=sizeLine/\(d == sysModules)=false/\∃vs,KV ks vs/\s1.heap.DictOf (ZZ X.prog X.w) d vs from I1.hok d _ hd)
  obtain⟨pd,es,ep,jh,jL,jn,hk,hp,hn⟩:=m;rw[ho]at jh;cases jh;have hsz:es.size=ws.length:=by have:=hp.length;simpa using this
  refine im (knd:=ZZ X.prog X.w) (kvs:=ws) (ep:=ep) hS ⟨ob,es,ho,jL,jn,hk,hp,hn⟩ ?_;refine⟨s1.heap.objs.size,[s1.heap.objs.size],_,_,_,rfl,I1.kept (t':=s1.toks) λb o e=>aL _ e,Ms d _ ob ks,⟨es,ep,⟨_,aW _ rfl,rfl,by rw[hsz];rfl⟩,jn⟩,λb hb=>?_,q⟩;have e:b=s1.heap.objs.size:=by simpa using hb
  subst e;exact I1.fpOk (aM _) (I1.hok.fresh (aM _))
def Thawed(X:Cx)(Q:Hp->Prop)(H2:Hp):Prop:=(∃d ob ks,(∀o u,X.H₀ d≠some (.frz o u))/\H2 d=some (.frz ob (.dK ks))/\Q (upd H2 d (.dK ks)))\/Q H2
def Thawed.inv{Q:Hp->Prop}{gV:iD}{σ:St}{H:Hp}{s:qK}(h:Thawed X Q H)(I:Inv X gV σ H s):∃H',Inv X gV σ H' s/\Q H':=by
 rcases h with ⟨d,ob,ks,nf,hd,q⟩|q
 ·exact⟨_,I.thaw hd nf,q⟩
 ·exact⟨H,I,q⟩
def BJ{e:qS}{t:TE}(h:PE X e t):PE X e (λσ H Q=>t σ H λv=>Thawed X (Q v)):=λgV s σ H Q I q=>
 thn (h gV s σ H _ I q) λv s1 ⟨x,H1,I1,r1,q1⟩=>let ⟨H2,I2,q2⟩:=q1.inv I1;⟨x,H2,I2,r1,q2⟩
def HJ(X:Cx)(D:Ends):Ends:=⟨λσ=>Thawed X (D.nx σ),λv=>Thawed X (D.rt v),λσ=>Thawed X (D.bk σ),λσ=>Thawed X (D.ct σ)⟩
def AR{gV:iD}{D:Ends}{f:Flow}{s:qK}(h:SP X gV (HJ X D) f s):SP X gV D f s:=by
 cases f with
 |next=>obtain⟨σ,H,I,q⟩:=h;obtain⟨H2,I2,q2⟩:=Thawed.inv q I;exact⟨σ,_,I2,q2⟩
 |brk=>obtain⟨σ,H,I,q⟩:=h;obtain⟨H2,I2,q2⟩:=Thawed.inv q I;exact⟨σ,_,I2,q2⟩
 |cont=>obtain⟨σ,H,I,q⟩:=h;obtain⟨H2,I2,q2⟩:=Thawed.inv q I;exact⟨σ,_,I2,q2⟩
 |ret u=>obtain⟨v,σ,H,I,r,q⟩:=h;obtain⟨H2,I2,q2⟩:=Thawed.inv q I;exact⟨v,σ,_,I2,r,q2⟩
def Gy{e:qR}{t:TS}(h:PS X e t):PS X e (λD σ H=>t (HJ X D) σ H):=λgV s σ H D I q=>thn (h gV s σ H _ I q) λf s1 z=>AR z
def Us:∀{xs:iQ} {us:iJ} {ns:iK},xs=ns.map V.int->Vals xs us->IntsAre us ns
 |_,_,[],e,r=>by subst e;cases r;exact .nil
 |_,_,n::ns,e,r=>by
  subst e;cases r with
  |cons h r=>
   obtain⟨t,rfl⟩:=(show ∃t,_=Value.int n t from h);exact .cons n t (Us rfl r)
def Lw:∀{us:iJ} {ns:iK},IntsAre us ns->Vals (ns.map V.int) us
 |_,_,.nil=>.nil
 |_,_,.cons n t r=>.cons ⟨t,rfl⟩ (Lw r)
def CN(K:iC):iQ->Hp->VK->Prop:=λxs H Q=>∃(l:qJ) (ns:iK),xs=[.ref l]/\SqL K H l (ns.map V.int)/\ns.length<64/\∀(p:qJ) (ms:iK),ms.Perm ns->ms.Pairwise (·<=·)->H p=none->Q (.ref p) (upd H p (.lst (ms.map V.int)))
def IT:CallR X (.builtin "sorted") (CN X.K):=by
 intro gV s σ H xs us Q I r h;obtain⟨l,ns,rfl,hl,kS,q⟩:=h;obtain⟨u,rfl,ru⟩:=So r;cases (show u=Value.ref l from ru);obtain⟨iy,rv,p,hz⟩:=I.list hl;have hI:=Us rfl rv;have iZ:iy.length=ns.length:=by have:=rv.length;rw[aB]at this;exact this.symm
 refine sorted_ints (vs:=iy) (ns:=ns) p.isList hI .(0) λout ms a1 a2 a3=>?_
 obtain⟨e,he⟩:=sortedAll_at s.heap iy out;refine⟨.ref (s.heap.objs.size+1),_,I.laid (o:=.lst (ms.map V.int)) (t':=s.toks) (λ_ _=>sortedAll_old) (dF _) ?_,rfl,q _ ms a2 a3 (I.hok.fresh (dF _))⟩;have hl2:ms.length=ns.length:=a2.length_eq;refine⟨by rw[aB,cG];omega,out.toList,e,Lw a1,?_⟩;rw[he]
def Md:∀{xs:iQ} {us:iJ} {bs:iO},xs=bs.map V.bl->Vals xs us->LSm.BoolsAre us bs
 |_,_,[],e,r=>by subst e;cases r;exact .nil
 |_,_,b::bs,e,r=>by
  subst e;cases r with
  |cons h r=>
   cases (show _=Value.bool b from h);exact .cons b (Md rfl r)
def rAnyB(K:iC)(g:iO->Bool):iQ->Hp->VK->Prop:=λxs H Q=>∃(l:qJ) (bs:iO),xs=[.ref l]/\SqL K H l (bs.map V.bl)/\Q (.bl (g bs)) H
def G3(hc:X.calm=true):CallR X (.builtin "any") (rAnyB X.K λbs=>bs.any id):=by
 intro gV s σ H xs us Q I r h;obtain⟨l,bs,rfl,hl,q⟩:=h;obtain⟨u,rfl,ru⟩:=So r;cases (show u=Value.ref l from ru);obtain⟨iy,rv,p,hz⟩:=I.list hl;have hb:=Md rfl rv;have hp:=p.isList;have jg:l<s.heap.objs.size:=by obtain⟨_,e,_⟩:=hp;exact aP e
 refine call_any_walk (il hp ⟨s.heap.objs.size,[s.heap.objs.size,l],[s.heap.objs.size],iy.toArray.size,_,_,λj=>(bs[j]?).getD false,rfl,Walks.list (A:=X.A.in1) (I.ok.hd hc) _ l (aX jg) iy.toArray,
  ⟨⟨_,aW _ rfl,rfl,rfl⟩,hp.push _⟩,λj v s' Q' E' hP hQ=>?_,λh' tk hk=>?_⟩)
 ·obtain⟨b,e,rfl⟩:=hb.get j v (by simpa using hP)
  simp only[e,g8]at hQ;exact dr hQ
 ·have e:((List.range iy.toArray.size).any λj=>(bs[j]?).getD false)=bs.any id:=by
   rw[bD,hb.length];exact LSm.range_any bs
  rw[e];exact⟨.bl _,H,I.kept (t':=tk) (LSm.kept_iter hk),rfl,q⟩
end
inductive Wv where
 |non|bl (b:Bool)|int (i:Int)|str (x:Str)|lst (ws:List Wv)|tup (ws:List Wv)|o (h:Nat)|g (a:qJ)
abbrev iR:=List Wv
abbrev iS:=List (Str × Wv)
abbrev iT:=List (List Key × Wv)
abbrev iU:=List (Key × Wv)
inductive Ob where
 |ins (C:qJ) (fs:iS)|lst (ws:iR)|dk (kvs:iU)|dt (kvs:iT)|exc (C:qJ)|dz (kvs:iU)
abbrev iV:=List Ob
section
variable(F:Hp)(β:iI)
mutual
inductive RW:Wv->V->Prop
 |non:RW .non .non
 |bl (b:Bool):RW (.bl b) (.bl b)
 |int (i:Int):RW (.int i) (.int i)
 |str (x:Str):RW (.str x) (.str x)
 |lst {a:qJ} {xs:iQ} {ws:iR} (e:Rd F a (.lst xs)) (r:RWs ws xs):RW (.lst ws) (.ref a)
 |tup {a:qJ} {xs:iQ} {ws:iR} (e:F a=some (.tup xs)) (r:RWs ws xs):RW (.tup ws) (.ref a)
 |o {h:Nat} {a:qJ} (e:β[h]?=some a):RW (.o h) (.ref a)
 |g (a:qJ):RW (.g a) (.ref a)
inductive RWs:iR->List V->Prop
 |nil:RWs [] []
 |cons {w:Wv} {ws:iR} {v:V} {vs:iQ} (h:RW w v) (r:RWs ws vs):RWs (w::ws) (v::vs)
end
end
structure Gr(F F':Hp)(β iX:iI):Prop where
 same:Same F F'
 pre:∀(h:Nat) (a:qJ),β[h]?=some a->iX[h]?=some a
def Gr.refl(F:Hp)(β:iI):Gr F F β β:=⟨Same.refl _,λ_ _ e=>e⟩
def Gr.trans{F F1 F2:Hp}{β ix jo:iI}(a:Gr F F1 β ix)(b:Gr F1 F2 ix jo):Gr F F2 β jo:=⟨a.same<|b.same,λh x e=>b.pre h x (a.pre h x e)⟩
def Rd.same{H H':Hp}{a:qJ}{u:HO}(s:Same H H')(r:Rd H a u):Rd H' a u:=r.elim (λe=>.inl (s _ _ e)) λ⟨o,e⟩=>.inr ⟨o,s _ _ e⟩
mutual
def RW.mono{F F':Hp}{β iX:iI}(g:Gr F F' β iX):∀{w:Wv} {v:V},RW F β w v->RW F' iX w v
 |_,_,.non=>.non
 |_,_,.bl b=>.bl b
 |_,_,.int i=>.int i
 |_,_,.str x=>.str x
 |_,_,.lst e r=>.lst (Rd.same g.same e) (RWs.mono g r)
 |_,_,.tup e r=>.tup (g.same _ _ e) (RWs.mono g r)
 |_,_,.o e=>.o (g.pre _ _ e)
 |_,_,.g a=>.g a
def RWs.mono{F F':Hp}{β iX:iI}(g:Gr F F' β iX):∀{ws:iR} {vs:iQ},RWs F β ws vs->RWs F' iX ws vs
 |_,_,.nil=>.nil
 |_,_,.cons h r=>.cons (RW.mono g h) (RWs.mono g r)
end
section
variable{F:Hp}{β:iI}
def RWs.length:∀{ws:iR} {vs:iQ},RWs F β ws vs->ws.length=vs.length
 |_,_,.nil=>rfl
 |_,_,.cons _ r=>by rw[bI,bI,RWs.length r]
def RWs.get:∀{ws:iR} {vs:iQ} {i:Nat} {w:Wv},RWs F β ws vs->ws[i]?=some w->∃v,vs[i]?=some v/\RW F β w v
 |_,_,_,_,.nil,e=>by simp at e
 |_,_,0,_,.cons h _,e=>by simp at e;subst e;exact⟨_,rfl,h⟩
 |_,_,i+1,w,.cons _ r,e=>by
  obtain⟨v,h1,h2⟩:=RWs.get (i:=i) (w:=w) r (by simpa using e);exact⟨v,by simpa using h1,h2⟩
def RWs.append:∀{ws us:iR} {vs xs:iQ},RWs F β ws vs->RWs F β us xs->RWs F β (ws++us) (vs++xs)
 |_,_,_,_,.nil,s=>s
 |_,_,_,_,.cons h r,s=>.cons h (RWs.append r s)
def RWs.set{w:Wv}{v:V}(h:RW F β w v):∀{ws:iR} {vs:iQ} (i:Nat),RWs F β ws vs->RWs F β (ws.set i w) (vs.set i v)
 |_,_,_,.nil=>.nil
 |_,_,0,.cons _ r=>.cons h r
 |_,_,i+1,.cons q r=>.cons q (RWs.set h i r)
def RWs.rep{ws:iR}{vs:iQ}(h:RWs F β ws vs):∀k:Nat,RWs F β (List.replicate k ws).flatten (List.replicate k vs).flatten
 |0=>.nil
 |k+1=>by rw[cO,cO,dH,dH];exact h.append (RWs.rep h k)
end
inductive RK (F:Hp) (β:iI) {κ:Type}:List (κ × Wv)->List (κ × V)->Prop
 |nil:RK F β [] []
 |cons {k:κ} {w:Wv} {v:V} {ps:List (κ × Wv)} {qs:List (κ × V)} (h:RW F β w v) (r:RK F β ps qs):RK F β ((k,w)::ps) ((k,v)::qs)
def RK.mono{F F':Hp}{β iX:iI}{κ:Type}(g:Gr F F' β iX):∀{ps:List (κ × Wv)} {qs:List (κ × V)},RK F β ps qs->RK F' iX ps qs
 |_,_,.nil=>.nil
 |_,_,.cons h r=>.cons (h.mono g) (RK.mono g r)
def ObR(F H:Hp)(β:iI)(a:qJ):Ob->Prop
 |.ins C fs=>∃dx jE,H a=some (.ins C dx jE)/\RK F β fs jE
 |.lst ws=>∃xs,H a=some (.lst xs)/\RWs F β ws xs
 |.dk kvs=>∃ks,H a=some (.dK ks)/\RK F β kvs ks
 |.dt kvs=>∃ks,H a=some (.dT ks)/\RK F β kvs ks
 |.exc C=>H a=some (FP a C)
 |.dz kvs=>∃o ks,H a=some (.frz o (.dK ks))/\RK F β kvs ks
def ObR.mono{F F' H H':Hp}{β iX:iI}{a:qJ}(g:Gr F F' β iX)(e:H' a=H a):∀{ob:Ob},ObR F H β a ob->ObR F' H' iX a ob
 |.ins C fs,⟨dx,jE,h,r⟩=>⟨dx,jE,e<|h,r.mono g⟩
 |.lst ws,⟨xs,h,r⟩=>⟨xs,e<|h,r.mono g⟩
 |.dk kvs,⟨ks,h,r⟩=>⟨ks,e<|h,r.mono g⟩
 |.dt kvs,⟨ks,h,r⟩=>⟨ks,e<|h,r.mono g⟩
 |.exc C,h=>e<|h
 |.dz kvs,⟨o,ks,h,r⟩=>⟨o,ks,e<|h,r.mono g⟩
def ObR.ex{F H:Hp}{β:iI}{a:qJ}:∀{ob:Ob},ObR F H β a ob->∃x,H a=some x
 |.ins C fs,⟨dx,jE,h,r⟩=>⟨_,h⟩
 |.lst ws,⟨xs,h,r⟩=>⟨_,h⟩
 |.dk kvs,⟨ks,h,r⟩=>⟨_,h⟩
 |.dt kvs,⟨ks,h,r⟩=>⟨_,h⟩
 |.exc C,h=>⟨_,h⟩
 |.dz kvs,⟨o,ks,h,r⟩=>⟨_,h⟩
def ndx{α:Type}{l:List α}(hN:l.Nodup){i j:Nat}{x:α}(a:l[i]?=some x)(b:l[j]?=some x):i=j:=by
 obtain⟨ha,ea⟩:=aJ.mp a;obtain⟨hb,eb⟩:=aJ.mp b;have hp:=dC.mp hN;rcases Nat.lt_trichotomy i j with h|h|h
 ·exact absurd (ea<|eb.symm) (hp i j ha hb h)
 ·exact h
 ·exact absurd (eb<|ea.symm) (hp j i hb ha h)
structure MOk(F H:Hp)(β:iI)(om:iV):Prop where
 sub:Same F H
 nd:β.Nodup
 len:β.length=om.length
 free:∀(h:Nat) (a:qJ),β[h]?=some a->F a=none
 ob:∀(h:Nat) (a:qJ) (x:Ob),β[h]?=some a->om[h]?=some x->ObR F H β a x
section
variable{F H:Hp}{β:iI}{om:iV}
def MOk.at(M:MOk F H β om){h:Nat}{x:Ob}(e:om[h]?=some x):∃a,β[h]?=some a/\F a=none/\ObR F H β a x:=by
 have hl:h < β.length:=by rw[M.len];exact(aJ.mp e).1
 have e1:β[h]?=some β[h]:=aK hl;exact⟨_,e1,M.free h _ e1,M.ob h _ x e1 e⟩
def MOk.there(M:MOk F H β om){h:Nat}{a:qJ}(e:β[h]?=some a):∃x,H a=some x:=by
 have hl:h<om.length:=by rw[← M.len];exact(aJ.mp e).1
 exact(M.ob h a _ e (aK hl)).ex
def MOk.newF{p:qJ}{o:HO}(M:MOk F H β om)(hp:H p=none):Gr F (upd F p o) β β/\MOk (upd F p o) (upd H p o) β om:=by
 have fp:F p=none:=M.sub.free hp;have g:Gr F (upd F p o) β β:=⟨λb u e=>by rw[Zy (Z5 e fp)];exact e,λ_ _ e=>e⟩
 have ne:∀(h:Nat) (a:qJ),β[h]?=some a->a≠p:=λh a e z=>by
  obtain⟨x,hx⟩:=M.there e;rw[z,hp]at hx;cases hx
 refine⟨g,λb u e=>?_,M.nd,M.len,λh a e=>by rw[Zy (ne h a e)];exact M.free h a e,λh a x e1 e2=>(M.ob h a x e1 e2).mono g (Zy (ne h a e1))⟩;by_cases hb:b=p
 ·subst hb;rw[ZF]at e ⊢;exact e
 ·rw[Zy hb]at e ⊢;exact M.sub b u e
def MOk.newO{p:qJ}{o:HO}{x:Ob}(M:MOk F H β om)(hp:H p=none)(hx:∀iX,Gr F F β iX->ObR F (upd H p o) iX p x):Gr F F β (β++[p])/\MOk F (upd H p o) (β++[p]) (om++[x])/\(β++[p])[om.length]?=some p:=by
 have fp:F p=none:=M.sub.free hp
 have ne:∀(h:Nat) (a:qJ),β[h]?=some a->a≠p:=λh a e z=>by
  obtain⟨y,hy⟩:=M.there e;rw[z,hp]at hy;cases hy
 have g:Gr F F β (β++[p]):=⟨Same.refl _,λh a e=>by rw[aZ (aJ.mp e).1];exact e⟩;have last:(β++[p])[om.length]?=some p:=by rw[← M.len,bK (aM _),fq];rfl
 have cs:∀(h:Nat) (a:qJ),(β++[p])[h]?=some a->β[h]?=some a\/(h=om.length/\a=p):=λh a e=>by
  by_cases hl:h < β.length
  ·rw[aZ hl]at e;exact .inl e
  ·rw[bK .(0)]at e
   have:h - β.length=0:=by
    have:=(aJ.mp e).1;simp at this;omega
   rw[this]at e;refine .inr ⟨by rw[← M.len];omega,by simpa using e.symm⟩
 refine⟨g,⟨λb u e=>by rw[Zy (Z5 e fp)];exact M.sub b u e,?_,by simp[M.len],λh a e=>?_,λh a y e1 e2=>?_⟩,last⟩
 ·rw[cq]
  refine⟨M.nd,.(2),λa ha b hb z=>?_⟩;obtain⟨i,hi⟩:=dI ha;exact ne i a hi (z<|cZ.mp hb)
 ·rcases cs h a e with e|⟨_,rfl⟩
  ·exact M.free h a e
  ·exact fp
 ·rcases cs h a e1 with e|⟨rfl,rfl⟩
  ·have hl:h<om.length:=by rw[← M.len];exact(aJ.mp e).1
   rw[aZ hl]at e2;exact(M.ob h a y e e2).mono g (Zy (ne h a e))
  ·rw[bK (aM _),fq]at e2
   cases e2;exact hx _ g
def MOk.put{h:Nat}{a:qJ}{o:HO}{x:Ob}(M:MOk F H β om)(e:β[h]?=some a)(hx:ObR F (upd H a o) β a x):MOk F (upd H a o) β (om.set h x):=by
 have fa:=M.free h a e;refine⟨λb u eb=>by rw[Zy (Z5 eb fa)];exact M.sub b u eb,M.nd,by simp[M.len],M.free,λj b y e1 e2=>?_⟩;by_cases hj:j=h
 ·subst hj
  rw[e]at e1;cases e1;have hl:j<om.length:=by rw[← M.len];exact(aJ.mp e).1
  rw[bQ hl]at e2;cases e2;exact hx
 ·rw[bJ (cI hj)]at e2
  have nb:b≠a:=λz=>by
   subst z;exact hj (ndx M.nd e1 e)
  exact(M.ob j b y e1 e2).mono (Gr.refl _ _) (Zy nb)
end
structure Gx(F F' H H':Hp)(β iX:iI):Prop extends Gr F F' β iX where
 keep:∀b o,H b=some o->b ∉ β->H' b=some o
 there:∀b,H' b=none->H b=none
 new:∀b,b∈iX->b∈β\/H b=none
 fnew:∀b o,F' b=some o->F b=some o\/H b=none
 frz:∀b o u,H b=some (.frz o u)->H' b=some (.frz o u)
def Gx.refl(F H:Hp)(β:iI):Gx F F H H β β:=⟨Gr.refl _ _,λ_ _ e _=>e,λ_ e=>e,λ_ e=>.inl e,λ_ _ e=>.inl e,λ_ _ _ e=>e⟩
def Gx.trans{F F1 F2 H H1 H2:Hp}{β ix jo:iI}(a:Gx F F1 H H1 β ix)(b:Gx F1 F2 H1 H2 ix jo):Gx F F2 H H2 β jo:=by
 have n1:∀c o,H c=some o->c ∉ β->c ∉ ix:=λc o e h h1=>(a.new c h1).elim h λz=>by rw[e]at z;cases z
 refine⟨a.toGr<|b.toGr,λc o e h=>b.keep c o (a.keep c o e h) (n1 c o e h),λc e=>a.there c (b.there c e),λc h=>?_,λc o e=>?_,λc o u e=>b.frz c o u (a.frz c o u e)⟩
 ·rcases b.new c h with h|h
  ·exact a.new c h
  ·exact .inr (a.there c h)
 ·rcases b.fnew c o e with h|h
  ·exact a.fnew c o h
  ·exact .inr (a.there c h)
section
variable{F H:Hp}{β:iI}{om:iV}{p:qJ}{o:HO}
def MOk.gxF(M:MOk F H β om)(hp:H p=none):Gx F (upd F p o) H (upd H p o) β β:=
 ⟨(M.newF (o:=o) hp).1,λb u e _=>by rw[Zy (Z5 e hp)];exact e,λb e=>by
  by_cases hb:b=p
  ·rw[hb];exact hp
  ·rw[Zy hb]at e;exact e,λ_ e=>.inl e,λb u e=>by
  by_cases hb:b=p
  ·rw[hb];exact .inr hp
  ·rw[Zy hb]at e;exact .inl e,λb u w e=>by rw[Zy (Z5 e hp)];exact e⟩
def MOk.gxU(M:MOk F H β om)(hp:H p=none):Gx F F H (upd H p o) β β:=
 ⟨Gr.refl _ _,λb u e _=>by rw[Zy (Z5 e hp)];exact e,λb e=>by
  by_cases hb:b=p
  ·rw[hb];exact hp
  ·rw[Zy hb]at e;exact e,λ_ e=>.inl e,λb u e=>.inl e,λb u w e=>by rw[Zy (Z5 e hp)];exact e⟩
def MOk.gxO(M:MOk F H β om)(hp:H p=none)(g:Gr F F β (β++[p])):Gx F F H (upd H p o) β (β++[p]):=
 ⟨g,(M.gxU (o:=o) hp).keep,(M.gxU (o:=o) hp).there,λb e=>by
  rcases dD.mp e with e|e
  ·exact .inl e
  ·rw[cZ.mp e];exact .inr hp,λb u e=>.inl e,(M.gxU (o:=o) hp).frz⟩
def nz{H:Hp}{a:qJ}{x:HO}(h:H a=some x)(hx:∀o u,x≠.frz o u:=by intro _ _ z;cases z):∀o u,H a≠some (.frz o u):=λo u z=>hx o u (bM (h.symm<|z))
def MOk.gxP(M:MOk F H β om){h:Nat}{a:qJ}(e:β[h]?=some a)(hz:∀u w,H a≠some (.frz u w)):Gx F F H (upd H a o) β β:=
 ⟨Gr.refl _ _,λb u eb hb=>by
  have hba:b≠a:=λz=>hb (by rw[z];exact bN e)
  rw[Zy hba];exact eb,λb eb=>by
  by_cases hb:b=a
  ·rw[hb,ZF]at eb;cases eb
  ·rw[Zy hb]at eb;exact eb,λ_ e=>.inl e,λb u e=>.inl e,λb u w eb=>by
  have hba:b≠a:=λz=>hz u w (z ▸ eb)
  rw[Zy hba];exact eb⟩
def MOk.newFx(M:MOk F H β om)(hp:H p=none):Gx F (upd F p o) H (upd H p o) β β/\MOk (upd F p o) (upd H p o) β om:=⟨M.gxF hp,(M.newF hp).2⟩
def MOk.newOx{x:Ob}(M:MOk F H β om)(hp:H p=none)(hx:∀iX,Gr F F β iX->ObR F (upd H p o) iX p x):Gx F F H (upd H p o) β (β++[p])/\MOk F (upd H p o) (β++[p]) (om++[x])/\(β++[p])[om.length]?=some p:=
 let ⟨g,m,e⟩:=M.newO hp hx;⟨M.gxO hp g,m,e⟩
end
abbrev Mw(α:Type):=iV->Option (Except qJ α × iV)
noncomputable def ret{α:Type}(a:α):Mw α:=λom=>a\om
noncomputable def bnd{α γ:Type}(m:Mw α)(k:α->Mw γ):Mw γ:=λom=>match m om with
 |none=>none
 |a\iu=>k a iu
 |c∩iu=>(c∩iu)
def W0{α:Type}:Mw α:=λ_=>none
def KS{α:Type}(c:qJ):Mw α:=λom=>(c∩om)
def Z0{α:Type}(m:Mw α):Mw α:=λom=>match m om with
 |a\iu=>a\iu
 |_=>none
def Res(E:XK){α:Type}(r:Option (Except qJ α × iV))(F H:Hp)(β:iI)(P:α->Hp->Hp->List qJ->Prop):Prop:=match r with
 |none=>False
 |x\iu=>∀F' H' iX,Gx F F' H H' β iX->MOk F' H' iX iu->P x F' H' iX
 |c∩iu=>∀F' H' iX,Gx F F' H H' β iX->MOk F' H' iX iu->E (.ref c) none H'
section
variable{E:XK}{α γ:Type}{F F1 H H1:Hp}{β ix:iI}{om:iV}{P:γ->Hp->Hp->List qJ->Prop}{P':α->Hp->Hp->List qJ->Prop}
def Res.mono{r:Option (Except qJ γ × iV)}(g:Gx F F1 H H1 β ix)(R:Res E r F H β P):Res E r F1 H1 ix P:=by
 match r,R with
 |x\iu,R=>exact λF' H' iX g' M=>R F' H' iX (g<|g') M
 |c∩iu,R=>exact λF' H' iX g' M=>R F' H' iX (g<|g') M
def Res.bind{m:Mw α}{k:α->Mw γ}(R:Res E (bnd m k om) F H β P)(h:∀x qH F1 H1 ix,Gx F F1 H H1 β ix->MOk F1 H1 ix qH->Res E (k x qH) F1 H1 ix P->P' x F1 H1 ix):Res E (m om) F H β P':=by
 unfold bnd at R
 match hm:m om,R with
 |x\iu,R=>exact λF' H' iX g M=>h x iu F' H' iX g M (Res.mono g R)
 |c∩iu,R=>exact R
end
structure EnvOk(F:Hp)(β:iI)(σ:St)(sl:List (Option Wv)):Prop where
 len:sl.length=σ.length
 get:∀(i:Nat) (w:Wv),sl[i]?=↑w->∃v,σ[i]?=↑v/\RW F β w v
def EnvOk.mono{F F':Hp}{β iX:iI}{σ:St}{sl:List (Option Wv)}(V:EnvOk F β σ sl)(g:Gr F F' β iX):EnvOk F' iX σ sl:=
 ⟨V.len,λi w e=>let ⟨v,h,r⟩:=V.get i w e;⟨v,h,r.mono g⟩⟩
def EnvOk.set{F:Hp}{β:iI}{σ:St}{sl:List (Option Wv)}{w:Wv}{v:V}(V:EnvOk F β σ sl)(i:Nat)(r:RW F β w v):EnvOk F β (σ.set i (some v)) (sl.set i (some w)):=by
 refine⟨by simp[V.len],λj u e=>?_⟩;by_cases hj:j=i
 ·subst hj
  by_cases hl:j<sl.length
  ·rw[bQ hl]at e
   cases e;exact⟨v,by rw[bQ (by rw[← V.len];exact hl)],r⟩
  ·rw[bP .(6)]at e;cases e
 ·rw[bJ (cI hj)]at e ⊢
  exact V.get j u e
def EnvOk.setN{F:Hp}{β:iI}{σ:St}{sl:List (Option Wv)}(V:EnvOk F β σ sl)(i:Nat):EnvOk F β (σ.set i none) (sl.set i none):=by
 refine⟨by simp[V.len],λj u e=>?_⟩;by_cases hj:j=i
 ·subst hj
  by_cases hl:j<sl.length
  ·rw[bQ hl]at e
   cases e
  ·rw[bP .(6)]at e;cases e
 ·rw[bJ (cI hj)]at e ⊢
  exact V.get j u e
abbrev Sl:=List (Option Wv)
abbrev FE:=Sl->Mw Wv
abbrev FT:=Sl->Mw Bool
abbrev FA:=Sl->Mw (iR)
inductive Fl where
 |nx|bk|ct|rt (w:Wv)
abbrev FS:=Sl->Mw (Fl × Sl)
def tE(E:XK)(f:FE):TE:=λσ H Q=>∃F β om sl,MOk F H β om/\EnvOk F β σ sl/\Res E (f sl om) F H β λw F' H' iX=>∀v,RW F' iX w v->Q v H'
def tT(E:XK)(f:FT):TT:=λσ H Q=>∃F β om sl,MOk F H β om/\EnvOk F β σ sl/\Res E (f sl om) F H β λb F' H' iX=>Q b H'
def tA(E:XK)(f:FA):TA:=λσ H Q=>∃F β om sl,MOk F H β om/\EnvOk F β σ sl/\Res E (f sl om) F H β λws F' H' iX=>∀vs,RWs F' iX ws vs->Q vs H'
def FlP(D:Ends)(x:Fl × Sl)(F' H':Hp)(iX:iI):Prop:=match x.1 with
 |.nx=>∀i6,EnvOk F' iX i6 x.2->D.nx i6 H'
 |.bk=>∀i6,EnvOk F' iX i6 x.2->D.bk i6 H'
 |.ct=>∀i6,EnvOk F' iX i6 x.2->D.ct i6 H'
 |.rt w=>∀v,RW F' iX w v->D.rt v H'
def tS(E:XK)(f:FS):TS:=λD σ H=>∃F β om sl,MOk F H β om/\EnvOk F β σ sl/\Res E (f sl om) F H β (FlP D)
def PV(Q:VK):Wv->Hp->Hp->List qJ->Prop:=λw F' H' iX=>∀v,RW F' iX w v->Q v H'
def Res.now{E:XK}{α:Type}{x:α}{F H:Hp}{β:iI}{om:iV}{P:α->Hp->Hp->List qJ->Prop}(R:Res E (ret x om) F H β P)(M:MOk F H β om):P x F H β:=R F H β (Gx.refl _ _ _) M
def PE.weak{X:Cx}{e:qS}{t t':TE}(h:PE X e t)(w:∀σ H Q,t' σ H Q->t σ H Q):PE X e t':=λgV s σ H Q I q=>h gV s σ H Q I (w σ H Q q)
def PT.weak{X:Cx}{e:qS}{t t':TT}(h:PT X e t)(w:∀σ H Q,t' σ H Q->t σ H Q):PT X e t':=λgV s σ H Q I q=>h gV s σ H Q I (w σ H Q q)
def PW.weak{X:Cx}{e:qS}{t t':TT}(h:PW X e t)(w:∀σ H Q,t' σ H Q->t σ H Q):PW X e t':=λwh gV s σ H Q I q=>h wh gV s σ H Q I (w σ H Q q)
def PA.weak{X:Cx}{es:iN}{t t':TA}(h:PA X es t)(w:∀σ H Q,t' σ H Q->t σ H Q):PA X es t':=λpos gV s σ H Q I q=>h pos gV s σ H Q I (w σ H Q q)
def PS.weak{X:Cx}{e:qR}{t t':TS}(h:PS X e t)(w:∀D σ H,t' D σ H->t D σ H):PS X e t':=λgV s σ H Q I q=>h gV s σ H Q I (w Q σ H q)
def PSs.weak{X:Cx}{e:List qR}{t t':TS}(h:PSs X e t)(w:∀D σ H,t' D σ H->t D σ H):PSs X e t':=λgV s σ H Q I q=>h gV s σ H Q I (w Q σ H q)
def Za(i:Nat):FE:=λsl=>match sl[i]? with
 |↑w=>ret w
 |_=>W0
def fC(w:Wv):FE:=λ_=>ret w
section
variable{X:Cx}{E:XK}{e a b:qS}{es:iN}{fa fb:FE}{pos:Pos}
def Eb{i:Nat}(h:PE X e (tVar i)):PE X e (tE E (Za i)):=h.weak λσ H Q ⟨F,β,om,sl,M,V,R⟩=>by
 unfold Za at R
 match hw:sl[i]?,R with
 |↑w,R=>
  obtain⟨v,e1,r⟩:=V.get i w hw;exact⟨v,e1,R.now M v r⟩
 |some none,R=>exact R.elim
 |none,R=>exact R.elim
def Fe{v:V}{w:Wv}(h:PE X e (tC v))(r:∀F β,RW F β w v):PE X e (tE E (fC w)):=h.weak λσ H Q ⟨F,β,om,sl,M,V,R⟩=>R.now M v (r F β)
def Zl{i j pos}:PE X (.Constant (.int i) j pos) (tE E (fC (.int i))):=Fe pe_int λ_ _=>.int i
def XG{i j pos}:PE X (.Constant (.bool i) j pos) (tE E (fC (.bl i))):=Fe pe_bl λ_ _=>.bl i
def LG{j pos}:PE X (.Constant .none j pos) (tE E (fC .non)):=Fe pe_non λ_ _=>.non
def Xq{i j pos}:PE X (.Constant (.str i) j pos) (tE E (fC (.str i))):=Fe EU λ_ _=>.str i
def Zf(i:Nat){x:Str}{pos:Pos}(hN:X.N[i]?=some x:=by rfl)(hv:Vis X.env.scope x:=by first|exact Or.inl rfl|exact Or.inr (Or.inl rfl)|exact Or.inr (Or.inr rfl))(hd:(x == ("__debug__":Str))=false:=by decide)(jS:(x == ("__classdict__":Str))=false:=by decide):PE X (.Name x pos) (tE E (Za i)):=Eb (pe_var hN hv hd jS)
def f1(k:Wv->Mw Wv)(fa:FE):FE:=λsl=>bnd (fa sl) k
def f2(k:Wv->Wv->Mw Wv)(fa fb:FE):FE:=λsl=>bnd (fa sl) λx=>bnd (fb sl) λy=>k x y
def Op2(E:XK)(r:R2)(k:Wv->Wv->Mw Wv):Prop:=∀{F H:Hp} {β:iI} {om:iV} {x y:Wv} {v u:V} {Q:VK},MOk F H β om->RW F β x v->RW F β y u->Res E (k x y om) F H β (PV Q)->r v u H Q
def Op1(E:XK)(r:V->Hp->VK->Prop)(k:Wv->Mw Wv):Prop:=∀{F H:Hp} {β:iI} {om:iV} {x:Wv} {v:V} {Q:VK},MOk F H β om->RW F β x v->Res E (k x om) F H β (PV Q)->r v H Q
def LW{r:R2}{k:Wv->Wv->Mw Wv}(hk:Op2 E r k){σ:St}{H:Hp}{Q:VK}(h:tE E (f2 k fa fb) σ H Q):tOp r (tE E fa) (tE E fb) σ H Q:=by
 obtain⟨F,β,om,sl,M,V,R⟩:=h;refine⟨F,β,om,sl,M,V,R.bind λx qH F1 H1 ix g1 M1 R1 v rv=>?_⟩;refine⟨F1,ix,qH,sl,M1,V.mono g1.toGr,R1.bind λy om2 F2 H2 jo g2 M2 R2 u ru=>?_⟩;exact hk M2 (rv.mono g2.toGr) ru R2
def Dm{r:V->Hp->VK->Prop}{k:Wv->Mw Wv}(hk:Op1 E r k){σ:St}{H:Hp}{Q:VK}(h:tE E (f1 k fa) σ H Q):tE E fa σ H λx H1=>r x H1 Q:=by
 obtain⟨F,β,om,sl,M,V,R⟩:=h;exact⟨F,β,om,sl,M,V,R.bind λx qH F1 H1 ix g1 M1 R1 v rv=>hk M1 rv R1⟩
def Ku{op:Operator}{r:R2}{k:Wv->Wv->Mw Wv}(ho:OpR X (binaryOp op) r)(hk:Op2 E r k)(ha:PE X a (tE E fa))(hb:PE X b (tE E fb)):PE X (.BinOp a op b pos) (tE E (f2 k fa fb)):=(Bq ho ha hb).weak λ_ _ _ h=>LW hk h
def Qa{op:CmpOp}{r:R2}{k:Wv->Wv->Mw Wv}(ho:OpR X (compareOp op) r)(hk:Op2 E r k)(ha:PE X a (tE E fa))(hb:PE X b (tE E fb))(hm:behindInMarks op b=false):PE X (.Compare a [op] [b] pos) (tE E (f2 k fa fb)):=(Ai ho ha hb hm).weak λ_ _ _ h=>LW hk h
def kI(g:Int->Int->Wv):Wv->Wv->Mw Wv
 |.int i,.int j=>ret (g i j)
 |_,_=>W0
def kIc(c:Int->Int->Bool)(g:Int->Int->Wv):Wv->Wv->Mw Wv
 |.int i,.int j=>if c i j=true then ret (g i j) else W0
 |_,_=>W0
def Uq{g:Int->Int->V}{g':Int->Int->Wv}(hg:∀F β i j,RW F β (g' i j) (g i j)):Op2 E (rI0 g) (kI g'):=by
 intro F H β om x y v u Q M rx ry R;cases rx <;> first|exact R.elim|skip
 cases ry <;> first|exact R.elim|skip
 exact⟨_,_,rfl,rfl,R.now M _ (hg ..)⟩
def D5{C:Int->Int->Prop}{c:Int->Int->Bool}{g:Int->Int->V}{g':Int->Int->Wv}(hc:∀i j,c i j=true->C i j)(hg:∀F β i j,RW F β (g' i j) (g i j)):Op2 E (rI C g) (kIc c g'):=by
 intro F H β om x y v u Q M rx ry R;cases rx <;> first|exact R.elim|skip
 cases ry <;> first|exact R.elim|skip
 rename_i i j
 have R:Res E ((if c i j=true then ret (g' i j) else W0) om) F H β (PV Q):=R;by_cases h:c i j=true
 ·rw[aC h]at R
  exact⟨_,_,rfl,rfl,hc _ _ h,R.now M _ (hg ..)⟩
 ·rw[aD h]at R
  exact R.elim
abbrev WD:=kI λi j=>.int (i+j)
abbrev kSub:=kI λi j=>.int (i-j)
abbrev Ue:=kIc (λ_ j=>decide (0<j/\j<1073741824)) λi j=>.int (i / j)
abbrev YI:=kIc (λ_ j=>decide (0<j)) λi j=>.int (i % j)
abbrev kLt:=kI λi j=>.bl (decide (i<j))
abbrev kLe:=kI λi j=>.bl (decide (i<=j))
abbrev kGt:=kI λi j=>.bl (decide (j<i))
abbrev kGe:=kI λi j=>.bl (decide (j<=i))
def Xo(ha:PE X a (tE E fa))(hb:PE X b (tE E fb)):PE X (.BinOp a .Add b pos) (tE E (f2 WD fa fb)):=Ku op_add (Uq λ_ _ _ _=>.int _) ha hb
def CS(ha:PE X a (tE E fa))(hb:PE X b (tE E fb)):PE X (.BinOp a .Sub b pos) (tE E (f2 kSub fa fb)):=Ku op_sub (Uq λ_ _ _ _=>.int _) ha hb
def Ww(ha:PE X a (tE E fa))(hb:PE X b (tE E fb)):PE X (.BinOp a .FloorDiv b pos) (tE E (f2 Ue fa fb)):=Ku BR (D5 (λi j h=>bC h) λ_ _ _ _=>.int _) ha hb
def YB(ha:PE X a (tE E fa))(hb:PE X b (tE E fb)):PE X (.BinOp a .Mod b pos) (tE E (f2 YI fa fb)):=Ku op_mod (D5 (λi j h=>bC h) λ_ _ _ _=>.int _) ha hb
def qe_lt(ha:PE X a (tE E fa))(hb:PE X b (tE E fb)):PE X (.Compare a [.Lt] [b] pos) (tE E (f2 kLt fa fb)):=Qa JF (Uq λ_ _ _ _=>.bl _) ha hb (Ui _)
def qe_gt(ha:PE X a (tE E fa))(hb:PE X b (tE E fb)):PE X (.Compare a [.Gt] [b] pos) (tE E (f2 kGt fa fb)):=Qa op_gt (Uq λ_ _ _ _=>.bl _) ha hb (Ui _)
def qe_ge(ha:PE X a (tE E fa))(hb:PE X b (tE E fb)):PE X (.Compare a [.GtE] [b] pos) (tE E (f2 kGe fa fb)):=Qa op_ge (Uq λ_ _ _ _=>.bl _) ha hb (Ui _)
end
mutual
def XJ(om:iV):Wv->Option PyData
 |.non=>some .none
 |.bl b=>some (.bool b)
 |.int i=>some (.int i)
 |.str x=>some (.str x)
 |.lst ws=>(pysOf om ws).map .list
 |.tup ws=>(pysOf om ws).map .tuple
 |.o _=>none
 |.g _=>none
def pysOf(om:iV):iR->Option (List PyData)
 |[]=>some []
 |w::r=>match XJ om w,pysOf om r with
  |some d,some ds=>some (d::ds)
  |_,_=>none
end
def Xz(om:iV):Wv->Option PyData
 |.o h=>match om[h]? with
  |some (.lst ws)=>(pysOf om ws).map .list
  |_=>none
 |w=>XJ om w
section
variable{X:Cx}{gV:iD}{σ:St}{F H:Hp}{s:qK}{β:iI}{om:iV}
mutual
def RW.reads(I:Inv X gV σ H s)(sub:Same F H):∀{w:Wv} {v:V} {d:PyData} {u:qI},RW F β w v->XJ om w=some d->RelV v u->∃as,Reads s.heap u d as
 |_,_,_,_,.non,e,r=>by unfold XJ at e;cases e;cases r;exact⟨_,.none⟩
 |_,_,_,_,.bl b,e,r=>by unfold XJ at e;cases e;cases r;exact⟨_,.bool b⟩
 |_,_,_,_,.int i,e,r=>by unfold XJ at e;cases e;obtain⟨t,rfl⟩:=r;exact⟨_,.int i t⟩
 |_,_,_,_,.str x,e,r=>by unfold XJ at e;cases e;obtain⟨t,rfl⟩:=r;exact⟨_,.str x t⟩
 |_,_,_,_,.lst (a:=a) (ws:=ws) q rs,e,r=>by
  unfold XJ at e;cases r
  match hp:pysOf om ws,e with
  |some ds,e=>
   cases e;obtain⟨_,iy,n,rv,eo⟩:=(Rd.same sub q).ok I.hok;obtain⟨as,ra⟩:=RWs.reads I sub rs hp rv;exact⟨_,.list eo rfl rfl (by simpa using ra)⟩
 |_,_,_,_,.tup (a:=a) (ws:=ws) q rs,e,r=>by
  unfold XJ at e;cases r
  match hp:pysOf om ws,e with
  |some ds,e=>
   cases e;obtain⟨_,iy,rv,o,eo,ec,n,ed⟩:=I.hok a _ (sub _ _ q);obtain⟨as,ra⟩:=RWs.reads I sub rs hp rv;exact⟨_,.tuple eo ec ed (by simpa using ra)⟩
 |_,_,_,_,.o _,e,r=>by unfold XJ at e;cases e
 |_,_,_,_,.g _,e,r=>by unfold XJ at e;cases e
def RWs.reads(I:Inv X gV σ H s)(sub:Same F H):∀{ws:iR} {vs:iQ} {ds:List PyData} {us:iJ},RWs F β ws vs->pysOf om ws=some ds->Vals vs us->∃as,ReadsAll s.heap us ds as
 |_,_,_,_,.nil,e,r=>by unfold pysOf at e;cases e;cases r;exact⟨_,.nil⟩
 |_,_,_,_,.cons (w:=w) (ws:=ws) h q,e,r=>by
  unfold pysOf at e;cases r with
  |cons r1 r2=>
   match h1:XJ om w,h2:pysOf om ws,e with
   |some d,some ds,e=>
    cases e;obtain⟨as,ra⟩:=RW.reads I sub h h1 r1;obtain⟨bs,rb⟩:=RWs.reads I sub q h2 r2;exact⟨_,.cons ra rb⟩
end
def RW.readsTop(I:Inv X gV σ H s)(M:MOk F H β om){w:Wv}{v:V}{d:PyData}{u:qI}(rw':RW F β w v)(e:Xz om w=some d)(r:RelV v u):∃as,Reads s.heap u d as:=by
 match w,e with
 |.non,e=>exact rw'.reads (om:=om) I M.sub e r
 |.bl _,e=>exact rw'.reads (om:=om) I M.sub e r
 |.int _,e=>exact rw'.reads (om:=om) I M.sub e r
 |.str _,e=>exact rw'.reads (om:=om) I M.sub e r
 |.lst _,e=>exact rw'.reads (om:=om) I M.sub e r
 |.tup _,e=>exact rw'.reads (om:=om) I M.sub e r
 |.g _,e=>exact rw'.reads (om:=om) I M.sub e r
 |.o h,e=>
  unfold Xz at e;dsimp only at e;split at e
  ·rename_i ws hw
   cases rw' with
   |o eb=>
    obtain⟨a,ea,_,xs,hx,rs⟩:=M.at hw;rw[eb]at ea;cases ea;cases r
    match hp:pysOf om ws,e with
    |some ds,e=>
     cases e;obtain⟨_,iy,n,rv,eo⟩:=I.hok _ _ hx;obtain⟨as,ra⟩:=RWs.reads I M.sub rs hp rv;exact⟨_,.list eo rfl rfl (by simpa using ra)⟩
  ·cases e
end
def VI(d:PyData):Bool:=d.canLay0&&decide (d.depth<=60)
def Wk(neg:Bool)(x y:Wv):Mw Wv:=λom=>match Xz om x,Xz om y with
 |some d,some e=>if (VI d&&VI e)=true then (.bl (if neg then !PyData.eqv d e else PyData.eqv d e))\om else none
 |_,_=>none
abbrev kEq:=Wk false
abbrev kNe:=Wk true
def rEqS(E:XK)(neg:Bool):R2:=λv u H Q=>∃F β om x y,MOk F H β om/\RW F β x v/\RW F β y u/\Res E (Wk neg x y om) F H β (PV Q)
section
variable{X:Cx}{E:XK}{a b:qS}{fa fb:FE}{pos:Pos}
def De(hu:X.A.units+64<cLine):OpR X (compareOp .Eq) (rEqS E false):=by
 intro gV s σ H v u v' u' Q I rv ru h;obtain⟨F,β,om,x,y,M,rx,ry,R⟩:=h;unfold Wk at R
 match h1:Xz om x,h2:Xz om y,R with
 |some d,some e,R=>
  dsimp only at R;by_cases hl:(VI d&&VI e)=true
  ·rw[aC hl]at R
   obtain⟨l1,l2⟩:=bO.mp hl;obtain⟨c1,d1⟩:=bO.mp l1;obtain⟨c2,d2⟩:=bO.mp l2;obtain⟨as,ra⟩:=rx.readsTop I M h1 rv;obtain⟨bs,rb⟩:=ry.readsTop I M h2 ru;have:=bC d1;have:=bC d2;exact SeqAt.rcAt_reads ra rb c1 c2 .(0) _ _ _ _ ⟨.bl _,H,I,rfl,R F H β (Gx.refl _ _ _) M _ (.bl _)⟩
  ·rw[aD hl]at R;exact R.elim
def DH(hu:X.A.units+64<cLine):OpR X (compareOp .NotEq) (rEqS E true):=by
 intro gV s σ H v u v' u' Q I rv ru h;obtain⟨F,β,om,x,y,M,rx,ry,R⟩:=h;unfold Wk at R
 match h1:Xz om x,h2:Xz om y,R with
 |some d,some e,R=>
  dsimp only at R;by_cases hl:(VI d&&VI e)=true
  ·rw[aC hl]at R
   obtain⟨l1,l2⟩:=bO.mp hl;obtain⟨c1,d1⟩:=bO.mp l1;obtain⟨c2,d2⟩:=bO.mp l2;obtain⟨as,ra⟩:=rx.readsTop I M h1 rv;obtain⟨bs,rb⟩:=ry.readsTop I M h2 ru;have:=bC d1;have:=bC d2;exact SeqAt.compareNe_reads ra rb c1 c2 .(0) ⟨.bl _,H,I,rfl,R F H β (Gx.refl _ _ _) M _ (.bl _)⟩
  ·rw[aD hl]at R;exact R.elim
def RS(hu:X.A.units+64<cLine)(ha:PE X a (tE E fa))(hb:PE X b (tE E fb)):PE X (.Compare a [.Eq] [b] pos) (tE E (f2 kEq fa fb)):=Qa (De (E:=E) hu) (λM rx ry R=>⟨_,_,_,_,_,M,rx,ry,R⟩) ha hb (Ui _)
def Dz(hu:X.A.units+64<cLine)(ha:PE X a (tE E fa))(hb:PE X b (tE E fb)):PE X (.Compare a [.NotEq] [b] pos) (tE E (f2 kNe fa fb)):=Qa (DH (E:=E) hu) (λM rx ry R=>⟨_,_,_,_,_,M,rx,ry,R⟩) ha hb (Ui _)
end
end L2
namespace L2
noncomputable section
open PySem PySem.Spec PyProof.Rows
def kB:Wv->Mw Bool
 |.bl b=>ret b
 |_=>W0
def fB(f:FE):FT:=λsl=>bnd (f sl) kB
def VS(f g:FT):FT:=λsl=>bnd (f sl) λb=>if b=true then g sl else ret false
def fOr(f g:FT):FT:=λsl=>bnd (f sl) λb=>if b=true then ret true else g sl
def JA(f:FT):FT:=λsl=>bnd (f sl) λb=>ret (!b)
def UE(f g:FE):FE:=λsl=>bnd (f sl) λx=>bnd (kB x) λb=>if b=true then g sl else ret (.bl false)
def Jq(f g:FE):FE:=λsl=>bnd (f sl) λx=>bnd (kB x) λb=>if b=true then ret (.bl true) else g sl
def C7(c:FT)(f g:FE):FE:=λsl=>bnd (c sl) λb=>if b=true then f sl else g sl
def isNon:Wv->Bool
 |.non=>true
 |_=>false
def VA(x:Wv):Mw Wv:=ret (.bl (isNon x))
def U6(x:Wv):Mw Wv:=ret (.bl (!isNon x))
def Ma(x:Wv):Mw Wv:=bnd (kB x) λb=>ret (.bl (!b))
def TK(k k':Wv->Wv->Mw Wv)(fa fb fc:FE):FE:=λsl=>bnd (fa sl) λx=>bnd (fb sl) λy=>bnd (k x y) λz=>bnd (kB z) λb=>if b=true then bnd (fc sl) λw=>k' y w else ret (.bl false)
def RW.isNon{F:Hp}{β:iI}{w:Wv}{v:V}(r:RW F β w v):decide (v=.non)=L2.isNon w:=by
 cases r <;> first|rfl|(refine aG ?_;intro z;cases z)
section
variable{X:Cx}{E:XK}{e a b c:qS}{rest:iN}{f fa fb fc:FE}{g ga gb:FT}{pos:Pos}
def Res.kB{P:Bool->Hp->Hp->List qJ->Prop}{x:Wv}{v:V}{F H:Hp}{β:iI}{om:iV}(rv:RW F β x v)(M:MOk F H β om)(R:Res E (L2.kB x om) F H β P):∃b,x=.bl b/\v=.bl b/\P b F H β:=by
 cases rv <;> first|exact R.elim|skip
 exact⟨_,rfl,rfl,R.now M⟩
def Dk{σ:St}{H:Hp}{Q:Bool->Hp->Prop}(h:tT E (fB f) σ H Q):tE E f σ H λx H'=>∃c,x=.bl c/\Q c H':=by
 obtain⟨F,β,om,sl,M,V,R⟩:=h;refine⟨F,β,om,sl,M,V,R.bind λx qH F1 H1 ix g1 M1 R1 v rv=>?_⟩;obtain⟨b,rfl,rfl,q⟩:=R1.kB rv M1;exact⟨b,rfl,q⟩
def Ra{op:CmpOp}{r:R2}{k:Wv->Wv->Mw Wv}(ho:OpR X (compareOp op) r)(hk:Op2 E r k)(ha:PE X a (tE E fa))(hb:PE X b (tE E fb))(hm:behindInMarks op b=false):PT X (.Compare a [op] [b] pos) (tT E (fB (f2 k fa fb))):=
 (pt_cmpR ho ha hb hm).weak λ_ _ _ h=>LW hk (Dk h)
def Gv(ha:PE X a (tE E fa))(hb:PE X b (tE E fb)):PT X (.Compare a [.Lt] [b] pos) (tT E (fB (f2 kLt fa fb))):=Ra JF (Uq λ_ _ _ _=>.bl _) ha hb (Ui _)
def qt_gt(ha:PE X a (tE E fa))(hb:PE X b (tE E fb)):PT X (.Compare a [.Gt] [b] pos) (tT E (fB (f2 kGt fa fb))):=Ra op_gt (Uq λ_ _ _ _=>.bl _) ha hb (Ui _)
def qt_ge(ha:PE X a (tE E fa))(hb:PE X b (tE E fb)):PT X (.Compare a [.GtE] [b] pos) (tT E (fB (f2 kGe fa fb))):=Ra op_ge (Uq λ_ _ _ _=>.bl _) ha hb (Ui _)
def Xg(hu:X.A.units+64<cLine)(ha:PE X a (tE E fa))(hb:PE X b (tE E fb)):PT X (.Compare a [.Eq] [b] pos) (tT E (fB (f2 kEq fa fb))):=Ra (De (E:=E) hu) (λM rx ry R=>⟨_,_,_,_,_,M,rx,ry,R⟩) ha hb (Ui _)
def Vw(hu:X.A.units+64<cLine)(ha:PE X a (tE E fa))(hb:PE X b (tE E fb)):PT X (.Compare a [.NotEq] [b] pos) (tT E (fB (f2 kNe fa fb))):=Ra (DH (E:=E) hu) (λM rx ry R=>⟨_,_,_,_,_,M,rx,ry,R⟩) ha hb (Ui _)
def HX:Op1 E (λx H1 Q=>Q (.bl (decide (x=.non))) H1) VA:=λM rx R=>by show(_:VK) (.bl (decide _)) _;rw[rx.isNon];exact R.now M _ (.bl _)
def EI:Op1 E (λx H1 Q=>Q (.bl (!decide (x=.non))) H1) U6:=λM rx R=>by show(_:VK) (.bl (!decide _)) _;rw[rx.isNon];exact R.now M _ (.bl _)
def qe_isN{j jf}(ha:PE X a (tE E fa)):PE X (.Compare a [.Is] [.Constant .none j jf] pos) (tE E (f1 VA fa)):=(Bg (EC ha)).weak λ_ _ _ h=>Dm HX h
def SS{j jf}(ha:PE X a (tE E fa)):PT X (.Compare a [.Is] [.Constant .none j jf] pos) (tT E (fB (f1 VA fa))):=(Li (EC ha)).weak λ_ _ _ h=>Dm HX (Dk h)
def Pn{j jf}(ha:PE X a (tE E fa)):PT X (.Compare a [.IsNot] [.Constant .none j jf] pos) (tT E (fB (f1 U6 fa))):=(Li (Bz ha)).weak λ_ _ _ h=>Dm EI (Dk h)
def tT_and{σ:St}{H:Hp}{Q:Bool->Hp->Prop}(h:tT E (VS ga gb) σ H Q):tAnd (tT E ga) (tT E gb) σ H Q:=by
 obtain⟨F,β,om,sl,M,V,R⟩:=h;refine⟨F,β,om,sl,M,V,R.bind λx qH F1 H1 ix g1 M1 R1=>?_⟩;cases x with
 |true=>rw[aC rfl]at R1 ⊢;exact⟨F1,ix,qH,sl,M1,V.mono g1.toGr,R1⟩
 |false=>rw[aD aF]at R1 ⊢;exact R1.now M1
def tT_or{σ:St}{H:Hp}{Q:Bool->Hp->Prop}(h:tT E (fOr ga gb) σ H Q):tOr (tT E ga) (tT E gb) σ H Q:=by
 obtain⟨F,β,om,sl,M,V,R⟩:=h;refine⟨F,β,om,sl,M,V,R.bind λx qH F1 H1 ix g1 M1 R1=>?_⟩;cases x with
 |true=>rw[aC rfl]at R1 ⊢;exact R1.now M1
 |false=>rw[aD aF]at R1 ⊢;exact⟨F1,ix,qH,sl,M1,V.mono g1.toGr,R1⟩
def WO(ha:PT X a (tT E ga)):PW X (.BoolOp .And [a] pos) (tT E ga):=Ab ha
def Ld(ha:PT X a (tT E ga)):PW X (.BoolOp .Or [a] pos) (tT E ga):=pw_or1 ha
def Vz(ha:PT X a (tT E ga))(hb:PW X (.BoolOp .And (b::rest) pos) (tT E gb)):PW X (.BoolOp .And (a::b::rest) pos) (tT E (VS ga gb)):=(pw_and ha hb).weak λ_ _ _ h=>tT_and h
def GN(ha:PT X a (tT E ga))(hb:PW X (.BoolOp .Or (b::rest) pos) (tT E gb)):PW X (.BoolOp .Or (a::b::rest) pos) (tT E (fOr ga gb)):=(pw_or ha hb).weak λ_ _ _ h=>tT_or h
def Io(ha:PT X a (tT E ga)):PT X (.UnaryOp .Not a pos) (tT E (JA ga)):=(pt_not ha).weak λσ H Q ⟨F,β,om,sl,M,V,R⟩=>⟨F,β,om,sl,M,V,R.bind λx qH F1 H1 ix g1 M1 R1=>R1.now M1⟩
def QD{op}(h:PE X a (tE E f)):PE X (.BoolOp op [a] pos) (tE E f):=pe_one h
def Ql(ha:PE X a (tE E fa))(hb:PE X (.BoolOp .And (b::rest) pos) (tE E fb)):PE X (.BoolOp .And (a::b::rest) pos) (tE E (UE fa fb)):=(pe_and ha hb).weak λσ H Q ⟨F,β,om,sl,M,V,R⟩=>by
 refine⟨F,β,om,sl,M,V,R.bind λx qH F1 H1 ix g1 M1 R1 v rv=>?_⟩
 have R2:Res E (L2.kB x qH) F1 H1 ix λy F' H' iX=>(if y=true then tE E fb σ H' Q else Q (.bl false) H'):=R1.bind λy om2 F2 H2 jo g2 M2 R2=>by
  cases y with
  |true=>rw[aC rfl]at R2 ⊢;exact⟨F2,jo,om2,sl,M2,V.mono (g1<|g2).toGr,R2⟩
  |false=>rw[aD aF]at R2 ⊢;exact R2.now M2 _ (.bl _)
 obtain⟨c,rfl,rfl,q⟩:=R2.kB rv M1;exact⟨c,rfl,q⟩
def qe_or(ha:PE X a (tE E fa))(hb:PE X (.BoolOp .Or (b::rest) pos) (tE E fb)):PE X (.BoolOp .Or (a::b::rest) pos) (tE E (Jq fa fb)):=(pe_or ha hb).weak λσ H Q ⟨F,β,om,sl,M,V,R⟩=>by
 refine⟨F,β,om,sl,M,V,R.bind λx qH F1 H1 ix g1 M1 R1 v rv=>?_⟩
 have R2:Res E (L2.kB x qH) F1 H1 ix λy F' H' iX=>(if y=true then Q (.bl true) H' else tE E fb σ H' Q):=R1.bind λy om2 F2 H2 jo g2 M2 R2=>by
  cases y with
  |false=>rw[aD aF]at R2 ⊢;exact⟨F2,jo,om2,sl,M2,V.mono (g1<|g2).toGr,R2⟩
  |true=>rw[aC rfl]at R2 ⊢;exact R2.now M2 _ (.bl _)
 obtain⟨c,rfl,rfl,q⟩:=R2.kB rv M1;exact⟨c,rfl,q⟩
def Kb(ha:PE X a (tE E fa)):PE X (.UnaryOp .Not a pos) (tE E (f1 Ma fa)):=(pe_not ha).weak λσ H Q ⟨F,β,om,sl,M,V,R⟩=>by
 refine⟨F,β,om,sl,M,V,R.bind λx qH F1 H1 ix g1 M1 R1 v rv=>?_⟩;have R2:Res E (L2.kB x qH) F1 H1 ix λy F' H' iX=>Q (.bl (!y)) H':=R1.bind λy om2 F2 H2 jo g2 M2 R2=>R2.now M2 _ (.bl _)
 obtain⟨c,rfl,rfl,q⟩:=R2.kB rv M1;exact⟨c,rfl,q⟩
def CP(hc:PT X c (tT E ga))(ha:PE X a (tE E fa))(hb:PE X b (tE E fb)):PE X (.IfExp c a b pos) (tE E (C7 ga fa fb)):=(EN hc ha hb).weak λσ H Q ⟨F,β,om,sl,M,V,R⟩=>by
 refine⟨F,β,om,sl,M,V,R.bind λy om2 F2 H2 jo g2 M2 R2=>?_⟩;cases y with
 |false=>rw[aD aF]at R2 ⊢;exact⟨F2,jo,om2,sl,M2,V.mono g2.toGr,R2⟩
 |true=>rw[aC rfl]at R2 ⊢;exact⟨F2,jo,om2,sl,M2,V.mono g2.toGr,R2⟩
def Dd{r r':R2}{k k':Wv->Wv->Mw Wv}(hk:Op2 E r k)(l9:Op2 E r' k'){σ:St}{H:Hp}{Q:VK}(h:tE E (TK k k' fa fb fc) σ H Q):CQ r r' (tE E fa) (tE E fb) (tE E fc) σ H Q:=by
 obtain⟨F,β,om,sl,M,V,R⟩:=h;refine⟨F,β,om,sl,M,V,R.bind λx qH F1 H1 ix g1 M1 R1 v rv=>?_⟩;refine⟨F1,ix,qH,sl,M1,V.mono g1.toGr,R1.bind λy om2 F2 H2 jo g2 M2 R2 u ru=>?_⟩;refine hk M2 (rv.mono g2.toGr) ru (R2.bind λz jH F3 H3 jN g3 M3 R3 zv rz=>?_)
 have R4:Res E (L2.kB z jH) F3 H3 jN λy' F' H' iX=>(if y'=true then tE E fc σ H' (λw' H4=>r' u w' H4 Q) else Q (.bl false) H'):=R3.bind λy' lU F4 H4 nw g4 M4 R4=>by
  cases y' with
  |false=>rw[aD aF]at R4 ⊢;exact R4.now M4 _ (.bl _)
  |true=>
   rw[aC rfl]at R4 ⊢;exact⟨F4,nw,lU,sl,M4,V.mono (g1<|g2.trans (g3<|g4)).toGr,R4.bind λw5 ny F5 H5 qx g5 M5 R5 u5 r5=>l9 M5 (ru.mono (g3<|g4.trans g5).toGr) r5 R5⟩
 obtain⟨b,rfl,rfl,q⟩:=R4.kB rz M3;exact⟨b,rfl,q⟩
def Ov{op lA:CmpOp}{r r':R2}{k k':Wv->Wv->Mw Wv}(ho:OpR X (compareOp op) r)(jh:OpR X (compareOp lA) r')(hk:Op2 E r k)(l9:Op2 E r' k')(ha:PE X a (tE E fa))(hb:PE X b (tE E fb))(hc:PE X c (tE E fc))(hm:lastMarks [op,lA] [b,c]=false:=by with_unfolding_all rfl):PE X (.Compare a [op,lA] [b,c] pos) (tE E (TK k k' fa fb fc)):=(C8 ho jh ha hb hc hm).weak λ_ _ _ h=>Dd hk l9 h
def DT:Op2 E (rI0 λi j=>.bl (decide (i<j))) kLt:=Uq λ_ _ _ _=>.bl _
def Cz:Op2 E (rI0 λi j=>.bl (decide (i<=j))) kLe:=Uq λ_ _ _ _=>.bl _
end
def Y4(om:iV):Wv->Option (iR)
 |.lst ws=>some ws
 |.tup ws=>some ws
 |.o h=>match om[h]? with
  |some (.lst ws)=>some ws
  |_=>none
 |_=>none
noncomputable def limS:{n:Nat // n=100000}:=Classical.choice ⟨⟨100000,rfl⟩⟩
noncomputable def lim:Nat:=limS.1
def ZT:lim=100000:=limS.2
def UL:lim<sizeLine:=by rw[ZT];decide
def Sd{X:Cx}{F H:Hp}{β:iI}{om:iV}{w:Wv}{v:V}{ws:iR}(M:MOk F H β om)(r:RW F β w v)(e:Y4 om w=some ws):∃a xs,v=.ref a/\(SqL X.K H a xs\/SqT X.K H a xs)/\RWs F β ws xs:=by
 cases r with
 |lst q rs=>unfold Y4 at e;cases e;exact⟨_,_,rfl,.inl (.inl (Rd.same M.sub q)),rs⟩
 |tup q rs=>unfold Y4 at e;cases e;exact⟨_,_,rfl,.inr (SqT.of (M.sub _ _ q)),rs⟩
 |o eb=>
  rename_i h a
  have e:(match om[h]? with|some (.lst ws)=>some ws|_=>none)=some ws:=e
  match hx:om[h]?,e with
  |none,e=>exact nomatch e
  |some (.ins _ _),e=>exact nomatch e
  |some (.exc _),e=>exact nomatch e
  |some (.dz _),e=>exact nomatch e
  |some (.dk _),e=>exact nomatch e
  |some (.dt _),e=>exact nomatch e
  |some (.lst us),e=>
   have e:some us=some ws:=e;cases e;obtain⟨a',ea,_,xs,kT,rs⟩:=M.at hx;rw[eb]at ea;cases ea;exact⟨_,_,rfl,.inl (SqL.of kT),rs⟩
 |_=>unfold Y4 at e;cases e
def RWs.atI{F:Hp}{β:iI}{ws:iR}{vs:iQ}{i:Int}{w:Wv}(r:RWs F β ws vs)(e:L2.atI ws i=some w):∃v,L2.atI vs i=some v/\RW F β w v:=by
 unfold L2.atI at e ⊢;rw[← r.length]
 match hx:ixN ws.length i,e with
 |some j,e=>exact r.get e
def kIx(x i:Wv):Mw Wv:=λom=>match Y4 om x,i with
 |some ws,.int k=>match atI ws k with
  |some w=>w\om
  |none=>none
 |_,_=>none
section
variable{X:Cx}{E:XK}{e a b c:qS}{es:iN}{f fa fb fc:FE}{fs:FA}{pos:Pos}
def Bm:Op2 E (rIx X.K) kIx:=by
 intro F H β om x y v u Q M rx ry R;unfold kIx at R
 match hx:Y4 om x,y,ry,R with
 |none,_,_,R=>exact R.elim
 |some ws,.int i,.int _,R=>
  have R:Res E (match L2.atI ws i with|some w=>some (Except.ok w,om)|none=>none) F H β (PV Q):=R
  match ha:L2.atI ws i,R with
  |none,R=>exact R.elim
  |some w,R=>
   have R:Res E (ret w om) F H β (PV Q):=R;obtain⟨p,xs,rfl,hs,rs⟩:=Sd (X:=X) M rx hx;obtain⟨z,ez,rz⟩:=rs.atI ha;have q:=R.now M z rz;rcases hs with hs|hs
   ·exact .inl ⟨p,xs,i,z,rfl,rfl,hs,ez,q⟩
   ·exact .inr (.inl ⟨p,xs,i,z,rfl,rfl,hs,ez,q⟩)
def ZU(ha:PE X a (tE E fa))(hb:PE X b (tE E fb))(hs:L7 b:=by intro _ _;rfl):PE X (.Subscript a b pos) (tE E (f2 kIx fa fb)):=(pe_ix DI ha hb hs).weak λ_ _ _ h=>LW Bm h
def Zi:FA:=λ_=>ret []
def Zc(f:FE)(r:FA):FA:=λsl=>bnd (f sl) λx=>bnd (r sl) λxs=>ret (x::xs)
def Zk:PA X [] (tA E Zi):=Vq.weak λσ H Q ⟨F,β,om,sl,M,V,R⟩=>R.now M _ .nil
def Zd(ha:PE X e (tE E f))(hr:PA X es (tA E fs))(hs:rA e es X:=by rfl):PA X (e::es) (tA E (Zc f fs)):=(X1 ha hr hs).weak λσ H Q ⟨F,β,om,sl,M,V,R⟩=>by
 refine⟨F,β,om,sl,M,V,R.bind λx qH F1 H1 ix g1 M1 R1 v rv=>?_⟩;exact⟨F1,ix,qH,sl,M1,V.mono g1.toGr,R1.bind λxs om2 F2 H2 jo g2 M2 R2 vs pe=>R2.now M2 _ (.cons (rv.mono g2.toGr) pe)⟩
def YU(ws:iR):Mw Wv:=if ws.length<=lim then ret (.tup ws) else W0
def ZL(ws:iR):Mw Wv:=if ws.length<=lim then ret (.lst ws) else W0
def newO(x:Ob):Mw Wv:=λom=>(.o om.length)\(om++[x])
def Wb(ws:iR):Mw Wv:=if ws.length<=lim then newO (.lst ws) else W0
def fA(k:iR->Mw Wv)(fs:FA):FE:=λsl=>bnd (fs sl) k
def Res.lay{c:Prop}[Decidable c]{m:Mw Wv}{om:iV}{F:Hp}{β:iI}{P:Wv->Hp->Hp->List qJ->Prop}(R:Res E ((if c then m else W0) om) F H β P):c/\Res E (m om) F H β P:=by
 by_cases h:c
 ·rw[aC h]at R;exact⟨h,R⟩
 ·rw[aD h]at R;exact R.elim
def Res.newO{x:Ob}{om:iV}{F H:Hp}{β:iI}{Q:VK}{p:qJ}{o:HO}(R:Res E (L2.newO x om) F H β (PV Q))(M:MOk F H β om)(hp:H p=none)(hx:∀iX,Gr F F β iX->ObR F (upd H p o) iX p x):Q (.ref p) (upd H p o):=by
 obtain⟨g,M',e⟩:=M.newOx hp hx;exact R _ _ _ g M' _ (.o e)
def Yv{x1}(h:PA X es (tA E fs)):PE X (.Tuple es x1 pos) (tE E (fA YU fs)):=(pe_tup h).weak λσ H Q ⟨F,β,om,sl,M,V,R⟩=>by
 refine⟨F,β,om,sl,M,V,R.bind λws qH F1 H1 ix g1 M1 R1 vs rs=>?_⟩;obtain⟨hl,R2⟩:=Res.lay R1;have hl2:=UL;refine⟨by rw[← rs.length];omega,λp hp=>?_⟩;obtain⟨g,M'⟩:=M1.newFx (o:=.tup vs) hp;exact R2 _ _ _ g M' _ (.tup ZF (rs.mono g.toGr))
def X6(h:PA X es (tA E fs)):PE X (.List es pos) (tE E (fA ZL fs)):=(IF h).weak λσ H Q ⟨F,β,om,sl,M,V,R⟩=>by
 refine⟨F,β,om,sl,M,V,R.bind λws qH F1 H1 ix g1 M1 R1 vs rs=>?_⟩;obtain⟨hl,R2⟩:=Res.lay R1;have hl2:=UL;refine⟨by rw[← rs.length];omega,λp hp=>?_⟩;obtain⟨g,M'⟩:=M1.newFx (o:=.lst vs) hp;exact R2 _ _ _ g M' _ (.lst (.inl ZF) (rs.mono g.toGr))
def HG(h:PA X es (tA E fs)):PE X (.List es pos) (tE E (fA Wb fs)):=(IF h).weak λσ H Q ⟨F,β,om,sl,M,V,R⟩=>by
 refine⟨F,β,om,sl,M,V,R.bind λws qH F1 H1 ix g1 M1 R1 vs rs=>?_⟩;obtain⟨hl,R2⟩:=Res.lay R1;have hl2:=UL;exact⟨by rw[← rs.length];omega,λp hp=>R2.newO M1 hp λiX g=>⟨vs,ZF,rs.mono g⟩⟩
def chk(c:Bool):Mw Unit:=if c=true then ret () else W0
def Res.chk{γ:Type}{c:Bool}{k:Unit->Mw γ}{om:iV}{F:Hp}{β:iI}{P:γ->Hp->Hp->List qJ->Prop}(R:Res E (bnd (L2.chk c) k om) F H β P):c=true/\Res E (k () om) F H β P:=by
 cases c with
 |true=>exact⟨rfl,R⟩
 |false=>exact R.elim
def Res.chk2{γ α:Type}{c:Bool}{z:α}{k:α->Mw γ}{om:iV}{F:Hp}{β:iI}{P:γ->Hp->Hp->List qJ->Prop}(R:Res E (bnd (bnd (L2.chk c) λ_=>ret z) k om) F H β P):c=true/\Res E (k z om) F H β P:=by
 cases c with
 |true=>exact⟨rfl,R⟩
 |false=>exact R.elim
def CY(ws:iR)(y:Wv):Mw (iR):=match y with
 |.int k=>bnd (chk (decide (-(2 ^ 63)<=k/\k<2 ^ 63/\ws.length * k.toNat<=lim))) λ_=>ret (List.replicate k.toNat ws).flatten
 |_=>W0
def AV(k:iR->Mw Wv)(fs:FA)(fb:FE):FE:=λsl=>bnd (fs sl) λws=>bnd (chk (decide (ws.length<=lim))) λ_=>bnd (fb sl) λy=>bnd (CY ws y) k
def VR(E:XK)(k:iR->Mw Wv):Prop:=∀{ws:iR} {vs:iQ} {om:iV} {F H:Hp} {β:iI} {Q:VK} {p:qJ},MOk F H β om->RWs F β ws vs->Res E (k ws om) F H β (PV Q)->vs.length<=lim/\(H p=none->Q (.ref p) (upd H p (.lst vs)))
def YO:VR E ZL:=λM rs R=>by
 obtain⟨hl,R2⟩:=Res.lay R;refine⟨by rw[← rs.length];exact hl,λhp=>?_⟩;obtain⟨g,M'⟩:=M.newFx (o:=.lst _) hp;exact R2 _ _ _ g M' _ (.lst (.inl ZF) (rs.mono g.toGr))
def QB:VR E Wb:=λM rs R=>by
 obtain⟨hl,R2⟩:=Res.lay R;exact⟨by rw[← rs.length];exact hl,λhp=>R2.newO M hp λiX g=>⟨_,ZF,rs.mono g⟩⟩
def qe_rep{k:iR->Mw Wv}(hk:VR E k)(h:PA X es (tA E fs))(hb:PE X b (tE E fb)){p2:Pos}:PE X (.BinOp (.List es p2) .Mult b pos) (tE E (AV k fs fb)):=(Bq op_rep (IF h) hb).weak λσ H Q ⟨F,β,om,sl,M,V,R⟩=>by
 refine⟨F,β,om,sl,M,V,R.bind λws qH F1 H1 ix g1 M1 R1 vs rs=>?_⟩;obtain⟨hl,R1⟩:=R1.chk;have hl:=bC hl;have ja:=UL;have iZ:=rs.length;refine⟨.(0),λl hl=>?_⟩;obtain⟨g2,M2⟩:=M1.newFx (o:=.lst vs) hl;refine⟨_,ix,qH,sl,M2,V.mono (g1<|g2).toGr,(Res.mono g2 R1).bind λy jH F3 H3 jN g3 M3 R3 u ru=>?_⟩;have hH3:H3 l=some (.lst vs):=M3.sub _ _ (g3.same _ _ ZF);cases ru with
 |int i=>
  obtain⟨hc,R4⟩:=Res.chk2 R3;obtain⟨h1,h2,h3⟩:=bC hc;refine⟨l,i,vs,rfl,rfl,hH3,h1,h2,by rw[← iZ];omega,λp hp=>?_⟩;exact(hk M3 ((rs.mono (g2<|g3).toGr).rep i.toNat) R4).2 hp
 |_=>exact R3.elim
end
def HY(om:iV):Wv->Option Bool
 |.non=>some false
 |.bl b=>some b
 |.int i=>some (i != 0)
 |.lst ws=>some (!ws.isEmpty)
 |.tup ws=>some (!ws.isEmpty)
 |.o h=>match om[h]? with
  |some (.lst ws)=>some (!ws.isEmpty)
  |some (.dk kvs)=>some (!kvs.isEmpty)
  |_=>none
 |_=>none
def kTru(x:Wv):Mw Bool:=λom=>match HY om x with
 |some b=>b\om
 |none=>none
def Xm(f:FE):FT:=λsl=>bnd (f sl) kTru
def RWs.isEmpty{F:Hp}{β:iI}{ws:iR}{vs:iQ}(r:RWs F β ws vs):(!ws.isEmpty)=!vs.isEmpty:=by cases r <;> rfl
def RK.isEmpty{F:Hp}{β:iI}{κ:Type}{ws:List (κ × Wv)}{vs:List (κ × V)}(r:RK F β ws vs):(!ws.isEmpty)=!vs.isEmpty:=by cases r <;> rfl
def Et{K:iC}{F H:Hp}{β:iI}{om:iV}{w:Wv}{v:V}{b:Bool}(M:MOk F H β om)(r:RW F β w v)(e:HY om w=some b):TruV K v H b:=by
 cases r with
 |non=>cases e;rfl
 |bl c=>cases e;rfl
 |int i=>cases e;rfl
 |str x=>cases e
 |g _=>cases e
 |lst q rs=>cases e;exact .inl ⟨_,.inl (Rd.same M.sub q),rs.isEmpty⟩
 |tup q rs=>cases e;exact .inr (.inl ⟨_,SqT.of (M.sub _ _ q),rs.isEmpty⟩)
 |o eb=>
  rename_i h a
  have e:(match om[h]? with|some (.lst ws)=>some (!ws.isEmpty)|some (.dk kvs)=>some (!kvs.isEmpty)|_=>none)=some b:=e
  match hx:om[h]?,e with
  |none,e=>exact nomatch e
  |some (.ins _ _),e=>exact nomatch e
  |some (.exc _),e=>exact nomatch e
  |some (.dz _),e=>exact nomatch e
  |some (.dt _),e=>exact nomatch e
  |some (.dk kvs),e=>
   have e:some (!kvs.isEmpty)=some b:=e;obtain⟨a',ea,_,ks,hk,rs⟩:=M.at hx;rw[eb]at ea;cases ea;cases e;exact .inr (.inr ⟨ks,hk,rs.isEmpty⟩)
  |some (.lst ws),e=>
   have e:some (!ws.isEmpty)=some b:=e;obtain⟨a',ea,_,xs,kT,rs⟩:=M.at hx;rw[eb]at ea;cases ea;cases e;exact .inl ⟨xs,SqL.of kT,rs.isEmpty⟩
section
variable{X:Cx}{E:XK}{e a b c o:qS}{es:iN}{f fa fb fc:FE}{fs:FA}{pos p2:Pos}
def XA(ha:PE X a (tE E fa))(he:∀whole,isTrue a X.env whole=(do let v ← whole;standAt a.pos;holding [v] (truthy v)):=by intro _;rfl):PT X a (tT E (Xm fa)):=(Cl ha he).weak λσ H Q ⟨F,β,om,sl,M,V,R⟩=>by
 refine⟨F,β,om,sl,M,V,R.bind λx qH F1 H1 ix g1 M1 R1 v rv=>?_⟩;unfold kTru at R1
 match hx:HY qH x,R1 with
 |none,R1=>exact R1.elim
 |some b,R1=>exact⟨b,Et M1 rv hx,(show Res E (ret b qH) F1 H1 ix _ from R1).now M1⟩
def U7:Wv->Bool
 |.non|.bl _|.int _|.str _=>true
 |_=>false
def toV:Wv->V
 |.non=>.non
 |.bl b=>.bl b
 |.int i=>.int i
 |.str x=>.str x
 |_=>.non
def RW.flat{F:Hp}{β:iI}{w:Wv}{v:V}(r:RW F β w v)(h:U7 w=true):v=toV w/\Sq v=true:=by
 cases r <;> first|exact⟨rfl,rfl⟩|cases h
def RWs.flat{F:Hp}{β:iI}:∀{ws:iR} {vs:iQ},RWs F β ws vs->ws.all U7=true->vs=ws.map toV/\vs.all Sq=true
 |_,_,.nil,_=>⟨rfl,rfl⟩
 |_,_,.cons h r,e=>by
  rw[eW,bW]at e;obtain⟨h1,h2⟩:=h.flat e.1;obtain⟨h3,h4⟩:=RWs.flat r e.2;exact⟨by rw[aS,← h1,← h3],by rw[eW,h2,h4];rfl⟩
def W3(neg:Bool)(x y:Wv):Mw Wv:=λom=>match Y4 om y with
 |some ws=>if (U7 x&&ws.all U7)=true then (.bl (if neg then !inV (toV x) (ws.map toV) else inV (toV x) (ws.map toV)))\om else none
 |none=>none
def I0{neg:Bool}:Op2 E (rIn X.K neg) (W3 neg):=by
 intro F H β om x y v u Q M rx ry R;unfold W3 at R
 match hy:Y4 om y,R with
 |none,R=>exact R.elim
 |some ws,R=>
  dsimp only at R;by_cases hc:(U7 x&&ws.all U7)=true
  ·rw[aC hc]at R
   obtain⟨h1,h2⟩:=bO.mp hc;obtain⟨p,xs,rfl,hs,rs⟩:=Sd (X:=X) M ry hy;obtain⟨e1,e2⟩:=rx.flat h1;obtain⟨e3,e4⟩:=rs.flat h2;refine⟨p,xs,rfl,hs,e2,e4,?_⟩;rw[e1,e3];exact(show Res E (ret (Wv.bl _) om) F H β (PV Q) from R).now M _ (.bl _)
  ·rw[aD hc]at R;exact R.elim
def qt_in(ha:PE X a (tE E fa))(hb:PE X b (tE E fb))(hm:behindInMarks .In b=false:=by with_unfolding_all rfl):PT X (.Compare a [.In] [b] pos) (tT E (fB (f2 (W3 false) fa fb))):=Ra G9 (I0 (X:=X)) ha hb hm
def MJ(ha:PE X a (tE E fa))(hb:PE X b (tE E fb))(hm:behindInMarks .NotIn b=false:=by with_unfolding_all rfl):PE X (.Compare a [.NotIn] [b] pos) (tE E (f2 (W3 true) fa fb)):=Qa Rj (I0 (X:=X)) ha hb hm
def Di(ha:PE X a (tE E fa))(hb:PE X b (tE E fb))(hm:behindInMarks .NotIn b=false:=by with_unfolding_all rfl):PT X (.Compare a [.NotIn] [b] pos) (tT E (fB (f2 (W3 true) fa fb))):=Ra Rj (I0 (X:=X)) ha hb hm
def RK.lookup{F:Hp}{β:iI}{k:Str}:∀{ps:iS} {qs:List (Str × V)},RK F β ps qs->match ps.lookup k with|some w=>∃v,qs.lookup k=some v/\RW F β w v|none=>qs.lookup k=none
 |_,_,.nil=>rfl
 |_,_,.cons (k:=k') h r=>by
  rw[aH,aH];cases (k == k') with
  |true=>exact⟨_,rfl,h⟩
  |false=>exact RK.lookup r
def RK.length{F:Hp}{β:iI}{κ:Type}:∀{ps:List (κ × Wv)} {qs:List (κ × V)},RK F β ps qs->ps.length=qs.length
 |_,_,.nil=>rfl
 |_,_,.cons _ r=>by rw[bI,bI,RK.length r]
def SC(om:iV):Wv->Option (qJ × iS)
 |.o h=>match om[h]? with
  |some (.ins C fs)=>some (C,fs)
  |_=>none
 |_=>none
def NX{F H:Hp}{β:iI}{om:iV}{w:Wv}{v:V}{C:qJ}{fs:iS}(M:MOk F H β om)(r:RW F β w v)(e:SC om w=some (C,fs)):∃h a dx jE,w=.o h/\om[h]?=some (.ins C fs)/\β[h]?=some a/\v=.ref a/\H a=some (.ins C dx jE)/\RK F β fs jE:=by
 cases r with
 |o eb=>
  rename_i h a
  have e:(match om[h]? with|some (.ins C fs)=>some (C,fs)|_=>none)=some (C,fs):=e
  match hx:om[h]?,e with
  |none,e=>exact nomatch e
  |some (.lst _),e=>exact nomatch e
  |some (.exc _),e=>exact nomatch e
  |some (.dz _),e=>exact nomatch e
  |some (.dt _),e=>exact nomatch e
  |some (.dk kvs),e=>exact nomatch e
  |some (.ins C' jE),e=>
   have e:some (C',jE)=some (C,fs):=e;cases e;obtain⟨a',ea,_,dx,pf,kT,rs⟩:=M.at hx;have ea2:=ea;rw[eb]at ea;cases ea;exact⟨h,_,dx,pf,rfl,hx,ea2,rfl,kT,rs⟩
 |_=>exact nomatch e
def ZG(C:qJ)(n:Str)(x:Wv):Mw Wv:=λom=>match SC om x with
 |some (C',fs)=>if C'=C then (match fs.lookup n with|some w=>(w\om)|none=>none) else none
 |none=>none
def qe_fld{C:qJ}{n:Str}(cl:Cls X.K C)(na:NoAttr X.K C n)(he:PE X e (tE E f))(hb:attributeBase e n X.env (eval e X.env)=eval e X.env:=by rfl):PE X (.Attribute e n pos) (tE E (f1 (ZG C n) f)):=(pe_fld he hb).weak λσ H Q h=>by
 refine Dm (r:=λx H1 Q=>∃a C dx fs v,x=.ref a/\H1 a=some (.ins C dx fs)/\Cls X.K C/\NoAttr X.K C n/\fs.lookup n=some v/\Q v H1) ?_ h;intro F H β om x v Q M rx R;unfold ZG at R
 match hx:SC om x,R with
 |none,R=>exact R.elim
 |some (C',fs),R=>
  dsimp only at R;by_cases hc:C'=C
  ·have R1:Res E (match fs.lookup n with|some w=>some (Except.ok w,om)|none=>none) F H β (PV Q):=by
    have:=R;rw[aC hc]at this;exact this
   clear R;subst hc;obtain⟨h,a,dx,jE,_,_,_,rfl,ha,rs⟩:=NX M rx hx;have lk:=rs.lookup (k:=n)
   match hl:fs.lookup n,R1,lk with
   |none,R,_=>exact R.elim
   |some w,R,⟨v,ev,rv⟩=>exact⟨a,C',dx,jE,v,rfl,ha,cl,na,ev,(show Res E (ret w om) F H β (PV Q) from R).now M v rv⟩
  ·rw[aD hc]at R;exact R.elim
def Tf(E:XK)(r:iQ->Hp->VK->Prop)(k:iR->Mw Wv):Prop:=∀{F H:Hp} {β:iI} {om:iV} {ws:iR} {vs:iQ} {Q:VK},MOk F H β om->RWs F β ws vs->Res E (k ws om) F H β (PV Q)->r vs H Q
def tA_K{r:iQ->Hp->VK->Prop}{k:iR->Mw Wv}(hk:Tf E r k){σ:St}{H:Hp}{Q:VK}(h:tE E (fA k fs) σ H Q):tCB r (tA E fs) σ H Q:=by
 obtain⟨F,β,om,sl,M,V,R⟩:=h;exact⟨F,β,om,sl,M,V,R.bind λws qH F1 H1 ix g1 M1 R1 vs rs=>hk M1 rs R1⟩
def WY{id:String}{x:Str}{p:Pos}{r:iQ->Hp->VK->Prop}{k:iR->Mw Wv}(hc:CallR X (.builtin id) r)(hk:Tf E r k)(hg:Gl X x)(hm:X.mg x=none)(hv:bootBuiltins x=some (.builtin id))(ha:PA X (e::es) (tA E fs))(hn:x≠"__name__":=by decide)(jv:(x == ("__debug__":Str))=false:=by decide)(he:rA e es X:=by rfl) (jb:rB pos es X:=by rfl):PE X (.Call (.Name x p) (e::es) [] pos) (tE E (fA k fs)):=(RF hc hg hm hv ha hn jv he jb).weak λ_ _ _ h=>tA_K hk h
def Fb{T:String}{x:Str}{p:Pos}{r:iQ->Hp->VK->Prop}{k:iR->Mw Wv}(hc:CallR X (.type T) r)(hk:Tf E r k)(hg:Gl X x)(hm:X.mg x=none)(hv:bootBuiltins x=some (.type T))(ha:PA X (e::es) (tA E fs))(hn:x≠"__name__":=by decide)(jv:(x == ("__debug__":Str))=false:=by decide)(he:rA e es X:=by rfl) (jb:rB pos es X:=by rfl):PE X (.Call (.Name x p) (e::es) [] pos) (tE E (fA k fs)):=(Qy hc hg hm hv ha hn jv he jb).weak λ_ _ _ h=>tA_K hk h
def Ws(ws:iR):Mw Wv:=λom=>match ws with
 |[x]=>match Y4 om x with
  |some us=>(.int us.length)\om
  |none=>match x with
   |.o h=>match om[h]? with
    |some (.dk kvs)=>(.int kvs.length)\om
    |_=>none
   |_=>none
 |_=>none
def FM:Tf E (λxs H Q=>(∃p ys,xs=[.ref p]/\(SqL X.K H p ys\/SqT X.K H p ys)/\Q (.int ys.length) H)\/∃a kvs,xs=[V.ref a]/\H a=some (.dK kvs)/\Q (.int kvs.length) H) Ws:=by
 intro F H β om ws vs Q M rs R
 match ws,rs,R with
 |[],_,R=>exact R.elim
 |_::_::_,_,R=>exact R.elim
 |[x],.cons rx .nil,R=>
  unfold Ws at R;dsimp only at R
  match hx:Y4 om x,R with
  |some us,R=>
   obtain⟨p,xs,rfl,hs,r2⟩:=Sd (X:=X) M rx hx;refine .inl ⟨p,xs,rfl,hs,?_⟩;rw[← r2.length];exact(show Res E (ret (Wv.int _) om) F H β (PV Q) from R).now M _ (.int _)
  |none,R=>
   cases rx with
   |@o h a eb=>
    have R:Res E (match om[h]? with|some (.dk kvs)=>some (Except.ok (Wv.int kvs.length),om)|_=>none) F H β (PV Q):=R
    match hy:om[h]?,R with
    |none,R=>exact R.elim
    |some (.ins _ _),R=>exact R.elim
    |some (.exc _),R=>exact R.elim
    |some (.dz _),R=>exact R.elim
    |some (.dt _),R=>exact R.elim
    |some (.lst _),R=>exact R.elim
    |some (.dk kvs),R=>
     obtain⟨a',ea,_,ks,hk,r2⟩:=M.at hy;rw[eb]at ea;cases ea;refine .inr ⟨_,ks,rfl,hk,?_⟩;rw[← r2.length];exact(show Res E (ret (Wv.int _) om) F H β (PV Q) from R).now M _ (.int _)
   |_=>exact R.elim
abbrev rD(e)(X:Cx):=starEach [e] X.env=(false,eval e X.env)::starEach [] X.env
abbrev rF(pos:Pos)(X:Cx):=(backTo pos (starEach [] X.env)).any (·.1)=false
def Vp{p:Pos}(hg:Gl X "len")(hm:X.mg "len"=none)(ha:PA X [e] (tA E fs))(he:rD e X:=by rfl)(jb:rF pos X:=by rfl):PE X (.Call (.Name "len" p) [e] [] pos) (tE E (fA Ws fs)):=WY (LC.or F8) (FM (X:=X)) hg hm PySem.boot_len ha .(1) .(1) he jb
end
section
variable{X:Cx}{E:XK}{e a b c o:qS}{es:iN}{f fa fb fc fo:FE}{fs:FA}{pos p2 p p':Pos}
def spM(n:Nat)(g:iR->Mw Wv):Sp:=λvs H Q E=>∃F β om ws,MOk F H β om/\RWs F β ws vs/\ws.length=n/\Res E (g ws om) F H β (PV Q)
def kN(n:Nat)(g:iR->Mw Wv)(ws:iR):Mw Wv:=bnd (chk (decide (ws.length=n))) λ_=>g ws
def OM{n:Nat}{g:iR->Mw Wv}{F H:Hp}{β:iI}{om:iV}{ws:iR}{vs:iQ}{Q:VK}(M:MOk F H β om)(rs:RWs F β ws vs)(R:Res E (kN n g ws om) F H β (PV Q)):spM n g vs H Q E:=by
 obtain⟨hc,R⟩:=Res.chk R;exact⟨F,β,om,ws,M,rs,bC hc,R⟩
variable{CX:CXT}{k n:Nat}{fn C:qJ}{fd:qP}{ps:iM}{g:iR->Mw Wv}{x m:Str}
def By(G:FnOk X.prog X.w X.K X.mg X.base CX k fn fd ps (spM n g))(hr:Room k X.A)(hg:Gl X x)(hm:X.mg x=some (.ref fn))(hk:PySem.W.keepIn X.K (.ref fn)=true)(hb:Binds X.K fd ps [])(hx:XQ CX X E)(ha:PA X (e::es) (tA E fs)) (jv:(x == ("__debug__":Str))=false:=by decide) (he:rA e es X:=by rfl) (jb:rB pos es X:=by rfl):PE X (.Call (.Name x p) (e::es) [] pos) (tE E (fA (kN n g) fs)):=(A7 G hr hg hm hk hb .nil hx ha jv he jb).weak λσ H Q ⟨F,β,om,sl,M,V,R⟩=>by
 refine⟨F,β,om,sl,M,V,R.bind λws qH F1 H1 ix g1 M1 R1 vs rs=>?_⟩;show spM n g (vs++[]) H1 Q E;rw[bF];exact OM M1 rs R1
def BB(C:qJ)(m:Str)(x:Wv):Mw Unit:=λom=>match SC om x with
 |some (C',fs)=>if C'=C/\fs.lookup m=none then ()\om else none
 |none=>none
def Jx{γ:Type}{k:Unit->Mw γ}{F H:Hp}{β:iI}{om:iV}{w:Wv}{v:V}{P:γ->Hp->Hp->List qJ->Prop}(M:MOk F H β om)(r:RW F β w v)(R:Res E (bnd (BB C m w) k om) F H β P):∃a dx jE,v=.ref a/\H a=some (.ins C dx jE)/\jE.lookup m=none/\Res E (k () om) F H β P:=by
 unfold bnd BB at R
 match hx:SC om w,R with
 |none,R=>exact R.elim
 |some (C',fs),R=>
  dsimp only at R;by_cases hc:C'=C/\fs.lookup m=none
  ·have R1:Res E (k () om) F H β P:=by
    have:=R;rw[aC hc]at this;exact this
   clear R;obtain⟨h,a,dx,jE,_,_,_,rfl,ha,rs⟩:=NX M r hx;obtain⟨rfl,hl⟩:=hc;have lk:=rs.lookup (k:=m);rw[hl]at lk;exact⟨a,dx,jE,rfl,ha,lk,R1⟩
  ·rw[aD hc]at R;exact R.elim
def Zn(C:qJ)(m:Str)(n:Nat)(g:iR->Mw Wv)(fo:FE)(fs:FA):FE:=λsl=>bnd (fo sl) λx=>bnd (BB C m x) λ_=>bnd (fs sl) λws=>kN n g (x::ws)
def Gn{dvs:iQ}{σ:St}{H:Hp}{Q:VK}(h:tE E (Zn C m n g fo fs) σ H Q):GV C m (spM n g) [] E (tE E fo) (tA E fs) σ H Q:=by
 obtain⟨F,β,om,sl,M,V,R⟩:=h;refine⟨F,β,om,sl,M,V,R.bind λx qH F1 H1 ix g1 M1 R1 v rv=>?_⟩;obtain⟨a,dx,jE,rfl,ha,hl,R2⟩:=Jx M1 rv R1;refine⟨a,dx,jE,rfl,ha,hl,F1,ix,qH,sl,M1,V.mono g1.toGr,R2.bind λws jH F3 H3 jN g3 M3 R3 vs rs=>?_⟩;show spM n g (L2.V.ref a::(vs++[])) H3 Q E;rw[bF];exact OM M3 (.cons (rv.mono g3.toGr) rs) R3
def AU{pl:Sem Bool}{iY:Pos}(ho:PE X o (tE E fo))(c:Cls X.K C)(hm:Meth X.K C m fn)(G:FnOk X.prog X.w X.K X.mg X.base CX k fn fd ps (spM n g))(hr:Room k X.A)(hb:Binds X.K fd ps [])(hx:XQ CX X E)(ha:PA X (e::es) (tA E fs))(jT:rA e es X:=by rfl) (jb:rB pos es X:=by rfl)(ht:eval (.Call (.Attribute o m iY) (e::es) [] pos) X.env=(do
     let ov ← eval o X.env
     standAt iY.atName
     let (f,first) ← holding [ov] (getMethod ov m pl)
     callWith pos f first (backTo pos (starEach (e::es) X.env)) (backToKw pos (keywordEach [] X.env))):=by rfl):
    PE X (.Call (.Attribute o m iY) (e::es) [] pos) (tE E (Zn C m n g fo fs)):=(BV ho c hm G hr hb .nil hx ha jT jb ht).weak λσ H Q h=>Gn (dvs:=[]) h
def Bi{pl:Sem Bool}{iY:Pos}(ho:PE X o (tE E fo))(c:Cls X.K C)(hm:Meth X.K C m fn)(G:FnOk X.prog X.w X.K X.mg X.base CX k fn fd ps (spM n g))(hr:Room k X.A)(hb:Binds X.K fd ps [])(hx:XQ CX X E)(ht:eval (.Call (.Attribute o m iY) [] [] pos) X.env=(do
     let ov ← eval o X.env
     standAt iY.atName
     let (f,first) ← holding [ov] (getMethod ov m pl)
     callWith pos f first (backTo pos (starEach [] X.env)) (backToKw pos (keywordEach [] X.env))):=by rfl):
    PE X (.Call (.Attribute o m iY) [] [] pos) (tE E (Zn C m n g fo Zi)):=(CV ho c hm G hr hb .nil hx (ht:=ht)).weak λσ H Q ⟨F,β,om,sl,M,V,R⟩=>by
 refine⟨F,β,om,sl,M,V,R.bind λx qH F1 H1 ix g1 M1 R1 v rv=>?_⟩;obtain⟨a,dx,jE,rfl,ha,hl,R2⟩:=Jx M1 rv R1;exact⟨a,dx,jE,rfl,ha,hl,OM M1 (.cons rv .nil) R2⟩
def XS(C:qJ)(n:Nat)(g:iR->Mw Wv)(ws:iR):Mw Wv:=λom=>bnd (kN n g (.o om.length::ws)) (λr=>match r with|.non=>ret (.o om.length)|_=>W0) (om++[.ins C []])
def MOk.newU{F H:Hp}{β:iI}{om:iV}{p:qJ}{o:HO}(M:MOk F H β om)(hp:H p=none):MOk F (upd H p o) β om:=by
 have ne:∀(h:Nat) (a:qJ),β[h]?=some a->a≠p:=λh a e z=>by
  obtain⟨y,hy⟩:=M.there e;rw[z,hp]at hy;cases hy
 exact⟨λb u e=>by rw[Zy (Z5 (M.sub _ _ e) hp)];exact M.sub b u e,M.nd,M.len,M.free,λh a x e1 e2=>(M.ob h a x e1 e2).mono (Gr.refl _ _) (Zy (ne h a e1))⟩
def make_K{F H:Hp}{β:iI}{om:iV}{ws:iR}{vs:iQ}{Q:VK}{y dx:qJ}(M:MOk F H β om)(rs:RWs F β ws vs)(R:Res E (XS C n g ws om) F H β (PV Q))(hx:H y=none)(ox:H dx=none)(jw:dx≠y):spM n g (.ref y::(vs++[])) (upd (upd H dx (.own y)) y (.ins C dx [])) (λv H2=>v=.non/\Q (.ref y) H2) E:=by
 have M1:=M.newU (o:=.own y) ox;have g0:=M.gxU (o:=.own y) ox;obtain⟨g2,M2,e2⟩:=M1.newOx (p:=y) (o:=.ins C dx []) (x:=.ins C []) (by rw[Zy jw.symm];exact hx) λiX _=>⟨dx,[],ZF,.nil⟩
 rw[bF];refine OM M2 (.cons (.o e2) (rs.mono g2.toGr)) ((Res.mono (g0<|g2) R).bind λr jH F3 H3 jN g3 M3 R3 v rv=>?_);cases rv with
 |non=>exact⟨rfl,(show Res E (ret (Wv.o om.length) jH) F3 H3 jN (PV Q) from R3).now M3 _ (.o (g3.pre _ _ e2))⟩
 |_=>exact R3.elim
def A0(ph:Mk X.K C fn)(G:FnOk X.prog X.w X.K X.mg X.base CX k fn fd ps (spM n g))(hr:Room (k+1) X.A)(hg:Gl X x)(hm:X.mg x=some (.ref C))(hb:Binds X.K fd ps [])(hx:XQ CX X E)(ha:PA X (e::es) (tA E fs)) (jv:(x == ("__debug__":Str))=false:=by decide) (he:rA e es X:=by rfl) (jb:rB pos es X:=by rfl):PE X (.Call (.Name x p) (e::es) [] pos) (tE E (fA (XS C n g) fs)):=(AB ph G hr hg hm hb .nil hx ha jv he jb).weak λσ H Q ⟨F,β,om,sl,M,V,R⟩=>
 ⟨F,β,om,sl,M,V,R.bind λws qH F1 H1 ix g1 M1 R1 vs rs y dx h1 h2 h3=>make_K M1 rs R1 h1 h2 h3⟩
def Vs(om:iV):Wv->Option (Nat × iR)
 |.o h=>match om[h]? with
  |some (.lst ws)=>some (h,ws)
  |_=>none
 |_=>none
def TU{F H:Hp}{β:iI}{om:iV}{w:Wv}{v:V}{h:Nat}{ws:iR}(M:MOk F H β om)(r:RW F β w v)(e:Vs om w=some (h,ws)):∃a xs,w=.o h/\om[h]?=some (.lst ws)/\β[h]?=some a/\v=.ref a/\H a=some (.lst xs)/\RWs F β ws xs:=by
 cases r with
 |@o h' a eb=>
  have e:(match om[h']? with|some (.lst ws)=>some (h',ws)|_=>none)=some (h,ws):=e
  match hx:om[h']?,e with
  |none,e=>exact nomatch e
  |some (.ins _ _),e=>exact nomatch e
  |some (.exc _),e=>exact nomatch e
  |some (.dz _),e=>exact nomatch e
  |some (.dt _),e=>exact nomatch e
  |some (.dk kvs),e=>exact nomatch e
  |some (.lst us),e=>
   have e:some (h',us)=some (h,ws):=e;cases e;obtain⟨a',ea,_,xs,kT,rs⟩:=M.at hx;have ea2:=ea;rw[eb]at ea;cases ea;exact⟨_,xs,rfl,hx,ea2,rfl,kT,rs⟩
 |_=>exact nomatch e
def Fn(x:Wv):Mw Unit:=λom=>match Vs om x with
 |some _=>()\om
 |none=>none
def Jr{γ:Type}{k:Unit->Mw γ}{F H:Hp}{β:iI}{om:iV}{w:Wv}{v:V}{P:γ->Hp->Hp->List qJ->Prop}(M:MOk F H β om)(r:RW F β w v)(R:Res E (bnd (Fn w) k om) F H β P):tyV X.K "list" v H/\Res E (k () om) F H β P:=by
 unfold bnd Fn at R
 match hx:Vs om w,R with
 |none,R=>exact R.elim
 |some (h,ws),R=>
  obtain⟨a,xs,_,_,_,rfl,ha,_⟩:=TU M r hx;exact⟨.inl ⟨rfl,xs,SqL.of ha⟩,R⟩
def kApp(x y:Wv):Mw Wv:=λom=>match Vs om x with
 |some (h,ws)=>if ws.length<lim then .non\om.set h (.lst (ws++[y])) else none
 |none=>none
def El(fo f:FE):FE:=λsl=>bnd (fo sl) λx=>bnd (Fn x) λ_=>bnd (f sl) λy=>kApp x y
abbrev rK(i0:Pos)(X:Cx):=(backTo i0 (starEach [] X.env)).any (·.1)=false
def Qf{iY i0:Pos}(ho:PE X o (tE E fo))(he:PE X e (tE E f))(jp:attributeBase o "append" X.env (eval o X.env)=eval o X.env:=by rfl)(jC:((backTo i0 (starEach [e] X.env)).all (λx=>!x.1)&&(backToKw i0 (keywordEach [] X.env)).all (λx=>x.1.isSome)
     && decide (([e]:iN).length+([]:List Keyword).length+(if ([]:List Keyword).isEmpty then 0 else 1)<30))=true:=by rfl)
    (jq:(iY.endLine == i0.line)=true:=by rfl) (hs:rD e X:=by rfl) (jA:rK i0 X:=by rfl):
    PE X (.Call (.Attribute o "append" iY) [e] [] i0) (tE E (El fo f)):=(CH fW PySem.F.slot_list_append PySem.F.type_list_append Er ho (X1 he Vq hs) jp jC jq hs jA).weak λσ H Q ⟨F,β,om,sl,M,V,R⟩=>by
 refine⟨F,β,om,sl,M,V,R.bind λx qH F1 H1 ix g1 M1 R1 v rv=>?_⟩;obtain⟨ty,R2⟩:=Jr (X:=X) M1 rv R1;refine⟨ty,F1,ix,qH,sl,M1,V.mono g1.toGr,R2.bind λy jH F3 H3 jN g3 M3 R3 u ru=>?_⟩;show GJ v [u] H3 Q;unfold kApp at R3
 match hx:Vs jH x,R3 with
 |none,R3=>exact R3.elim
 |some (h,ws),R3=>
  dsimp only at R3;obtain⟨a,xs,_,_,eb,rfl,ha,rs⟩:=TU M3 (rv.mono g3.toGr) hx;by_cases hc:ws.length<lim
  ·rw[aC hc]at R3
   have:=UL;have:=rs.length;refine⟨a,xs,u,rfl,rfl,ha,.(0),?_⟩;exact R3 F3 _ jN (M3.gxP eb (nz ha)) (M3.put eb ⟨xs++[u],ZF,rs.append (.cons ru .nil)⟩) _ .non
  ·rw[aD hc]at R3;exact R3.elim
end
def Y6:Wv->Option Key
 |.int i=>some (.inl i)
 |.str x=>some (.inr x)
 |_=>none
def Vn:iR->Option (List Key)
 |[]=>some []
 |w::r=>match Y6 w,Vn r with
  |some k,some ks=>some (k::ks)
  |_,_=>none
def TX{F:Hp}{β:iI}{w:Wv}{v:V}{k:Key}(r:RW F β w v)(e:Y6 w=some k):v=kV k:=by
 cases r <;> first|(cases e;rfl)|exact nomatch e
def SY{F:Hp}{β:iI}:∀{ws:iR} {vs:iQ} {ks:List Key},RWs F β ws vs->Vn ws=some ks->vs=ks.map kV
 |_,_,_,.nil,e=>by unfold Vn at e;cases e;rfl
 |_,_,_,.cons (w:=w) (ws:=ws) h r,e=>by
  unfold Vn at e
  match h1:Y6 w,h2:Vn ws,e with
  |some k,some ks,e=>
   have e:some (k::ks)=some _:=e;cases e;rw[aS,← TX h h1,← SY r h2]
  |some k,none,e=>exact nomatch e
  |none,_,e=>exact nomatch e
section
variable{κ:Type}[DecidableEq κ]
def UD(kvs:List (κ × Wv))(k:κ):Option Wv:=(kvs.find? λkv=>decide (kv.1=k)).map (·.2)
def Vf(kvs:List (κ × Wv))(k:κ)(v:Wv):List (κ × Wv):=
 if (kvs.any λkv=>decide (kv.1=k))=true then kvs.map (λkv=>if kv.1=k then (kv.1,v) else kv) else kvs++[(k,v)]
variable{F:Hp}{β:iI}
def ROp(F:Hp)(β:iI)(o:Option Wv)(u:Option V):Prop:=match o with
 |some w=>∃v,u=some v/\RW F β w v
 |none=>u=none
def RK.val:∀{ps:List (κ × Wv)} {qs:List (κ × V)},RK F β ps qs->∀k,ROp F β (UD ps k) (RA qs k)
 |_,_,.nil,_=>rfl
 |_,_,.cons (k:=k') h r,k=>by
  unfold UD RA;rw[cH,cH];by_cases hk:k'=k
  ·simp only[hk,decide_true];exact⟨_,rfl,h⟩
  ·simp only[hk,decide_false];exact RK.val r k
def RK.any:∀{ps:List (κ × Wv)} {qs:List (κ × V)},RK F β ps qs->∀k,(ps.any λkv=>decide (kv.1=k))=(qs.any λkv=>decide (kv.1=k))
 |_,_,.nil,_=>rfl
 |_,_,.cons (k:=k') h r,k=>by rw[dq,dq,RK.any r k]
def RK.repl{k:κ}{w:Wv}{v:V}(h:RW F β w v):∀{ps:List (κ × Wv)} {qs:List (κ × V)},RK F β ps qs->RK F β (ps.map λkv=>if kv.1=k then (kv.1,w) else kv) (qs.map λkv=>if kv.1=k then (kv.1,v) else kv)
 |_,_,.nil=>.nil
 |_,_,.cons (k:=k') h' r=>by
  rw[aS,aS];by_cases hk:k'=k
  ·simp only[hk,if_true];exact .cons h (RK.repl h r)
  ·simp only[hk,if_false];exact .cons h' (RK.repl h r)
def RK.append:∀{ps:List (κ × Wv)} {qs:List (κ × V)} {oy:List (κ × Wv)} {oz:List (κ × V)},RK F β ps qs->RK F β oy oz->RK F β (ps++oy) (qs++oz)
 |_,_,_,_,.nil,s=>s
 |_,_,_,_,.cons h r,s=>.cons h (RK.append r s)
def RK.put{ps:List (κ × Wv)}{qs:List (κ × V)}{k:κ}{w:Wv}{v:V}(r:RK F β ps qs)(h:RW F β w v):RK F β (Vf ps k w) (Rc qs k v):=by
 unfold Vf Rc;rw[r.any k];by_cases hc:(qs.any λkv=>decide (kv.1=k))=true
 ·rw[aC hc,aC hc];exact r.repl h
 ·rw[aD hc,aD hc];exact r.append (.cons h .nil)
end
def WB(om:iV)(d key:Wv):Option (Option Wv):=match d with
 |.o h=>match om[h]? with
  |some (.dk kvs)=>match Y6 key with
   |some k=>some (UD kvs k)
   |none=>none
  |some (.dz kvs)=>match Y6 key with
   |some k=>some (UD kvs k)
   |none=>none
  |some (.dt kvs)=>match key with
   |.tup ws=>match Vn ws with
    |some ks=>some (UD kvs ks)
    |none=>none
   |_=>none
  |_=>none
 |_=>none
def Uy{F H:Hp}{β:iI}{om:iV}{d key:Wv}{vd vk:V}{r:Option Wv}(M:MOk F H β om)(rd:RW F β d vd)(rk:RW F β key vk)(e:WB om d key=some r):∃a o,vd=.ref a/\DGet H a vk o/\ROp F β r o:=by
 cases rd with
 |@o h a eb=>
  unfold WB at e;dsimp only at e
  match hx:om[h]?,e with
  |none,e=>exact nomatch e
  |some (.ins _ _),e=>exact nomatch e
  |some (.exc _),e=>exact nomatch e
  |some (.lst _),e=>exact nomatch e
  |some (.dk kvs),e=>
   obtain⟨a',ea,_,ks,hk,rs⟩:=M.at hx;rw[eb]at ea;cases ea;dsimp only at e
   match h1:Y6 key,e with
   |none,e=>exact nomatch e
   |some k,e=>
    have e:some (UD kvs k)=some r:=e;cases e;rw[TX rk h1];exact⟨_,_,rfl,DGet.k hk,rs.val k⟩
  |some (.dz kvs),e=>
   obtain⟨a',ea,_,ob,ks,hk,rs⟩:=M.at hx;rw[eb]at ea;cases ea;dsimp only at e
   match h1:Y6 key,e with
   |none,e=>exact nomatch e
   |some k,e=>
    have e:some (UD kvs k)=some r:=e;cases e;rw[TX rk h1];exact⟨_,_,rfl,.inl ⟨ks,k,.inr ⟨ob,hk⟩,rfl,rfl⟩,rs.val k⟩
  |some (.dt kvs),e=>
   obtain⟨a',ea,_,ks,hk,rs⟩:=M.at hx;rw[eb]at ea;cases ea;dsimp only at e;cases rk with
   |@tup b xs ws q rw'=>
    dsimp only at e
    match h1:Vn ws,e with
    |none,e=>exact nomatch e
    |some k,e=>
     have e:some (UD kvs k)=some r:=e;cases e;have hb:=M.sub _ _ q;rw[SY rw' h1]at hb;exact⟨_,_,rfl,DGet.t hk hb,rs.val k⟩
   |_=>exact nomatch e
 |_=>unfold WB at e;cases e
def Ng(om:iV)(d key w:Wv):Option (iV):=match d with
 |.o h=>match om[h]? with
  |some (.dk kvs)=>match Y6 key with
   |some k=>if kvs.length<lim then some (om.set h (.dk (Vf kvs k w))) else none
   |none=>none
  |some (.dt kvs)=>match key with
   |.tup ws=>match Vn ws with
    |some ks=>if kvs.length<lim then some (om.set h (.dt (Vf kvs ks w))) else none
    |none=>none
   |_=>none
  |_=>none
 |_=>none
def ED{F H:Hp}{β:iI}{om iu:iV}{d key w:Wv}{vd vk v:V}(M:MOk F H β om)(rd:RW F β d vd)(rk:RW F β key vk)(rw':RW F β w v)(e:Ng om d key w=some iu):∃a H',vd=.ref a/\DPut H a vk v H'/\Gx F F H H' β β/\MOk F H' β iu:=by
 have ja:=UL;cases rd with
 |@o h a eb=>
  unfold Ng at e;dsimp only at e
  match hx:om[h]?,e with
  |none,e=>exact nomatch e
  |some (.ins _ _),e=>exact nomatch e
  |some (.exc _),e=>exact nomatch e
  |some (.dz _),e=>exact nomatch e
  |some (.lst _),e=>exact nomatch e
  |some (.dk kvs),e=>
   obtain⟨a',ea,_,ks,hk,rs⟩:=M.at hx;have eb2:=ea;rw[eb]at ea;cases ea;dsimp only at e
   match h1:Y6 key,e with
   |none,e=>exact nomatch e
   |some k,e=>
    have e:(if kvs.length<lim then some (om.set h (.dk (Vf kvs k w))) else none)=some iu:=e;by_cases hc:kvs.length<lim
    ·rw[aC hc]at e
     cases e;rw[TX rk h1];have:=rs.length;exact⟨_,_,rfl,DPut.k hk .(0),M.gxP eb2 (nz hk),M.put eb2 ⟨_,ZF,rs.put rw'⟩⟩
    ·rw[aD hc]at e;exact nomatch e
  |some (.dt kvs),e=>
   obtain⟨a',ea,_,ks,hk,rs⟩:=M.at hx;have eb2:=ea;rw[eb]at ea;cases ea;dsimp only at e;cases rk with
   |@tup b xs ws q nA=>
    dsimp only at e
    match h1:Vn ws,e with
    |none,e=>exact nomatch e
    |some k,e=>
     have e:(if kvs.length<lim then some (om.set h (.dt (Vf kvs k w))) else none)=some iu:=e;by_cases hc:kvs.length<lim
     ·rw[aC hc]at e
      cases e;have hb:=M.sub _ _ q;rw[SY nA h1]at hb;have:=rs.length;exact⟨_,_,rfl,DPut.t hk hb .(0),M.gxP eb2 (nz hk),M.put eb2 ⟨_,ZF,rs.put rw'⟩⟩
     ·rw[aD hc]at e;exact nomatch e
   |_=>exact nomatch e
 |_=>unfold Ng at e;cases e
def X9(d key:Wv):Mw Wv:=λom=>match WB om d key with
 |↑w=>w\om
 |_=>none
def Wz(neg:Bool)(key d:Wv):Mw Wv:=λom=>match WB om d key with
 |some r=>(.bl (if neg then !r.isSome else r.isSome))\om
 |none=>none
def isD(om:iV):Wv->Bool
 |.o h=>match om[h]? with
  |some (.dk _)=>true
  |some (.dz _)=>true
  |some (.dt _)=>true
  |_=>false
 |_=>false
def Nl(x:Wv):Mw Unit:=λom=>if isD om x=true then ()\om else none
def Gb(d key:Wv):Mw Wv:=λom=>match WB om d key with
 |some r=>(r.getD .non)\om
 |none=>none
def Q2(d key z:Wv):Mw Wv:=λom=>match WB om d key with
 |some r=>(r.getD z)\om
 |none=>none
def J5(fd fk:FE):FE:=λsl=>bnd (fd sl) λd=>bnd (Nl d) λ_=>bnd (fk sl) λk=>Gb d k
def Oq(fd fk fz:FE):FE:=λsl=>bnd (fd sl) λd=>bnd (Nl d) λ_=>bnd (fk sl) λk=>bnd (fz sl) λz=>Q2 d k z
section
variable{X:Cx}{E:XK}{e a b c o i:qS}{fd fk fz:FE}{pos p2 p iY i0:Pos}
def ROp.isSome{F:Hp}{β:iI}{r:Option Wv}{o:Option V}(h:ROp F β r o):r.isSome=o.isSome:=by
 match r,h with
 |some w,⟨v,e,_⟩=>rw[e];rfl
 |none,h=>rw[show o=none from h];rfl
def ROp.getD{F:Hp}{β:iI}{r:Option Wv}{o:Option V}{w:Wv}{v:V}(h:ROp F β r o)(q:RW F β w v):RW F β (r.getD w) (o.getD v):=by
 match r,h with
 |some w,⟨v,e,h⟩=>rw[e];exact h
 |none,h=>rw[show o=none from h];exact q
def WI(hu:X.A.units+64<cLine)(ho:PE X o (tE E fd))(hi:PE X i (tE E fk))(hs:NoSl i:=by intro _ _;rfl):PE X (.Subscript o i pos) (tE E (f2 X9 fd fk)):=(Ar .(0) ho hi hs).weak λσ H Q h=>by
 refine LW (r:=λx y H2 Q=>∃a v,x=.ref a/\DGet H2 a y (some v)/\Q v H2) ?_ h;intro F H β om x y v u Q M rx ry R;unfold X9 at R
 match hx:WB om x y,R with
 |none,R=>exact R.elim
 |some none,R=>exact R.elim
 |↑w,R=>
  obtain⟨a,o',rfl,hg,z,rfl,rz⟩:=Uy M rx ry hx;exact⟨a,z,rfl,hg,(show Res E (ret w om) F H β (PV Q) from R).now M _ rz⟩
def qe_din(hu:X.A.units+64<cLine)(hi:PE X i (tE E fk))(ho:PE X o (tE E fd))(h1:behindInMarks .In o=false:=by with_unfolding_all rfl):PE X (.Compare i [.In] [o] pos) (tE E (f2 (Wz false) fk fd)):=(Bg (D3 .(0) hi ho) h1).weak λσ H Q h=>by
 refine LW (r:=λy x H2 Q=>∃a o,x=.ref a/\DGet H2 a y o/\Q (.bl o.isSome) H2) ?_ h;intro F H β om y x u v Q M ry rx R;unfold Wz at R
 match hx:WB om x y,R with
 |none,R=>exact R.elim
 |some r,R=>
  obtain⟨a,o',rfl,hg,ro⟩:=Uy M rx ry hx;refine⟨a,o',rfl,hg,?_⟩;rw[← ro.isSome];exact(show Res E (ret (Wv.bl r.isSome) om) F H β (PV Q) from R).now M _ (.bl _)
def OJ(hu:X.A.units+64<cLine)(hi:PE X i (tE E fk))(ho:PE X o (tE E fd))(h1:behindInMarks .In o=false:=by with_unfolding_all rfl):PT X (.Compare i [.In] [o] pos) (tT E (fB (f2 (Wz false) fk fd))):=(Li (D3 .(0) hi ho) h1).weak λσ H Q h=>by
 refine LW (r:=λy x H2 Q=>∃a o,x=.ref a/\DGet H2 a y o/\Q (.bl o.isSome) H2) ?_ (Dk h);intro F H β om y x u v Q M ry rx R;unfold Wz at R
 match hx:WB om x y,R with
 |none,R=>exact R.elim
 |some r,R=>
  obtain⟨a,o',rfl,hg,ro⟩:=Uy M rx ry hx;refine⟨a,o',rfl,hg,?_⟩;rw[← ro.isSome];exact(show Res E (ret (Wv.bl r.isSome) om) F H β (PV Q) from R).now M _ (.bl _)
def RV(hu:X.A.units+64<cLine)(hi:PE X i (tE E fk))(ho:PE X o (tE E fd))(h1:behindInMarks .NotIn o=false:=by with_unfolding_all rfl):PT X (.Compare i [.NotIn] [o] pos) (tT E (fB (f2 (Wz true) fk fd))):=(Li (Fa .(0) hi ho) h1).weak λσ H Q h=>by
 refine LW (r:=λy x H2 Q=>∃a o,x=.ref a/\DGet H2 a y o/\Q (.bl (!o.isSome)) H2) ?_ (Dk h);intro F H β om y x u v Q M ry rx R;unfold Wz at R
 match hx:WB om x y,R with
 |none,R=>exact R.elim
 |some r,R=>
  obtain⟨a,o',rfl,hg,ro⟩:=Uy M rx ry hx;refine⟨a,o',rfl,hg,?_⟩;rw[← ro.isSome];exact(show Res E (ret (Wv.bl (!r.isSome)) om) F H β (PV Q) from R).now M _ (.bl _)
def Kh{γ:Type}{k:Unit->Mw γ}{F H:Hp}{β:iI}{om:iV}{w:Wv}{v:V}{P:γ->Hp->Hp->List qJ->Prop}(M:MOk F H β om)(r:RW F β w v)(R:Res E (bnd (Nl w) k om) F H β P):∃a,v=.ref a/\IsD H a/\Res E (k () om) F H β P:=by
 by_cases hc:isD om w=true
 ·have e1:Nl w om=()\om:=aC hc
  unfold bnd at R;rw[e1]at R;have R1:Res E (k () om) F H β P:=R;clear R;cases r with
  |@o h a eb=>
   refine⟨a,rfl,?_,R1⟩;have hc:(match om[h]? with|some (.dk _)=>true|some (.dz _)=>true|some (.dt _)=>true|_=>false)=true:=hc
   match hx:om[h]?,hc with
   |none,e=>exact nomatch e
   |some (.ins _ _),e=>exact nomatch e
   |some (.exc _),e=>exact nomatch e
   |some (.lst _),e=>exact nomatch e
   |some (.dk kvs),e=>
    obtain⟨a',ea,_,ks,hk,rs⟩:=M.at hx;rw[eb]at ea;cases ea;exact .inl ⟨ks,.inl hk⟩
   |some (.dz kvs),e=>
    obtain⟨a',ea,_,ob,ks,hk,rs⟩:=M.at hx;rw[eb]at ea;cases ea;exact .inl ⟨ks,.inr ⟨ob,hk⟩⟩
   |some (.dt kvs),e=>
    obtain⟨a',ea,_,ks,hk,rs⟩:=M.at hx;rw[eb]at ea;cases ea;exact .inr ⟨ks,.inl hk⟩
  |_=>exact nomatch hc
 ·have e1:Nl w om=none:=aD hc
  unfold bnd at R;rw[e1]at R;exact R.elim
def AC(hu:X.A.units+64<cLine)(ho:PE X o (tE E fd))(he:PE X e (tE E fk))(m:M1 X o "get" iY e i0:=by exact⟨rfl,rfl,rfl,rfl⟩):PE X (.Call (.Attribute o "get" iY) [e] [] i0) (tE E (J5 fd fk)):=(C1 .(0) ho he m).weak λσ H Q ⟨F,β,om,sl,M,V,R⟩=>by
 refine⟨F,β,om,sl,M,V,R.bind λx qH F1 H1 ix g1 M1 R1 v rv=>?_⟩;obtain⟨a,rfl,hd,R2⟩:=Kh M1 rv R1;refine⟨a,rfl,hd,F1,ix,qH,sl,M1,V.mono g1.toGr,R2.bind λy jH F3 H3 jN g3 M3 R3 u ru=>?_⟩;unfold Gb at R3
 match hx:WB jH x y,R3 with
 |none,R=>exact R.elim
 |some r,R=>
  obtain⟨a',o',e,hg,ro⟩:=Uy M3 (rv.mono g3.toGr) ru hx;cases e;exact⟨o',hg,(show Res E (ret (r.getD Wv.non) jH) F3 H3 jN _ from R).now M3 _ (ro.getD .non)⟩
def GQ{f':qS}(hu:X.A.units+64<cLine)(ho:PE X o (tE E fd))(he:PE X e (tE E fk))(hf:PE X f' (tE E fz))(m:M2 X o "get" iY e f' i0:=by exact⟨rfl,rfl,rfl,rfl⟩):PE X (.Call (.Attribute o "get" iY) [e,f'] [] i0) (tE E (Oq fd fk fz)):=(EE .(0) ho he hf m).weak λσ H Q ⟨F,β,om,sl,M,V,R⟩=>by
 refine⟨F,β,om,sl,M,V,R.bind λx qH F1 H1 ix g1 M1 R1 v rv=>?_⟩;obtain⟨a,rfl,hd,R2⟩:=Kh M1 rv R1;refine⟨a,rfl,hd,F1,ix,qH,sl,M1,V.mono g1.toGr,R2.bind λy jH F3 H3 jN g3 M3 R3 u ru=>?_⟩;refine⟨F3,jN,jH,sl,M3,V.mono (g1<|g3).toGr,R3.bind λz lU F4 H4 nw g4 M4 R4 zv rz=>?_⟩;unfold Q2 at R4
 match hx:WB lU x y,R4 with
 |none,R=>exact R.elim
 |some r,R=>
  obtain⟨a',o',e,hg,ro⟩:=Uy M4 (rv.mono (g3<|g4).toGr) (ru.mono g4.toGr) hx;cases e;exact⟨o',hg,(show Res E (ret (r.getD z) lU) F4 H4 nw _ from R).now M4 _ (ro.getD rz)⟩
def WW:PE X (.Dict [] [] pos) (tE E λ_=>newO (.dk [])):=CG.weak λσ H Q ⟨F,β,om,sl,M,V,R⟩ p hp=>Res.newO R M hp λiX _=>⟨[],ZF,.nil⟩
def CB:PE X (.Dict [] [] pos) (tE E λ_=>newO (.dt [])):=DM.weak λσ H Q ⟨F,β,om,sl,M,V,R⟩ p hp=>Res.newO R M hp λiX _=>⟨[],ZF,.nil⟩
end
def Yr:FS:=λsl=>ret (.nx,sl)
def Fm(S:FS):Fl × Sl->Mw (Fl × Sl)
 |(.nx,sl)=>S sl
 |x=>ret x
def Zx(S1 S2:FS):FS:=λsl=>bnd (S1 sl) (Fm S2)
def ZC(i:Nat)(f:FE):FS:=λsl=>bnd (f sl) λw=>ret (.nx,sl.set i (some w))
def ZR(f:FE):FS:=λsl=>bnd (f sl) λ_=>ret (.nx,sl)
def Ye(f:FE):FS:=λsl=>bnd (f sl) λw=>ret (.rt w,sl)
def sRetN:FS:=λsl=>ret (.rt .non,sl)
def sIf(c:FT)(S1 S2:FS):FS:=λsl=>bnd (c sl) λb=>if b=true then S1 sl else S2 sl
section
variable{X:Cx}{E:XK}{st:qR}{rest:List qR}{e:qS}{f fo fi fv:FE}{S S1 S2:FS}{c:FT}{pos:Pos}
def qss_nil:PSs X [] (tS E Yr):=AL.weak λD σ H ⟨F,β,om,sl,M,V,R⟩=>(show Res E (ret (Fl.nx,sl) om) F H β (FlP D) from R).now M σ V
def Zg(h1:PS X st (tS E S1))(h2:PSs X rest (tS E S2)):PSs X (st::rest) (tS E (Zx S1 S2)):=(C5 h1 h2).weak λD σ H ⟨F,β,om,sl,M,V,R⟩=>by
 refine⟨F,β,om,sl,M,V,R.bind λx qH F1 H1 ix g1 M1 R1=>?_⟩;obtain⟨fl,sl1⟩:=x;cases fl with
 |nx=>exact λi6 V'=>⟨F1,ix,qH,sl1,M1,V',R1⟩
 |bk=>exact(show Res E (ret (Fl.bk,sl1) qH) F1 H1 ix (FlP D) from R1).now M1
 |ct=>exact(show Res E (ret (Fl.ct,sl1) qH) F1 H1 ix (FlP D) from R1).now M1
 |rt w=>exact(show Res E (ret (Fl.rt w,sl1) qH) F1 H1 ix (FlP D) from R1).now M1
def Zs(h1:PS X st (tS E S1)):PSs X [st] (tS E S1):=AF h1
def qs_set{i:Nat}{x:Str}{jf:Pos}(hN:X.N.Nodup)(hi:X.N[i]?=some x)(hx:Loc X.env.scope x)(he:PE X e (tE E f))(hs:swapsWith e (some (.Name x jf)) pos.line X.env=pure false:=by rfl)(hf:rG X x:=by first|exact .inl rfl|exact .inr rfl|assumption):PS X (.Assign [.Name x jf] e pos) (tS E (ZC i f)):=(ps_set hN hi hx he hs hf).weak λD σ H ⟨F,β,om,sl,M,V,R⟩=>
 ⟨F,β,om,sl,M,V,R.bind λx qH F1 H1 ix g1 M1 R1 v rv=>(show Res E (ret (Fl.nx,sl.set i (some x)) qH) F1 H1 ix (FlP D) from R1).now M1 _ ((V.mono g1.toGr).set i rv)⟩
def Z3(he:PE X e (tE E f))(hs:rM e pos X:=by rfl):PS X (.Expr e pos) (tS E (ZR f)):=(Aw he hs).weak λD σ H ⟨F,β,om,sl,M,V,R⟩=>
 ⟨F,β,om,sl,M,V,R.bind λx qH F1 H1 ix g1 M1 R1 v rv=>(show Res E (ret (Fl.nx,sl) qH) F1 H1 ix (FlP D) from R1).now M1 _ (V.mono g1.toGr)⟩
def qs_ret(he:PE X e (tE E f)):PS X (.Return (some e) pos) (tS E (Ye f)):=(ps_ret he).weak λD σ H ⟨F,β,om,sl,M,V,R⟩=>
 ⟨F,β,om,sl,M,V,R.bind λx qH F1 H1 ix g1 M1 R1 v rv=>(show Res E (ret (Fl.rt x,sl) qH) F1 H1 ix (FlP D) from R1).now M1 _ rv⟩
def AZ:PS X (.Return none pos) (tS E sRetN):=BL.weak λD σ H ⟨F,β,om,sl,M,V,R⟩=>(show Res E (ret (Fl.rt .non,sl) om) F H β (FlP D) from R).now M _ .non
def tS_if{D:Ends}{σ:St}{H:Hp}(h:tS E (sIf c S1 S2) D σ H):tIfS (tT E c) (tS E S1) (tS E S2) D σ H:=by
 obtain⟨F,β,om,sl,M,V,R⟩:=h;refine⟨F,β,om,sl,M,V,R.bind λb qH F1 H1 ix g1 M1 R1=>?_⟩;cases b with
 |true=>rw[aC rfl]at R1 ⊢;exact⟨F1,ix,qH,sl,M1,V.mono g1.toGr,R1⟩
 |false=>rw[aD aF]at R1 ⊢;exact⟨F1,ix,qH,sl,M1,V.mono g1.toGr,R1⟩
def Kq{t:qS}{a b:List qR}(hc:PT X t (tT E c))(ha:PSs X a (tS E S1))(hb:PSs X b (tS E S2)):PS X (.If t a b pos) (tS E (sIf c S1 S2)):=(ps_if hc ha hb).weak λD σ H h=>tS_if h
def Gc(o i v:Wv):Mw Unit:=λom=>match Vs om o,i with
 |some (h,ws),.int k=>match ixN ws.length k with
  |some j=>()\om.set h (.lst (ws.set j v))
  |none=>none
 |_,_=>none
def Xn(fv fo fi:FE):FS:=λsl=>bnd (fv sl) λv=>bnd (fo sl) λo=>bnd (fi sl) λi=>bnd (Gc o i v) λ_=>ret (.nx,sl)
def AD{o i v:qS}{p1:Pos}(hv:PE X v (tE E fv))(ho:PE X o (tE E fo))(hi:PE X i (tE E fi)){w}(hg:PG X (.Subscript o i p1) (gSub (tE E fo) (tE E fi) rSetL):=by exact Dl ‹_› ‹_› set_list)(hs:swapsWithSole [.Subscript o i p1] v pos.line X.env=pure false:=by rfl) (hw:swappedStores [.Subscript o i p1] v X.env=pure w:=by rfl)(h1:(assignEach [.Subscript o i p1] X.env).map (·.2)=[assign (.Subscript o i p1) X.env]:=by rfl) (nC:w=none:=by rfl):PS X (.Assign [.Subscript o i p1] v pos) (tS E (Xn fv fo fi)):=by
 subst nC;refine(ps_asg hv hg hs hw h1).weak λD σ H ⟨F,β,om,sl,M,V,R⟩=>?_
 refine⟨F,β,om,sl,M,V,R.bind λx qH F1 H1 ix g1 M1 R1 xv rx=>?_⟩;refine⟨F1,ix,qH,sl,M1,V.mono g1.toGr,R1.bind λy om2 F2 H2 jo g2 M2 R2 yv ry=>?_⟩;refine⟨F2,jo,om2,sl,M2,V.mono (g1<|g2).toGr,R2.bind λz jH F3 H3 jN g3 M3 R3 zv rz=>?_⟩;unfold bnd Gc at R3
 match hx:Vs jH y,z,rz,R3 with
 |none,_,_,R3=>exact R3.elim
 |some (h,ws),.int k,.int _,R3=>
  dsimp only at R3;obtain⟨a,xs,_,_,eb,rfl,ha,rs⟩:=TU M3 (ry.mono g3.toGr) hx
  match hj:ixN ws.length k,R3 with
  |none,R3=>exact R3.elim
  |some j,R3=>
   refine⟨a,xs,k,j,rfl,rfl,ha,by rw[← rs.length];exact hj,?_⟩;exact(show Res E (some (Except.ok (Fl.nx,sl),jH.set h (.lst (ws.set j x)))) F3 H3 jN (FlP D) from R3) F3 _ jN (M3.gxP eb (nz ha)) (M3.put eb ⟨_,ZF,RWs.set (rx.mono (g2<|g3).toGr) j rs⟩) σ (V.mono (g1<|g2.trans g3).toGr)
def Om(v d k:Wv):Mw Unit:=λom=>match Ng om d k v with
 |some iu=>()\iu
 |none=>none
def YW(fv fd fk:FE):FS:=λsl=>bnd (fv sl) λv=>bnd (fd sl) λd=>bnd (fk sl) λk=>bnd (Om v d k) λ_=>ret (.nx,sl)
def XZ{o i v:qS}{p1:Pos}(hu:X.A.units+64<cLine)(hv:PE X v (tE E fv))(ho:PE X o (tE E fo))(hi:PE X i (tE E fi))(hs:swapsWith v (some (.Subscript o i p1)) pos.line X.env=pure false:=by rfl):PS X (.Assign [.Subscript o i p1] v pos) (tS E (YW fv fo fi)):=by
 refine(BY .(0) ho hi hv hs).weak λD σ H ⟨F,β,om,sl,M,V,R⟩=>?_
 refine⟨F,β,om,sl,M,V,R.bind λx qH F1 H1 ix g1 M1 R1 xv rx=>?_⟩;refine⟨F1,ix,qH,sl,M1,V.mono g1.toGr,R1.bind λy om2 F2 H2 jo g2 M2 R2 yv ry=>?_⟩;refine⟨F2,jo,om2,sl,M2,V.mono (g1<|g2).toGr,R2.bind λz jH F3 H3 jN g3 M3 R3 zv rz=>?_⟩;unfold bnd Om at R3
 match hx:Ng jH y z x,R3 with
 |none,R3=>exact R3.elim
 |some iu,R3=>
  obtain⟨a,H',rfl,hp,gg,MM⟩:=ED M3 (ry.mono g3.toGr) rz (rx.mono (g2<|g3).toGr) hx;exact⟨a,H',rfl,hp,(show Res E (some (Except.ok (Fl.nx,sl),iu)) F3 H3 jN (FlP D) from R3) F3 H' jN gg MM σ (V.mono (g1<|g2.trans g3).toGr)⟩
def Wm(f:Str)(v:Wv):iS->List (Str × Wv)
 |[]=>[(f,v)]
 |(g,u)::r=>if g=f then (g,v)::r else (g,u)::Wm f v r
def RK.putF{F:Hp}{β:iI}{n:Str}{w:Wv}{v:V}(h:RW F β w v):∀{ps:iS} {qs:List (Str × V)},RK F β ps qs->RK F β (Wm n w ps) (L2.putF n v qs)
 |_,_,.nil=>.cons h .nil
 |_,_,.cons (k:=k') h' r=>by
  unfold Wm L2.putF;by_cases hk:k'=n
  ·rw[aC hk,aC hk];exact .cons h r
  ·rw[aD hk,aD hk];exact .cons h' (RK.putF h r)
def N7(C:qJ)(n:Str)(v x:Wv):Mw Unit:=λom=>match x with
 |.o h=>match om[h]? with
  |some (.ins C' fs)=>if C'=C/\fs.length<900 then ()\om.set h (.ins C' (Wm n v fs)) else none
  |_=>none
 |_=>none
def Xs(C:qJ)(n:Str)(fv fo:FE):FS:=λsl=>bnd (fv sl) λv=>bnd (fo sl) λx=>bnd (N7 C n v x) λ_=>ret (.nx,sl)
def qs_fld{o v:qS}{n:Str}{C:qJ}{p1:Pos}(cl:Cls X.K C)(na:NoAttr X.K C n)(hv:PE X v (tE E fv))(ho:PE X o (tE E fo))(hs:swapsWith v (some (.Attribute o n p1)) pos.line X.env=pure false:=by rfl):PS X (.Assign [.Attribute o n p1] v pos) (tS E (Xs C n fv fo)):=by
 refine(ps_fld ho hv hs).weak λD σ H ⟨F,β,om,sl,M,V,R⟩=>?_
 refine⟨F,β,om,sl,M,V,R.bind λx qH F1 H1 ix g1 M1 R1 xv rx=>?_⟩;refine⟨F1,ix,qH,sl,M1,V.mono g1.toGr,R1.bind λy om2 F2 H2 jo g2 M2 R2 yv ry=>?_⟩;unfold bnd N7 at R2;cases ry with
 |@o h a eb=>
  dsimp only at R2
  match hx:om2[h]?,R2 with
  |none,R=>exact R.elim
  |some (.exc _),R=>exact R.elim
  |some (.dz _),R=>exact R.elim
  |some (.lst _),R=>exact R.elim
  |some (.dt _),R=>exact R.elim
  |some (.dk _),R=>exact R.elim
  |some (.ins C' fs),R=>
   obtain⟨a',ea,_,dx,jE,hf,rs⟩:=M2.at hx;have eb2:=ea;rw[eb]at ea;cases ea;dsimp only at R;by_cases hc:C'=C/\fs.length<900
   ·have R5:Res E (some (Except.ok (Fl.nx,sl),om2.set h (.ins C' (Wm n x fs)))) F2 H2 jo (FlP D):=by
     have:=R;rw[aC hc]at this;exact this
    obtain⟨rfl,hl⟩:=hc;have:=rs.length;refine⟨a,C',dx,jE,rfl,hf,cl,na,.(0),?_⟩;exact R5 F2 _ jo (M2.gxP eb2 (nz hf)) (M2.put eb2 ⟨dx,_,ZF,rs.putF (rx.mono g2.toGr)⟩) σ (V.mono (g1<|g2).toGr)
   ·rw[aD hc]at R;exact R.elim
 |_=>exact R2.elim
end
def ItC(C:Hp->Prop)(J:It)(ws:iR)(F:Hp)(β:iI):Prop:=∀F' iX H,Gr F F' β iX->Same F' H->C H->(∀(i:Nat) w,ws[i]?=some w->J.go i H/\∀x H',J.yld i H x H'->H'=H/\RW F' iX w x)/\∀i,ws.length<=i->J.stop i H
abbrev IG:=ItC λ_=>True
def ItC.mono{C:Hp->Prop}{J:It}{ws:iR}{F F':Hp}{β iX:iI}(h:ItC C J ws F β)(g:Gr F F' β iX):ItC C J ws F' iX:=λF2 jo H g2 s=>h F2 jo H (g<|g2) s
abbrev FI:=Sl->Mw (iR)
def tI(E:XK)(f:FI):TI:=λσ H R=>∃F β om sl,MOk F H β om/\EnvOk F β σ sl/\Res E (f sl om) F H β λws F' H' iX=>∀J,IG J ws F' iX->R J H'
def PI.weak{X:Cx}{tg e:qS}{t t':TI}(h:PI X tg e t)(w:∀σ H Q,t' σ H Q->t σ H Q):PI X tg e t':=λgV s σ H Q I q=>h gV s σ H Q I (w σ H Q q)
def ZO:Wv->Mw (iR)
 |.lst ws=>ret ws
 |_=>W0
def Vj(n:Nat):iR:=(List.range n).map λ(i:Nat)=>.int i
def AX(lo:Int)(n:Nat):iR:=(List.range n).map λ(i:Nat)=>.int (lo+i)
def YF:Wv->Mw (iR)
 |.int j=>bnd (chk (decide (-(2 ^ 62)<=j/\j<2 ^ 62))) λ_=>ret (Vj j.toNat)
 |_=>W0
section
variable{X:Cx}{E:XK}{e a b tg:qS}{es:iN}{f:FE}{fs:FA}{p pos:Pos}
def itl_ok{K:iC}{F:Hp}{β:iI}{a:qJ}{xs:iQ}{ws:iR}(q:Rd F a (.lst xs))(rs:RWs F β ws xs):IG (Itl K a) ws F β:=λF' iX H g s _=>by
 have hS:SqL K H a xs:=.inl (Rd.same s (Rd.same g.same q));refine⟨λi w e=>?_,λi hi=>⟨xs,hS,by rw[← rs.length];exact hi⟩⟩;obtain⟨v,ev,rv⟩:=rs.get e;refine⟨⟨xs,v,hS,ev⟩,λx H' ⟨e1,e2⟩=>⟨e1,?_⟩⟩;have:=e2 xs hS;rw[ev]at this;cases this;exact rv.mono g
def itr_ok{F:Hp}{β:iI}(lo:Int)(n:Nat):IG (Itr lo n) (AX lo n) F β:=λF' iX H g s _=>by
 unfold AX;refine⟨λi w e=>?_,λi hi=>(show n<=i by simpa using hi)⟩;have hi:i<n:=by have:=(aJ.mp e).1;simpa using this
 rw[bB,dm hi]at e;cases e;exact⟨hi,λx H' ⟨e1,e2⟩=>⟨e1,by rw[e2];exact .int _⟩⟩
def Bv(n:Nat):Vj n=AX 0 n:=by
 unfold Vj AX;exact cP λi _=>by rw[Int.zero_add]
def Yb(hl:PE X e (tE E f)):PI X tg e (tI E λsl=>bnd (f sl) ZO):=(pi_list hl).weak λσ H Q ⟨F,β,om,sl,M,V,R⟩=>by
 refine⟨F,β,om,sl,M,V,R.bind λx qH F1 H1 ix g1 M1 R1 v rv=>?_⟩;cases rv with
 |@lst a xs ws q rs=>exact⟨a,rfl,⟨xs,.inl (Rd.same M1.sub q)⟩,(show Res E (ret ws qH) F1 H1 ix _ from R1).now M1 _ (itl_ok q rs)⟩
 |_=>exact R1.elim
def YA(hg:Gl X "range")(hm:X.mg "range"=none)(ha:PE X a (tE E f))(h0:starEach [a] X.env=(false,eval a X.env)::starEach [] X.env:=by rfl)(hs:starEach [a] X.env=[(false,eval a X.env)]:=by rfl):PI X tg (.Call (.Name "range" p) [a] [] pos) (tI E λsl=>bnd (f sl) YF):=(Fp hg hm (X1 ha Vq h0) hs).weak λσ H Q ⟨F,β,om,sl,M,V,R⟩=>by
 refine⟨F,β,om,sl,M,V,R.bind λw qH F1 H1 ix g1 M1 R1 v rv=>?_⟩;cases rv with
 |int j=>
  obtain⟨hc,R2⟩:=Res.chk R1;obtain⟨h1,h2⟩:=bC hc;refine⟨j,rfl,h1,h2,?_⟩;have R3:Res E (ret (Vj j.toNat) qH) F1 H1 ix λws F' H' iX=>∀J,IG J ws F' iX->Q J H':=R2
  exact R3.now M1 _ (by rw[Bv];exact itr_ok 0 _)
 |_=>exact R1.elim
end
abbrev TgW:=Wv->Sl->Option Sl
def Ip(g:TG)(T:TgW):Prop:=∀{F H:Hp} {β:iI} {om:iV} {σ:St} {sl jc:Sl} {w:Wv} {v:V} {Q:St->Hp->Prop},MOk F H β om->EnvOk F β σ sl->RW F β w v->T w sl=some jc->(∀i6,EnvOk F β i6 jc->Q i6 H)->g v σ H Q
def tgN(i:Nat):TgW:=λw sl=>some (sl.set i (some w))
def NP(i:Nat):Ip (Nd i) (tgN i):=λM V r e q=>by
 cases e;exact q _ (V.set i r)
def Qe(again:Sl->Mw (Fl × Sl)):Fl × Sl->Mw (Fl × Sl)
 |(.nx,sl)=>again sl
 |(.ct,sl)=>again sl
 |(.bk,sl)=>ret (.nx,sl)
 |(.rt w,sl)=>ret (.rt w,sl)
def WS(T:TgW)(S:FS):iR->FS
 |[],sl=>ret (.nx,sl)
 |w::r,sl=>match T w sl with
  |none=>W0
  |some sl1=>bnd (S sl1) (Qe λjd=>WS T S r jd)
def Wf(fi:FI)(T:TgW)(S:FS):FS:=λsl=>bnd (fi sl) λws=>WS T S ws sl
section
variable{X:Cx}{E:XK}{tg iz:qS}{body:List qR}{fi:FI}{T:TgW}{g:TG}{S:FS}{pos:Pos}
def for_go{D:Ends}{J:It}{ws:iR}{σ:St}{H F:Hp}{β:iI}{om:iV}{sl:Sl}(ht:Ip g T)(hJ:IG J ws F β)(M:MOk F H β om)(V:EnvOk F β σ sl)(R:Res E (WS T S ws sl om) F H β (FlP D)):∃W:Nat->Nat->St->Hp->Prop,(∃m,W 0 m σ H)/\∀i m σ H,W i m σ H -> (J.stop i H/\D.nx σ H)\/(J.go i H/\∃N:St->Hp->Prop,(∀i6 H',N i6 H'->∃m',m'<m/\W (i+1) m' i6 H')/\∀x H',J.yld i H x H'->g x σ H' λjy H2=>tS E S {D with nx:=N,ct:=N,bk:=D.nx} jy H2):=by
 refine⟨λi m σ H=>m=ws.length-i/\i<=ws.length/\∃F β om sl,IG J ws F β/\MOk F H β om/\EnvOk F β σ sl/\Res E (WS T S (ws.drop i) sl om) F H β (FlP D),⟨ws.length,.(2),cF _,F,β,om,sl,hJ,M,V,R⟩,?_⟩;rintro i m σ H ⟨rfl,hi,F,β,om,sl,hJ,M,V,R⟩;obtain⟨j1,j2⟩:=hJ F β H (Gr.refl _ _) M.sub True.intro;by_cases jg:i<ws.length
 ·obtain⟨go,yl⟩:=j1 i ws[i] (aK jg)
  refine .inr ⟨go,λi6 H'=>i+1<=ws.length/\∃F β om sl,IG J ws F β/\MOk F H' β om/\EnvOk F β i6 sl/\Res E (WS T S (ws.drop (i+1)) sl om) F H' β (FlP D),λi6 H' ⟨h1,h2⟩=>⟨ws.length-(i+1),.(0),rfl,h1,h2⟩,λx H' hy=>?_⟩;obtain⟨rfl,rx⟩:=yl x H' hy;rw[fJ jg]at R;have R:Res E ((match T ws[i] sl with|none=>W0|some sl1=>bnd (S sl1) (Qe λjd=>WS T S (ws.drop (i+1)) jd)) om) F H' β (FlP D):=R
  match hT:T ws[i] sl,R with
  |none,R=>exact R.elim
  |some sl1,R=>
   refine ht M V rx hT λjy V2=>?_
   refine⟨F,β,om,sl1,M,V2,Res.bind R λy qH F1 H1 ix g1 M1 R1=>?_⟩;obtain⟨fl,jd⟩:=y;cases fl with
   |nx=>exact λi6 V'=>⟨jg,F1,ix,qH,jd,hJ.mono g1.toGr,M1,V',R1⟩
   |ct=>exact λi6 V'=>⟨jg,F1,ix,qH,jd,hJ.mono g1.toGr,M1,V',R1⟩
   |bk=>exact(show Res E (ret (Fl.nx,jd) qH) F1 H1 ix (FlP D) from R1).now M1
   |rt w=>exact(show Res E (ret (Fl.rt w,jd) qH) F1 H1 ix (FlP D) from R1).now M1
 ·have e:i=ws.length:=by omega
  subst e;rw[hV]at R;exact .inl ⟨j2 _ (aM _),(show Res E (ret (Fl.nx,sl) om) F H β (FlP D) from R).now M σ V⟩
def Cd(hp:PassesOwn (model X.prog X.w) X.A X.env X.xe)(hc:X.calm=true)(hi:PI X tg iz (tI E fi))(hg:PG X tg g)(ht:Ip g T)(hb:PSs X body (tS E S))(hs:∀x,foldedSetIterable iz X.env x=pure x:=by intro _;rfl):PS X (.For tg iz body [] pos) (tS E (Wf fi T S)):=(C6 hp hc hi hg hb hs).weak λD σ H ⟨F,β,om,sl,M,V,R⟩=>by
 refine⟨F,β,om,sl,M,V,R.bind λws qH F1 H1 ix g1 M1 R1 J hJ=>?_⟩;exact for_go ht hJ M1 (V.mono g1.toGr) R1
end
def XN(js:iL)(w:Wv)(sl:Sl):Sl:=some w::js.map λj=>(sl[j]?).join
def EnvOk.comp{F:Hp}{β:iI}{σ:St}{sl:Sl}{w:Wv}{v:V}(V:EnvOk F β σ sl)(js:iL)(r:RW F β w v):EnvOk F β (S3 js (some v) σ) (XN js w sl):=by
 refine⟨by simp[XN,S3],λi u e=>?_⟩;cases i with
 |zero=>
  have e:↑w=↑u:=e;cases e;exact⟨v,rfl,r⟩
 |succ k=>
  have e:(js.map λj=>(sl[j]?).join)[k]?=↑u:=e;rw[bB]at e
  match hj:js[k]?,e with
  |none,e=>exact nomatch e
  |some j,e=>
   have e:some (sl[j]?).join=↑u:=e
   have e2:sl[j]?=↑u:=by
    cases q:sl[j]? with
    |none=>rw[q]at e;cases e
    |some o=>
     rw[q]at e;have e:some o=↑u:=e;cases e;rfl
   obtain⟨v',h1,h2⟩:=V.get j u e2;refine⟨v',?_,h2⟩;show(js.map λj=>(σ[j]?).join)[k]?=↑v';rw[bB,hj,fh,h1];rfl
def MB(again:Mw (iR))(f:Mw Wv)(b:Bool):Mw (iR):=if b=true then bnd (Z0 f) λx=>bnd again λxs=>ret (x::xs) else again
def Xk(c:FT)(f:FE)(mk:Wv->Sl):iR->Mw (iR)
 |[]=>ret []
 |w::r=>bnd (Z0 (c (mk w))) (MB (Xk c f mk r) (f (mk w)))
def Yk(k:iR->Mw Wv)(js:iL)(fi:FI)(c:FT)(f:FE):FE:=λsl=>bnd (fi sl) λws=>bnd (chk (decide (ws.length<=lim))) λ_=>bnd (Xk c f (λw=>XN js w sl) ws) k
def Xl:FT:=λ_=>ret true
def Xd{X:Cx}{E:XK}:Tm X [] (tT E Xl):=λgV s σ H Q I ⟨F,β,om,sl,M,V,R⟩=>E7 gV s σ H Q I ((show Res E (ret true om) F H β _ from R).now M)
def YG{X:Cx}{E:XK}{e:qS}{c:FT}(h:PT X e (tT E c)):Tm X [e] (tT E c):=Br h
def T8{α γ δ:Type}(m:Mw α)(k:α->Mw γ)(l:γ->Mw δ):bnd (bnd m k) l=bnd m λx=>bnd (k x) l:=by
 funext om;unfold bnd
 match m om with
 |none=>rfl
 |a\iu=>rfl
 |c∩iu=>rfl
def Res.calm{E E':XK}{α γ:Type}{m:Mw α}{k:α->Mw γ}{F H:Hp}{β:iI}{om:iV}{P:γ->Hp->Hp->List qJ->Prop}{P':α->Hp->Hp->List qJ->Prop}(R:Res E (bnd (Z0 m) k om) F H β P)(h:∀x qH F1 H1 ix,Gx F F1 H H1 β ix->MOk F1 H1 ix qH->Res E (k x qH) F1 H1 ix P->P' x F1 H1 ix):Res E' (m om) F H β P':=by
 unfold bnd Z0 at R
 match hm:m om,R with
 |x\iu,R=>exact λF' H' iX g M=>h x iu F' H' iX g M (Res.mono g R)
 |c∩iu,R=>exact R.elim
 |none,R=>exact R.elim
def wo(H:Hp)(D:qJ):Hp:=λb=>if b=D then none else H b
def LR{H:Hp}{D:qJ}{o:HO}(e:H D=some o):upd (wo H D) D o=H:=by
 funext b;unfold upd wo;by_cases h:b=D
 ·rw[aC h,h,e]
 ·rw[aD h,aD h]
def JV{H:Hp}{D b:qJ}(h:b≠D):wo H D b=H b:=aD h
def M6{H:Hp}{D:qJ}:wo H D D=none:=aC rfl
section
variable{X:Cx}{E:XK}{js:iL}{c:FT}{f:FE}{k:iR->Mw Wv}
def beside{F F' Hm H':Hp}{β iX:iI}{om iu:iV}{D:qJ}{ys:iQ}(hD:Hm D=none)(M:MOk F Hm β om)(g:Gx F F' (upd Hm D (.lst ys)) H' β iX)(M':MOk F' H' iX iu):H' D=some (.lst ys)/\Gx F F' Hm (wo H' D) β iX/\MOk F' (wo H' D) iX iu:=by
 have nD:D ∉ β:=λhm=>by
  obtain⟨i,hi⟩:=dI hm;obtain⟨x,hx⟩:=M.there hi;rw[hD]at hx;cases hx
 have fD:F D=none:=M.sub.free hD;have e1:H' D=some (.lst ys):=g.keep D _ ZF nD;have nD':D ∉ iX:=λhm=>(g.new D hm).elim nD λz=>by rw[ZF]at z;cases z
 have fD':F' D=none:=by
  cases q:F' D with
  |none=>rfl
  |some o=>
   rcases g.fnew D o q with z|z
   ·rw[fD]at z;cases z
   ·rw[ZF]at z;cases z
 refine⟨e1,⟨g.toGr,λb o e hb=>?_,λb e=>?_,λb hb=>?_,λb o e=>?_,λb o u e=>?_⟩,⟨λb o e=>?_,M'.nd,M'.len,M'.free,λh a x h1 h2=>(M'.ob h a x h1 h2).mono (Gr.refl _ _) ?_⟩⟩
 ·have hbD:b≠D:=Z5 e hD
  rw[JV hbD];exact g.keep b o (by rw[Zy hbD];exact e) hb
 ·by_cases hbD:b=D
  ·rw[hbD];exact hD
  ·rw[JV hbD]at e
   have:=g.there b e;rw[Zy hbD]at this;exact this
 ·rcases g.new b hb with h|h
  ·exact .inl h
  ·have hbD:b≠D:=λz=>nD' (z ▸ hb)
   rw[Zy hbD]at h;exact .inr h
 ·rcases g.fnew b o e with h|h
  ·exact .inl h
  ·have hbD:b≠D:=λz=>by rw[z,fD']at e;cases e
   rw[Zy hbD]at h;exact .inr h
 ·have hbD:b≠D:=Z5 e hD
  rw[JV hbD];exact g.frz b o u (by rw[Zy hbD];exact e)
 ·have hbD:b≠D:=λz=>by rw[z,fD']at e;cases e
  rw[JV hbD];exact M'.sub b o e
 ·exact JV λz=>nD' (z ▸ bN h1)
def TR{C:Hp->Prop}{J:It}{ws:iR}{σ:St}{sl:Sl}{F1 H1 F0 H0:Hp}{ix jU:iI}{qH:iV}{P:Wv->Hp->Hp->List qJ->Prop}{Q:VK}{D:qJ}{mk:Wv->Sl}{K:V->Hp->(St->Hp->Prop)->Prop}(oA:Wv->Prop)(GG:Hp->Hp->List qJ->Prop)(hK:∀{F H:Hp} {β:iI} {om:iV} {w:Wv} {x:V} {P:St->Hp->Prop},MOk F H β om->EnvOk F β σ sl->RW F β w x->oA w->(∀jy,EnvOk F β jy (mk w)->P jy H)->K x H P) (nE:∀w∈ws,oA w)(hG:∀{F F' H H':Hp} {β iX:iI} {om:iV},MOk F H β om->GG F H β->Gx F F' H H' β iX->GG F' H' iX) (hC:∀{F H:Hp} {β:iI},GG F H β->C H) (hJ:ItC C J ws F1 ix)(hk:∀{us:iR} {vs:iQ} {om:iV} {F H:Hp} {β:iI},MOk F H β om->GG F H β->RWs F β us vs->Res E (k us om) F0 H0 jU P->H D=none->Q (.ref D) (upd H D (.lst vs)))(M1:MOk F1 H1 ix qH) (V0:EnvOk F1 ix σ sl) (G1:GG F1 H1 ix) (hD:H1 D=none) (kA:ws.length<=lim) (R1:Res E (bnd (Xk c f mk ws) k qH) F0 H0 jU P):∃W:Nat->Nat->List V->Hp->Prop,(∃m,W 0 m [] (upd H1 D (.lst [])))/\∀i m ys H2,W i m ys H2->H2 D=some (.lst ys) /\ ((J.stop i H2/\Q (.ref D) H2)\/(J.go i H2/\∀x H',J.yld i H2 x H'->K x H' λjy H6=>tT E0 c jy H6 λb H3=>if b=true then tE E0 f jy H3 λv H4=>H4 D=some (.lst ys)/\ys.length<sizeLine/\∃m',m'<m/\W (i+1) m' (ys++[v]) (upd H4 D (.lst (ys++[v])))
      else ∃m',m'<m/\W (i+1) m' ys H3)):=by
 have ja:=UL
 refine⟨λi m ys H2=>m=ws.length-i/\i<=ws.length/\ys.length<=i/\∃F β om Hm i7,H2=upd Hm D (.lst ys)/\Hm D=none/\ItC C J ws F β/\GG F Hm β/\MOk F Hm β om/\EnvOk F β σ sl/\RWs F β i7 ys/\Res E (bnd (Xk c f mk (ws.drop i)) (λxs=>k (i7++xs)) om) F0 H0 jU P,
  ⟨ws.length,.(2),cF _,cF _,F1,ix,qH,H1,[],rfl,hD,hJ,G1,M1,V0,.nil,R1⟩,?_⟩
 rintro i m ys H2 ⟨rfl,hi,hys,F,β,om,Hm,i7,rfl,hDm,hJ,G,M,V,ra,R⟩;refine⟨ZF,?_⟩;have MU:MOk F (upd Hm D (.lst ys)) β om:=M.newU hDm;obtain⟨j1,j2⟩:=hJ F β _ (Gr.refl _ _) MU.sub (hC (hG M G (M.gxU (o:=.lst ys) hDm)));by_cases jg:i<ws.length
 ·obtain⟨go,yl⟩:=j1 i ws[i] (aK jg)
  refine .inr ⟨go,λx H' hy=>?_⟩;obtain⟨rfl,rx⟩:=yl x H' hy;rw[fJ jg]at R;have R:Res E (bnd (bnd (Z0 (c (mk ws[i]))) (MB (Xk c f mk (ws.drop (i+1))) (f (mk ws[i])))) (λxs=>k (i7++xs)) om) F0 H0 jU P:=R;rw[T8]at R;refine hK MU V rx (nE _ (du jg)) λjy V2=>?_
  refine⟨F,β,om,_,MU,V2,?_⟩;have R':=R;unfold bnd Z0 at R'
  match hm:c (mk ws[i]) om,R' with
  |none,R'=>exact R'.elim
  |_∩_,R'=>exact R'.elim
  |b\qH,R'=>
   clear R;intro F1 H1 ix g1 M1;obtain⟨e1,pi,nF⟩:=beside hDm M g1 M1;have R1:Res E (bnd (MB (Xk c f mk (ws.drop (i+1))) (f (mk ws[i])) b) (λxs=>k (i7++xs)) qH) F0 H0 jU P:=R';have G1:=hG M G pi;cases b with
   |false=>
    rw[aD aF];refine⟨ws.length-(i+1),.(0),rfl,jg,.(0),F1,ix,qH,wo H1 D,i7,(LR e1).symm,M6,hJ.mono g1.toGr,G1,nF,V.mono g1.toGr,ra.mono g1.toGr,R1⟩
   |true=>
    rw[aC rfl];have R2:Res E (bnd (bnd (Z0 (f (mk ws[i]))) λx=>bnd (Xk c f mk (ws.drop (i+1))) λxs=>ret (x::xs)) (λxs=>k (i7++xs)) qH) F0 H0 jU P:=R1;rw[T8]at R2;refine⟨F1,ix,qH,_,M1,V2.mono g1.toGr,?_⟩;unfold bnd Z0 at R2
    match jZ:f (mk ws[i]) qH,R2 with
    |none,R2=>exact R2.elim
    |_∩_,R2=>exact R2.elim
    |y\om2,R2=>
     intro F2 H2 jo g2 M2 v rv;obtain⟨e2,pq,pv⟩:=beside (Hm:=wo H1 D) (ys:=ys) M6 nF (by rw[LR e1];exact g2) M2;have R3:Res E (bnd (bnd (Xk c f mk (ws.drop (i+1))) λxs=>ret (y::xs)) (λxs=>k (i7++xs)) om2) F0 H0 jU P:=R2;rw[T8]at R3
     have R3:Res E (bnd (Xk c f mk (ws.drop (i+1))) (λxs=>k ((i7++[y])++xs)) om2) F0 H0 jU P:=by
      have e:(λxs=>k ((i7++[y])++xs))=λxs=>k (i7++y::xs):=by funext xs;rw[bT];rfl
      rw[e];exact R3
     have ra2:RWs F2 jo (i7++[y]) (ys++[v]):=(ra.mono (g1<|g2).toGr).append (.cons rv .nil);refine⟨e2,.(0),ws.length-(i+1),.(0),rfl,jg,by rw[aV,gv];omega,F2,jo,om2,wo H2 D,i7++[y],?_,M6,hJ.mono (g1<|g2).toGr,hG nF G1 pq,pv,V.mono (g1<|g2).toGr,ra2,R3⟩;rw[← LR e2,GX,LR e2]
 ·have e:i=ws.length:=by omega
  subst e;rw[hV]at R;have R:Res E (k (i7++[]) om) F0 H0 jU P:=R;rw[bF]at R;exact .inl ⟨j2 _ (aM _),hk M G ra R hDm⟩
def HZ{fi:FI}(hk:VR E k){σ:St}{H:Hp}{Q:VK}(h:tE E (Yk k js fi c f) σ H Q):Ky (tI E fi) js (λ_ _ _ _=>tT E0 c) (λ_ _ _ _=>tE E0 f) σ H Q:=by
 obtain⟨F,β,om,sl,M,V,R⟩:=h;refine⟨F,β,om,sl,M,V,R.bind λws qH F1 H1 ix g1 M1 R1 J hJ D hD _ _ _ _=>?_⟩;obtain⟨kA,R1⟩:=Res.chk R1;exact TR (C:=λ_=>True) (mk:=λw=>XN js w sl) (K:=λx H' P=>P (S3 js (some x) σ) H') (λ_=>True) (λF H β=>Gx F1 F H1 H ix β) (λ_ V r _ h=>h _ (V.comp js r)) (λ_ _=>True.intro) (λ_ a b=>a<|b) (λ_=>True.intro) hJ (λM' G' rs R' kU=>(hk M' rs (Res.mono G' R')).2 kU) M1 (V.mono g1.toGr) (Gx.refl _ _ _) hD (bC kA) R1
def parts:Wv->List Wv
 |.tup ws=>ws
 |_=>[]
def Ek(n:Nat):Wv->Bool
 |.tup ws=>decide (ws.length=n)
 |_=>false
def VV(js:iL)(w:Wv)(sl:Sl):Sl:=(parts w).map some++js.map λj=>(sl[j]?).join
def Xy(k:iR->Mw Wv)(n:Nat)(js:iL)(fi:FI)(c:FT)(f:FE):FE:=λsl=>bnd (fi sl) λws=>bnd (chk (decide (ws.length<=lim)&&ws.all (Ek n))) λ_=>bnd (Xk c f (λw=>VV js w sl) ws) k
abbrev gNs:iL->TGs
 |[]=>gNil
 |i::is=>gCons (Nd i) (gNs is)
def N6{H:Hp}{Q:St->Hp->Prop}:∀(k s:Nat) (pre lK cap:St) (vs:iQ),pre.length=s->lK.length=k->vs.length=k->Q (pre++vs.map some++cap) H->gNs (List.range' s k) vs (pre++lK++cap) H Q
 |0,s,pre,[],cap,[],_,_,_,q=>⟨rfl,q⟩
 |k+1,s,pre,a::lK,cap,v::vs,hp,h0,hv,q=>by
  refine⟨v,vs,rfl,?_⟩
  have e:(pre++a::lK++cap).set s (some v)=(pre++[some v])++lK++cap:=by
   rw[bT,cx _ _ .(0),show s-pre.length=0 by omega];simp
  show gNs (List.range' (s+1) k) vs ((pre++a::lK++cap).set s (some v)) H Q;rw[e];refine N6 k (s+1) _ lK cap vs (by simp[hp]) (by simpa using h0) (by simpa using hv) ?_;have e2:pre++[some v]++vs.map some++cap=pre++(v::vs).map some++cap:=by simp
  rw[e2];exact q
 |0,_,_,_::_,_,_,_,h0,_,_=>by cases h0
 |0,_,_,[],_,_::_,_,_,hv,_=>by cases hv
 |k+1,_,_,[],_,_,_,h0,_,_=>by cases h0
 |k+1,_,_,_::_,_,[],_,_,hv,_=>by cases hv
def EnvOk.compT{F:Hp}{β:iI}{σ:St}{sl:Sl}{ws:iR}{vs:iQ}(V:EnvOk F β σ sl)(js:iL)(r:RWs F β ws vs):EnvOk F β (vs.map some++SM js σ) (ws.map some++js.map λj=>(sl[j]?).join):=by
 refine⟨by simp[SM,r.length],λi u e=>?_⟩;by_cases hi:i<ws.length
 ·rw[aZ (by simpa using hi),bB]at e
  match hw:ws[i]?,e with
  |none,e=>exact nomatch e
  |some w,e=>
   have e:↑w=↑u:=e;cases e;obtain⟨v,ev,rv⟩:=r.get hw;refine⟨v,?_,rv⟩;rw[aZ (by rw[aB,← r.length];exact hi),bB,ev];rfl
 ·have hl:=r.length
  rw[bK (by simpa using hi),aB,bB]at e
  match hj:js[i-ws.length]?,e with
  |none,e=>exact nomatch e
  |some j,e=>
   have e:some (sl[j]?).join=↑u:=e
   have e2:sl[j]?=↑u:=by
    cases q:sl[j]? with
    |none=>rw[q]at e;cases e
    |some o=>
     rw[q]at e;have e:some o=↑u:=e;cases e;rfl
   obtain⟨v',h1,h2⟩:=V.get j u e2;refine⟨v',?_,h2⟩;rw[bK .(3),aB,← hl];show(js.map λj=>(σ[j]?).join)[i-ws.length]?=↑v';rw[bB,hj,fh,h1];rfl
def KY{Kf:iC}{fi:FI}{n:Nat}(hk:VR E k){σ:St}{H:Hp}{Q:VK}(h:tE E (Xy k n js fi c f) σ H Q):LU (tI E fi) n (Es Kf n (gNs (List.range' 0 n))) js (λ_ _ _ _=>tT E0 c) (λ_ _ _ _=>tE E0 f) σ H Q:=by
 obtain⟨F,β,om,sl,M,V,R⟩:=h;refine⟨F,β,om,sl,M,V,R.bind λws qH F1 H1 ix g1 M1 R1 J hJ D hD _ _ _ _=>?_⟩;obtain⟨kA,R1⟩:=Res.chk R1;obtain⟨pz,pA⟩:=bO.mp kA;refine TR (C:=λ_=>True) (mk:=λw=>VV js w sl) (K:=λx H' P=>∀vs:St,vs.length=n->Es Kf n (gNs (List.range' 0 n)) x (vs++SM js σ) H' λjy H6=>(∃lm:St,lm.length=n/\jy=lm++SM js σ)/\P jy H6) (λw=>Ek n w=true) (λF H β=>Gx F1 F H1 H ix β) ?_ (λw hw=>cS.mp pA w hw) (λ_ a b=>a<|b) (λ_=>True.intro) hJ (λM' G' rs R' kU=>(hk M' rs (Res.mono G' R')).2 kU) M1 (V.mono g1.toGr) (Gx.refl _ _ _) hD (bC pz) R1;intro F2 H2 jo om2 w x P M2 V2 nA hn hP vs nG;cases nA with
 |@tup a xs us q rs=>
  have hn:us.length=n:=bC hn;have hl:=rs.length;refine⟨a,xs,rfl,SqT.of (M2.sub _ _ q),.(0),?_⟩;refine N6 n 0 [] vs (SM js σ) xs rfl nG .(0) ⟨⟨xs.map some,.(3),.(2)⟩,hP _ ?_⟩;exact V2.compT js rs
 |_=>cases hn
def SO:Key->Wv
 |.inl i=>.int i
 |.inr x=>.str x
def Iw(d:Wv):Mw (Bool × Nat × iR):=λom=>match d with
 |.o h=>match om[h]? with
  |some (.dk kvs)=>if kvs.length<=lim then (true,h,kvs.map λp=>SO p.1)\om.set h (.dz kvs) else none
  |some (.dz kvs)=>if kvs.length<=lim then (false,h,kvs.map λp=>SO p.1)\om else none
  |_=>none
 |_=>none
def Hk(b:Bool)(h:Nat):Mw Unit:=λom=>if b=true then (match om[h]? with
 |some (.dz kvs)=>()\om.set h (.dk kvs)
 |_=>none) else ()\om
def VP(k:iR->Mw Wv)(js:iL)(fd:FE)(c:FT)(f:FE):FE:=λsl=>bnd (fd sl) λd=>bnd (Iw d) λp=>bnd (Xk c f (λw=>XN js w sl) p.2.2) λxs=>bnd (Hk p.1 p.2.1) λ_=>k xs
def MV{F:Hp}{β:iI}{d:qJ}{ob:Obj}{kvs:iU}{ks:List (Key × V)}(rs:RK F β kvs ks):ItC (λH=>H d=some (.frz ob (.dK ks))) (Itd d ob ks) (kvs.map λp=>SO p.1) F β:=λF' iX H g s hc=>by
 have hl:=rs.length
 have key:∀{ps:iU} {qs:List (Key × V)},RK F β ps qs->∀(i:Nat) p,qs[i]?=some p->(ps.map λp=>SO p.1)[i]?=some (SO p.1):=by
  intro ps qs r
  induction r with
  |nil=>intro i p e;simp at e
  |cons h r ih=>
   intro i p e;cases i with
   |zero=>simp at e;subst e;rfl
   |succ i=>simpa using ih i p (by simpa using e)
 refine⟨λi w e=>?_,λi hi=>⟨hc,by rw[aB]at hi;omega⟩⟩;have hi:i<ks.length:=by have:=(aJ.mp e).1;rw[aB]at this;omega
 refine⟨⟨hc,hi⟩,λx H' ⟨e1,p,e2,e3⟩=>⟨e1,?_⟩⟩;have:=key rs i p e2;rw[e]at this;cases this;subst e3;obtain⟨k',v⟩:=p;cases k' with
 |inl n=>exact .int n
 |inr y=>exact .str y
def Gx.unfrz{F F' H H':Hp}{β iX:iI}{d:qJ}{u:HO}{ob:Obj}{om:iV}{h:Nat}(hb:β[h]?=some d)(M:MOk F H β om)(hz:H d=some (.frz ob u))(hu:∀o w,u≠.frz o w)(g:Gx F F' H H' β iX):Gx F F' (upd H d u) (upd H' d u) β iX:=by
 have nd:∀b,b ∉ β->b≠d:=λb n z=>n (z ▸ bN hb)
 refine⟨g.toGr,λb o e n=>?_,λb e=>?_,λb m=>?_,λb o e=>?_,λb o w e=>?_⟩
 ·rw[Zy (nd b n)]at e ⊢;exact g.keep b o e n
 ·by_cases z:b=d
  ·rw[z,ZF]at e;cases e
  ·rw[Zy z]at e ⊢;exact g.there b e
 ·by_cases z:b=d
  ·rw[z];exact .inl (bN hb)
  ·rw[Zy z];exact g.new b m
 ·by_cases z:b=d
  ·rcases g.fnew b o e with q|q
   ·exact .inl q
   ·rw[z,hz]at q;cases q
  ·rw[Zy z];exact g.fnew b o e
 ·by_cases z:b=d
  ·rw[z,ZF]at e;cases e;exact absurd rfl (hu o w)
  ·rw[Zy z]at e ⊢;exact g.frz b o w e
def Held(h:Nat)(d:qJ)(ob:Obj)(ks:List (Key × V))(F1 H1:Hp)(ix:iI):Hp->Hp->List qJ->Prop:=λF H β=>β[h]?=some d/\H d=some (.frz ob (.dK ks))/\Gx F1 F H1 (upd H d (.dK ks)) ix β
def Held.go{h:Nat}{d:qJ}{ob:Obj}{ks:List (Key × V)}{F1 H1 F F' H H':Hp}{ix β iX:iI}{om:iV}(M:MOk F H β om)(G:Held h d ob ks F1 H1 ix F H β)(g:Gx F F' H H' β iX):Held h d ob ks F1 H1 ix F' H' iX:=
 ⟨g.pre h d G.1,g.frz d _ _ G.2.1,G.2.2<|g.unfrz G.1 M G.2.1 (λ_ _ z=>by cases z)⟩
def Held.start{h:Nat}{d:qJ}{ob:Obj}{ks:List (Key × V)}{F1 H1:Hp}{ix:iI}(eb:ix[h]?=some d)(jI:H1 d=some (.dK ks)):Held h d ob ks F1 H1 ix F1 (upd H1 d (.frz ob (.dK ks))) ix:=by
 have back:upd (upd H1 d (.frz ob (.dK ks))) d (.dK ks)=H1:=by
  rw[GX];funext b;by_cases z:b=d
  ·rw[z,ZF,jI]
  ·rw[Zy z]
 exact⟨eb,ZF,by rw[back];exact Gx.refl _ _ _⟩
def Held.thw{γ:Type}{k:Unit->Mw γ}{h:Nat}{d:qJ}{ob:Obj}{ks:List (Key × V)}{F1 H1 F H:Hp}{ix β:iI}{om:iV}{P:γ->Hp->Hp->List qJ->Prop}(M:MOk F H β om)(G:Held h d ob ks F1 H1 ix F H β)(R:Res E (bnd (Hk true h) k om) F1 H1 ix P):∃kvs,MOk F (upd H d (.dK ks)) β (om.set h (.dk kvs))/\Res E (k () (om.set h (.dk kvs))) F1 H1 ix P:=by
 obtain⟨jR,kW,gg⟩:=G;unfold bnd Hk at R;rw[aC rfl]at R
 match hy:om[h]?,R with
 |none,R=>exact R.elim
 |some (.ins _ _),R=>exact R.elim
 |some (.exc _),R=>exact R.elim
 |some (.lst _),R=>exact R.elim
 |some (.dt _),R=>exact R.elim
 |some (.dk _),R=>exact R.elim
 |some (.dz jM),R=>
  obtain⟨a',ea,_,pd,qy,mi,lq⟩:=M.at hy;rw[jR]at ea;cases ea;rw[kW]at mi;cases mi;exact⟨jM,M.put jR ⟨ks,ZF,lq⟩,R⟩
def Res.frz{γ:Type}{k:Bool × Nat × iR->Mw γ}{F H:Hp}{β:iI}{om:iV}{w:Wv}{v:V}{P:γ->Hp->Hp->List qJ->Prop}(M:MOk F H β om)(r:RW F β w v)(R:Res E (bnd (Iw w) k om) F H β P):∃h d ks kvs,v=.ref d/\β[h]?=some d/\RK F β kvs ks/\kvs.length<=lim/\((H d=some (.dK ks)/\(∀ob,MOk F (upd H d (.frz ob (.dK ks))) β (om.set h (.dz kvs)))/\Res E (k (true,h,kvs.map λp=>SO p.1) (om.set h (.dz kvs))) F H β P)\/∃ob,H d=some (.frz ob (.dK ks))/\Res E (k (false,h,kvs.map λp=>SO p.1) om) F H β P):=by
 cases r with
 |@o h d eb=>
  unfold bnd Iw at R;dsimp only at R
  match hx:om[h]?,R with
  |none,R=>exact R.elim
  |some (.ins _ _),R=>exact R.elim
  |some (.exc _),R=>exact R.elim
  |some (.lst _),R=>exact R.elim
  |some (.dt _),R=>exact R.elim
  |some (.dk kvs),R=>
   obtain⟨a',ea,hF,ks,jI,rs⟩:=M.at hx;have eb2:=ea;rw[eb]at ea;cases ea;dsimp only at R;by_cases iZ:kvs.length<=lim
   ·rw[aC iZ]at R
    exact⟨h,d,ks,kvs,rfl,eb2,rs,iZ,.inl ⟨jI,λob=>M.put eb2 ⟨ob,ks,ZF,rs⟩,R⟩⟩
   ·rw[aD iZ]at R;exact R.elim
  |some (.dz kvs),R=>
   obtain⟨a',ea,hF,ob,ks,jI,rs⟩:=M.at hx;have eb2:=ea;rw[eb]at ea;cases ea;dsimp only at R;by_cases iZ:kvs.length<=lim
   ·rw[aC iZ]at R
    exact⟨h,d,ks,kvs,rfl,eb2,rs,iZ,.inr ⟨ob,jI,R⟩⟩
   ·rw[aD iZ]at R;exact R.elim
 |_=>exact R.elim
def Jy{X:Cx}{fd:FE}(hk:VR E k){σ:St}{H:Hp}{Q:VK}(h:tE E (VP k js fd c f) σ H Q):Ky (iDict X (tE E fd)) js (λ_ _ _ _=>tT E0 c) (λ_ _ _ _=>tE E0 f) σ H (λv=>Thawed X (Q v)):=by
 obtain⟨F,β,om,sl,M,V,R⟩:=h;refine⟨F,β,om,sl,M,V,R.bind λw qH F1 H1 ix g1 M1 R1 v rv=>?_⟩;obtain⟨h,d,ks,kvs,rfl,eb,rs,iZ,R1⟩:=R1.frz M1 rv;rcases R1 with ⟨jI,Mz,R2⟩|⟨ob,jI,R2⟩
 ·refine⟨d,ks,rfl,.inl ⟨jI,λob nf D hD _ _ _ _=>?_⟩⟩
  refine TR (C:=λH=>H d=some (.frz ob (.dK ks))) (Q:=λv=>Thawed X (Q v)) (mk:=λw=>XN js w sl) (K:=λx H' P=>P (S3 js (some x) σ) H') (λ_=>True) (Held h d ob ks F1 H1 ix) (λ_ V r _ h=>h _ (V.comp js r)) (λ_ _=>True.intro)
   (λM' G' g'=>Held.go M' G' g') (λG'=>G'.2.1) (MV rs) ?_ (Mz ob) (V.mono g1.toGr) (Held.start eb jI) hD (by rw[aB];exact iZ) R2
  intro us vs iu F' H' iX M' G' ra R' kU;have kW:=G'.2.1;obtain⟨jM,Mt,R'⟩:=Held.thw M' G' R';have nDd:D≠d:=λz=>by rw[z,kW]at kU;cases kU
  have q:=(hk (p:=D) Mt ra (Res.mono G'.2.2 R')).2 (by rw[Zy nDd];exact kU);refine .inl ⟨d,ob,ks,nf,by rw[Zy (cI nDd)];exact kW,?_⟩
  have e:upd (upd H' D (.lst vs)) d (.dK ks)=upd (upd H' d (.dK ks)) D (.lst vs):=by
   funext b;by_cases z1:b=d
   ·rw[z1,ZF,Zy (cI nDd),ZF]
   ·by_cases z2:b=D
    ·rw[z2,Zy nDd,ZF,ZF]
    ·rw[Zy z1,Zy z2,Zy z2,Zy z1]
  show Q (.ref D) _;rw[e];exact q
 ·refine⟨d,ks,rfl,.inr ⟨ob,jI,λD hD _ _ _ _=>?_⟩⟩
  refine TR (C:=λH=>H d=some (.frz ob (.dK ks))) (Q:=λv=>Thawed X (Q v)) (mk:=λw=>XN js w sl) (K:=λx H' P=>P (S3 js (some x) σ) H') (λ_=>True) (λF H β=>Gx F1 F H1 H ix β) (λ_ V r _ h=>h _ (V.comp js r)) (λ_ _=>True.intro)
   (λ_ a b=>a<|b) (λG'=>G'.frz d _ _ jI) (MV rs) ?_ M1 (V.mono g1.toGr) (Gx.refl _ _ _) hD (by rw[aB];exact iZ) R2
  intro us vs iu F' H' iX M' G' ra R' kU;have R':Res E (k us iu) F1 H1 ix (PV Q):=R';exact .inr ((hk (p:=D) M' ra (Res.mono G' R')).2 kU)
section
variable{scope:Scope}{cl:iE}{x:Str}{cn:iM}{jl iz:qS}{jk:iN}{px pos:Pos}{fi:FI}
def B5(hk:VR E k)(O:CompOk X oc scope cl x cn js)(hc:X.calm=true)(hi:PI X (.Name x px) iz (tI E fi))(ht:∀C ir iw fp,Tm (Xx X oc scope cl x cn C ir iw fp) jk (tT E0 c))(he:∀C ir iw fp,PE (Xx X oc scope cl x cn C ir iw fp) jl (tE E0 f))(hs:∀v,foldedSetIterable iz X.env v=pure v:=by intro _;rfl):PE X (.ListComp jl [⟨.Name x px,iz,jk,0⟩] scope pos) (tE E (Yk k js fi c f)):=(GR O hc hi ht he hs).weak λσ H Q h=>HZ hk h
def Cf{xs:iM}{tg:qS}(hk:VR E k)(O:CompOkT X oc scope cl xs cn js)(hc:X.calm=true)(hg:∀C ir iw fp,PG (Yt X oc scope cl xs cn C ir iw fp) tg (Es X.K xs.length (gNs (List.range' 0 xs.length))))(hi:PI X tg iz (tI E fi))(ht:∀C ir iw fp,Tm (Yt X oc scope cl xs cn C ir iw fp) jk (tT E0 c))(he:∀C ir iw fp,PE (Yt X oc scope cl xs cn C ir iw fp) jl (tE E0 f))(hs:∀v,foldedSetIterable iz X.env v=pure v:=by intro _;rfl):PE X (.ListComp jl [⟨tg,iz,jk,0⟩] scope pos) (tE E (Xy k xs.length js fi c f)):=(Kw O hc hg hi ht he hs).weak λσ H Q h=>KY hk h
def W1{xs:iM}{tg:qS}{j:Nat}{y:Str}{py ju:Pos}(hk:VR E k)(O:CompOkT X oc scope cl xs cn js)(hc:X.calm=true)(hg:∀C ir iw fp,PG (Yt X oc scope cl xs cn C ir iw fp) tg (Es X.K xs.length (gNs (List.range' 0 xs.length))))(hi:PI X tg iz (tI E fi))(ht:∀C ir iw fp,Tm (Yt X oc scope cl xs cn C ir iw fp) jk (tT E0 c))(he:∀C ir iw fp,PE (Yt X oc scope cl xs cn C ir iw fp) jl (tE E0 f))(hN:X.N.Nodup) (hj:X.N[j]?=some y) (hy:Loc X.env.scope y) (kz:swapsWith (.ListComp jl [⟨tg,iz,jk,0⟩] scope pos) (some (.Name y py)) ju.line X.env=pure true)(hs:∀v,foldedSetIterable iz X.env v=pure v:=by intro _;rfl) (hf:rH X y:=by first|exact .inl rfl|exact .inr rfl):PS X (.Assign [.Name y py] (.ListComp jl [⟨tg,iz,jk,0⟩] scope pos) ju) (tS E (ZC j (Xy k xs.length js fi c f))):=(QI O hc hg hi ht he hN hj hy kz hs hf).weak λD σ H ⟨F,β,om,sl,M,V,R⟩=>by
 refine KY hk ⟨F,β,om,sl,M,V,R.bind λw qH F1 H1 ix g1 M1 R1 v rv=>?_⟩;exact(show Res E (ret (Fl.nx,sl.set j (some w)) qH) F1 H1 ix (FlP D) from R1).now M1 _ ((V.mono g1.toGr).set j rv)
def Bb{fd:FE}(hk:VR E k)(O:CompOk X oc scope cl x cn js)(hc:X.calm=true)(hd:PE X iz (tE E fd))(ht:∀C ir iw fp,Tm (Xx X oc scope cl x cn C ir iw fp) jk (tT E0 c))(he:∀C ir iw fp,PE (Xx X oc scope cl x cn C ir iw fp) jl (tE E0 f))(hs:∀v,foldedSetIterable iz X.env v=pure v:=by intro _;rfl):PE X (.ListComp jl [⟨.Name x px,iz,jk,0⟩] scope pos) (tE E (VP k js fd c f)):=(BJ (GR O hc (MC hd) ht he hs)).weak λσ H Q h=>Jy hk h
def Iv{j:Nat}{y:Str}{py ju:Pos}(hk:VR E k)(O:CompOk X oc scope cl x cn js)(hc:X.calm=true)(hi:PI X (.Name x px) iz (tI E fi))(ht:∀C ir iw fp,Tm (Xx X oc scope cl x cn C ir iw fp) jk (tT E0 c))(he:∀C ir iw fp,PE (Xx X oc scope cl x cn C ir iw fp) jl (tE E0 f))(hN:X.N.Nodup) (hj:X.N[j]?=some y) (hy:Loc X.env.scope y) (kz:swapsWith (.ListComp jl [⟨.Name x px,iz,jk,0⟩] scope pos) (some (.Name y py)) ju.line X.env=pure true)(hs:∀v,foldedSetIterable iz X.env v=pure v:=by intro _;rfl) (hf:rH X y:=by first|exact .inl rfl|exact .inr rfl):PS X (.Assign [.Name y py] (.ListComp jl [⟨.Name x px,iz,jk,0⟩] scope pos) ju) (tS E (ZC j (Yk k js fi c f))):=(O7 O hc hi ht he hN hj hy kz hs hf).weak λD σ H ⟨F,β,om,sl,M,V,R⟩=>by
 refine HZ hk ⟨F,β,om,sl,M,V,R.bind λw qH F1 H1 ix g1 M1 R1 v rv=>?_⟩;exact(show Res E (ret (Fl.nx,sl.set j (some w)) qH) F1 H1 ix (FlP D) from R1).now M1 _ ((V.mono g1.toGr).set j rv)
def KD{j:Nat}{y:Str}{py ju:Pos}{fd:FE}(hk:VR E k)(O:CompOk X oc scope cl x cn js)(hc:X.calm=true)(hd:PE X iz (tE E fd))(ht:∀C ir iw fp,Tm (Xx X oc scope cl x cn C ir iw fp) jk (tT E0 c))(he:∀C ir iw fp,PE (Xx X oc scope cl x cn C ir iw fp) jl (tE E0 f))(hN:X.N.Nodup) (hj:X.N[j]?=some y) (hy:Loc X.env.scope y) (kz:swapsWith (.ListComp jl [⟨.Name x px,iz,jk,0⟩] scope pos) (some (.Name y py)) ju.line X.env=pure true)(hs:∀v,foldedSetIterable iz X.env v=pure v:=by intro _;rfl) (hf:rH X y:=by first|exact .inl rfl|exact .inr rfl):PS X (.Assign [.Name y py] (.ListComp jl [⟨.Name x px,iz,jk,0⟩] scope pos) ju) (tS E (ZC j (VP k js fd c f))):=(Gy (O7 O hc (MC hd) ht he hN hj hy kz hs hf)).weak λD σ H ⟨F,β,om,sl,M,V,R⟩=>by
 refine Jy (Q:=λv H1=>D.nx (σ.set j (some v)) H1) hk ⟨F,β,om,sl,M,V,R.bind λw qH F1 H1 ix g1 M1 R1 v rv=>?_⟩;exact(show Res E (ret (Fl.nx,sl.set j (some w)) qH) F1 H1 ix (FlP D) from R1).now M1 _ ((V.mono g1.toGr).set j rv)
end
end
def Iy{α γ:Type}(m:Mw α)(k:α->Mw γ):Z0 (bnd m k)=bnd (Z0 m) λx=>Z0 (k x):=by
 funext om
 match h:m om with
 |none=>simp[bnd,Z0,h]
 |a\iu=>simp[bnd,Z0,h]
 |c∩iu=>simp[bnd,Z0,h]
def GH(fd:FE)(T:TgW)(S:FS):FS:=λsl=>bnd (fd sl) λd=>bnd (Iw d) λp=>bnd (Z0 (WS T S p.2.2 sl)) λr=>bnd (Hk p.1 p.2.1) λ_=>ret r
section
variable{X:Cx}{E:XK}{tg iz:qS}{body:List qR}{fd:FE}{T:TgW}{g:TG}{S:FS}{pos:Pos}
def Jv{D:Ends}{C:Hp->Prop}{J:It}{ws:iR}{σ:St}{H F F0 H0:Hp}{β jU:iI}{om:iV}{sl:Sl}{P:Fl × Sl->Hp->Hp->List qJ->Prop}{kf:Fl × Sl->Mw (Fl × Sl)}(GG:Hp->Hp->List qJ->Prop)(hG:∀{F F' H H':Hp} {β iX:iI} {om:iV},MOk F H β om->GG F H β->Gx F F' H H' β iX->GG F' H' iX) (hC:∀{F H:Hp} {β:iI},GG F H β->C H) (ht:Ip g T) (hJ:ItC C J ws F β)(hk:∀{y:Fl × Sl} {om:iV} {F H:Hp} {β:iI},MOk F H β om->GG F H β->Res E (kf y om) F0 H0 jU P->FlP D y F H β)(M:MOk F H β om) (V:EnvOk F β σ sl) (G:GG F H β) (R:Res E (bnd (Z0 (WS T S ws sl)) kf om) F0 H0 jU P):∃W:Nat->Nat->St->Hp->Prop,(∃m,W 0 m σ H)/\∀i m σ H,W i m σ H -> (J.stop i H/\D.nx σ H)\/(J.go i H/\∃N:St->Hp->Prop,(∀i6 H',N i6 H'->∃m',m'<m/\W (i+1) m' i6 H')/\∀x H',J.yld i H x H'->g x σ H' λjy H2=>tS E S {D with nx:=N,ct:=N,bk:=D.nx} jy H2):=by
 refine⟨λi m σ H=>m=ws.length-i/\i<=ws.length/\∃F β om sl,ItC C J ws F β/\GG F H β/\MOk F H β om/\EnvOk F β σ sl/\Res E (bnd (Z0 (WS T S (ws.drop i) sl)) kf om) F0 H0 jU P,⟨ws.length,.(2),cF _,F,β,om,sl,hJ,G,M,V,R⟩,?_⟩;rintro i m σ H ⟨rfl,hi,F,β,om,sl,hJ,G,M,V,R⟩;obtain⟨j1,j2⟩:=hJ F β H (Gr.refl _ _) M.sub (hC G);by_cases jg:i<ws.length
 ·obtain⟨go,yl⟩:=j1 i ws[i] (aK jg)
  refine .inr ⟨go,λi6 H'=>i+1<=ws.length/\∃F β om sl,ItC C J ws F β/\GG F H' β/\MOk F H' β om/\EnvOk F β i6 sl/\Res E (bnd (Z0 (WS T S (ws.drop (i+1)) sl)) kf om) F0 H0 jU P,λi6 H' ⟨h1,h2⟩=>⟨ws.length-(i+1),.(0),rfl,h1,h2⟩,λx H' hy=>?_⟩;obtain⟨rfl,rx⟩:=yl x H' hy;rw[fJ jg]at R;have R:Res E (bnd (Z0 (match T ws[i] sl with|none=>W0|some sl1=>bnd (S sl1) (Qe λjd=>WS T S (ws.drop (i+1)) jd))) kf om) F0 H0 jU P:=R
  match hT:T ws[i] sl,R with
  |none,R=>exact R.elim
  |some sl1,R=>
   refine ht M V rx hT λjy V2=>?_
   refine⟨F,β,om,sl1,M,V2,?_⟩;dsimp only at R;rw[Iy,T8]at R;have R':=R;unfold bnd Z0 at R'
   match hm:S sl1 om,R' with
   |none,R'=>exact R'.elim
   |_∩_,R'=>exact R'.elim
   |y\qH,R'=>
    have R1:Res E (bnd (Z0 (Qe (λjd=>WS T S (ws.drop (i+1)) jd) y)) kf qH) F0 H0 jU P:=R';intro F1 H1 ix g1 M1;have G1:=hG M G g1;obtain⟨fl,jd⟩:=y;cases fl with
    |nx=>exact λi6 V'=>⟨jg,F1,ix,qH,jd,hJ.mono g1.toGr,G1,M1,V',R1⟩
    |ct=>exact λi6 V'=>⟨jg,F1,ix,qH,jd,hJ.mono g1.toGr,G1,M1,V',R1⟩
    |bk=>exact hk (y:=(.nx,jd)) M1 G1 R1
    |rt w=>exact hk (y:=(.rt w,jd)) M1 G1 R1
 ·have e:i=ws.length:=by omega
  subst e;rw[hV]at R;exact .inl ⟨j2 _ (aM _),hk (y:=(.nx,sl)) M G (show Res E (kf (.nx,sl) om) F0 H0 jU P from R) σ V⟩
def qs_forD(hp:PassesOwn (model X.prog X.w) X.A X.env X.xe)(hc:X.calm=true)(hi:PE X iz (tE E fd))(hg:PG X tg g)(ht:Ip g T)(hb:PSs X body (tS E S))(hs:∀x,foldedSetIterable iz X.env x=pure x:=by intro _;rfl):PS X (.For tg iz body [] pos) (tS E (GH fd T S)):=(Gy (C6 hp hc (MC hi) hg hb hs)).weak λD σ H ⟨F,β,om,sl,M,V,R⟩=>by
 refine⟨F,β,om,sl,M,V,R.bind λw qH F1 H1 ix g1 M1 R1 v rv=>?_⟩;obtain⟨h,d,ks,kvs,rfl,eb,rs,iZ,R1⟩:=R1.frz M1 rv;rcases R1 with ⟨jI,Mz,R2⟩|⟨ob,jI,R2⟩
 ·refine⟨d,ks,rfl,.inl ⟨jI,λob nf=>?_⟩⟩
  refine Jv (D:=HJ X D) (C:=λH=>H d=some (.frz ob (.dK ks))) (Held h d ob ks F1 H1 ix) (λM' G' g'=>Held.go M' G' g') (λG'=>G'.2.1) ht (MV rs) ?_ (Mz ob) (V.mono g1.toGr) (Held.start eb jI) R2;intro y iu F' H' iX M' G' R';have kW:=G'.2.1;obtain⟨jM,Mt,R'⟩:=Held.thw M' G' R';have q:FlP D y F' (upd H' d (.dK ks)) iX:=(show Res E (some (Except.ok y,iu.set h (.dk jM))) F1 H1 ix (FlP D) from R') F' _ iX G'.2.2 Mt;obtain⟨fl,jd⟩:=y;cases fl with
  |nx=>exact λi6 V'=>.inl ⟨d,ob,ks,nf,kW,q i6 V'⟩
  |bk=>exact λi6 V'=>.inl ⟨d,ob,ks,nf,kW,q i6 V'⟩
  |ct=>exact λi6 V'=>.inl ⟨d,ob,ks,nf,kW,q i6 V'⟩
  |rt w=>exact λv r=>.inl ⟨d,ob,ks,nf,kW,q v r⟩
 ·refine⟨d,ks,rfl,.inr ⟨ob,jI,?_⟩⟩
  refine Jv (D:=HJ X D) (C:=λH=>H d=some (.frz ob (.dK ks))) (λF H β=>Gx F1 F H1 H ix β) (λ_ a b=>a<|b) (λG'=>G'.frz d _ _ jI) ht (MV rs) ?_ M1 (V.mono g1.toGr) (Gx.refl _ _ _) R2;intro y iu F' H' iX M' G' R';have q:FlP D y F' H' iX:=(show Res E (some (Except.ok y,iu)) F1 H1 ix (FlP D) from R') F' H' iX G' M';obtain⟨fl,jd⟩:=y;cases fl with
  |nx=>exact λi6 V'=>.inr (q i6 V')
  |bk=>exact λi6 V'=>.inr (q i6 V')
  |ct=>exact λi6 V'=>.inr (q i6 V')
  |rt w=>exact λv r=>.inr (q v r)
end
def kWh(again:Sl->Mw (Fl × Sl))(S:FS)(sl:Sl)(b:Bool):Mw (Fl × Sl):=if b=true then bnd (S sl) (Qe again) else ret (.nx,sl)
def Uo(c:FT)(S:FS):Nat->FS
 |0,_=>W0
 |n+1,sl=>bnd (c sl) (kWh (λjd=>Uo c S n jd) S sl)
section
variable{X:Cx}{E:XK}{t:qS}{body:List qR}{c:FT}{S:FS}{pos:Pos}
def Bp(n:Nat)(hp:PassesOwn (model X.prog X.w) X.A X.env X.xe)(hc:PT X t (tT E c))(hb:PSs X body (tS E S)):PS X (.While t body [] pos) (tS E (Uo c S n)):=(Ct hp hc hb).weak λD σ H ⟨F,β,om,sl,M,V,R⟩=>by
 refine⟨λm σ H=>∃F β om sl,MOk F H β om/\EnvOk F β σ sl/\Res E (Uo c S m sl om) F H β (FlP D),⟨n,F,β,om,sl,M,V,R⟩,?_⟩;rintro m σ H ⟨F,β,om,sl,M,V,R⟩;cases m with
 |zero=>exact R.elim
 |succ m=>
  refine⟨F,β,om,sl,M,V,Res.bind (m:=c sl) (k:=kWh (λjd=>Uo c S m jd) S sl) R λb qH F1 H1 ix g1 M1 R1=>?_⟩;cases b with
  |false=>
   rw[aD aF];exact(show Res E (ret (Fl.nx,sl) qH) F1 H1 ix (FlP D) from R1).now M1 σ (V.mono g1.toGr)
  |true=>
   rw[aC rfl];refine⟨λi6 H'=>∃F β om sl,MOk F H' β om/\EnvOk F β i6 sl/\Res E (Uo c S m sl om) F H' β (FlP D),λi6 H' h=>⟨m,d9 m,h⟩,?_⟩;refine⟨F1,ix,qH,sl,M1,V.mono g1.toGr,Res.bind (m:=S sl) (k:=Qe λjd=>Uo c S m jd) R1 λy om2 F2 H2 jo g2 M2 R2=>?_⟩;obtain⟨fl,jd⟩:=y;cases fl with
   |nx=>exact λi6 V'=>⟨F2,jo,om2,jd,M2,V',R2⟩
   |ct=>exact λi6 V'=>⟨F2,jo,om2,jd,M2,V',R2⟩
   |bk=>exact(show Res E (ret (Fl.nx,jd) om2) F2 H2 jo (FlP D) from R2).now M2
   |rt w=>exact(show Res E (ret (Fl.rt w,jd) om2) F2 H2 jo (FlP D) from R2).now M2
end
def tM(E:XK)(f:Sl->Mw Unit):TA:=λσ H Q=>∃F β om sl,MOk F H β om/\EnvOk F β σ sl/\Res E (f sl om) F H β λ_ F' H' iX=>∀vs,Q vs H'
def Au:Wv->Mw Unit
 |.int i=>chk (decide (i.natAbs<1000000000000))
 |_=>W0
def SU:Sl->Mw Unit:=λ_=>ret ()
def Sm(f:FE)(r:Sl->Mw Unit):Sl->Mw Unit:=λsl=>bnd (f sl) λx=>bnd (Au x) λ_=>r sl
def XR(C:qJ)(m:Sl->Mw Unit):FS:=λsl=>bnd (m sl) λ_=>KS C
def FY{i:Int}(h:i.natAbs<1000000000000):i.natAbs.log2<1920:=by
 by_cases h0:i.natAbs=0
 ·rw[h0];decide
 ·exact(Nat.log2_lt h0).mpr (bE (show i.natAbs<2 ^ 40 by omega) (Nat.pow_le_pow_right .(1) .(1)))
section
variable{X:Cx}{E:XK}{e:qS}{es:iN}{f:FE}{m:Sl->Mw Unit}{pos:Pos}
def PJ.weak{n:Nat}{t t':TA}(h:PJ X n es t)(w:∀σ H Q,t' σ H Q->t σ H Q):PJ X n es t':=λgV s σ H i7 Q I hl q=>h gV s σ H i7 Q I hl (w σ H _ q)
def TN:PJ X 2000 [] (tM E SU):=pj_nil.weak λσ H Q ⟨F,β,om,sl,M,V,R⟩=>(show Res E (ret () om) F H β _ from R).now M []
def Vv{x:Str}{j p}(hr:PJ X 2000 es (tM E m))(hx:x.length<=2000:=by decide)(hs:evalEach (.Constant (.str x) j p::es) X.env=eval (.Constant (.str x) j p) X.env::evalEach es X.env:=by rfl):PJ X 2000 (.Constant (.str x) j p::es) (tM E m):=(HI EU hr hs).weak λσ H Q h=>⟨⟨x,rfl,hx⟩,h⟩
def UW{p:Pos}(he:PE X e (tE E f))(hr:PJ X 2000 es (tM E m))(hs:evalEach (.FormattedValue e (-1) none p::es) X.env=eval (.FormattedValue e (-1) none p) X.env::evalEach es X.env:=by rfl):PJ X 2000 (.FormattedValue e (-1) none p::es) (tM E (Sm f m)):=(HI (pe_fmt he) hr hs).weak λσ H Q ⟨F,β,om,sl,M,V,R⟩=>by
 refine⟨F,β,om,sl,M,V,R.bind λw qH F1 H1 ix g1 M1 R1 v rv=>?_⟩;cases rv with
 |int i=>
  obtain⟨hc,R2⟩:=Res.chk R1;have hl:=FY (bC hc);exact⟨i,rfl,hl,⟨_,rfl,Fh hl .(1)⟩,F1,ix,qH,sl,M1,V.mono g1.toGr,R2⟩
 |_=>exact R1.elim
def EG{x:Str}{C:qJ}{lh:iJ}{B jF jX:String}{ji jj:qS}{rest:iN}{np i0 p2:Pos}(FB:ExcBaseFacts B jF jX lh)(q:PySem.W.excIn X.K C lh jF=true)(hg:Gl X x)(hm:X.mg x=some (.ref C))(hc:X.calm=true)(hE:LY X E)(h:PJ X 2000 (ji::jj::rest) (tM E m)) (hn:2000 * (ji::jj::rest).length<=16000000:=by decide)(hs:rL ji jj rest X:=by rfl)(he:starEach [.JoinedStr (ji::jj::rest) p2] X.env=(false,eval (.JoinedStr (ji::jj::rest) p2) X.env)::starEach [] X.env:=by rfl) (jb:rK i0 X:=by rfl) (jv:(x == ("__debug__":Str))=false:=by decide):PS X (.Raise (some (.Call (.Name x np) [.JoinedStr (ji::jj::rest) p2] [] i0)) none pos) (tS E (XR C m)):=(Dc (E:=E) FB q hg hm hc hE (X1 (BQ h hn hs) Vq he) he jb jv).weak λD σ H ⟨F,β,om,sl,M,V,R⟩=>by
 refine⟨F,β,om,sl,M,V,R.bind λw qH F1 H1 ix g1 M1 R1 vs z=>⟨by show 1<=sizeLine;decide,?_⟩⟩;exact(show Res E (KS C qH) F1 H1 ix (FlP D) from R1) F1 H1 ix (Gx.refl _ _ _) M1
end
def Hv:Fl × Sl->Mw Wv
 |(.rt w,_)=>ret w
 |(.nx,_)=>ret .non
 |_=>W0
def W6(n:Nat)(ws:iR):Sl:=ws.map some++List.replicate (n-ws.length) none
def Yc(n:Nat)(S:FS)(ws:iR):Mw Wv:=bnd (S (W6 n ws)) Hv
def EnvOk.start{F:Hp}{β:iI}{ws:iR}{vs:iQ}(N:iM)(r:RWs F β ws vs):EnvOk F β (L2.start N vs) (W6 N.length ws):=by
 have hl:=r.length;refine⟨by simp[L2.start,W6,hl],λi w e=>?_⟩;unfold W6 at e;unfold L2.start;by_cases hi:i<ws.length
 ·rw[aZ (by simpa using hi),bB]at e
  match hw:ws[i]?,e with
  |none,e=>exact nomatch e
  |some u,e=>
   have e:↑u=↑w:=e;cases e;obtain⟨v,ev,rv⟩:=r.get hw;refine⟨v,?_,rv⟩;rw[aZ .(3),bB,ev];rfl
 ·rw[bK (by simpa using hi)]at e
  have:=bN e;rw[List.mem_replicate]at this;exact nomatch this.2
section
variable{P:qM}{w:qN}{K:iC}{mg:iB}{base:qQ}
def fn_ok{x qual:Str}{st:qR}{f:qJ}{fd:qP}{N ps:iM}{k:Nat}{S:FS}(F:Fun K x qual st f fd)(Sc:FnScope N ps (YC st))(h:∀(jz:qI) (A:qO) (outer:List Env) (s:qK) (H:Hp) (E:XK),Room k (A.deeper (envOfC qual (YC st) s.heap.objs.size f jz))->PSs (NC (CXw P w) P w K mg base N qual (YC st) f jz A outer s H E) (UY st) (tS E S)):FnOk P w K mg base (CXw P w) (k+1) f fd ps (spM ps.length (Yc N.length S)):=by
 refine F.okX Sc (λvs H Q E h=>?_) (λjz A outer s H vs Q E hr k9=>⟨_,h jz A outer s H E hr,?_⟩)
 ·obtain⟨F,β,om,ws,M,rs,hl,R⟩:=h
  rw[← rs.length,hl]
 ·obtain⟨F,β,om,ws,M,rs,hl,R⟩:=k9
  refine⟨F,β,om,_,M,EnvOk.start N rs,Res.bind (m:=S (W6 N.length ws)) (k:=Hv) R λy qH F1 H1 ix g1 M1 R1=>?_⟩;obtain⟨fl,sl⟩:=y;cases fl with
  |nx=>exact λi6 V'=>(show Res E (ret Wv.non qH) F1 H1 ix (PV Q) from R1).now M1 _ .non
  |bk=>exact R1.elim
  |ct=>exact R1.elim
  |rt u=>exact(show Res E (ret u qH) F1 H1 ix (PV Q) from R1).now M1
end
end
open PySem PySem.W PyProof.Rows
structure Swo(lt:Nat->Nat->Bool):Prop where
 irr:∀a,lt a a=false
 tr:∀a b c,lt a b=true->lt b c=true->lt a c=true
 neg:∀a b c,lt a c=true->lt a b=true\/lt b c=true
def Hs{α:Type}(lt:Nat->Nat->Bool)(n:Nat)(Q:α->Prop):KasT α->Prop
 |.ret a=>Q a
 |.ask i j k=>i<n/\j<n/\Hs lt n Q (k (lt i j))
def Hs.bind{α γ:Type}{lt:Nat->Nat->Bool}{n:Nat}{Q:γ->Prop}{f:α->KasT γ}:∀{t:KasT α},Hs lt n (λa=>Hs lt n Q (f a)) t->Hs lt n Q (t.bind f)
 |.ret a,h=>h
 |.ask i j k,⟨h1,h2,h3⟩=>⟨h1,h2,Hs.bind h3⟩
def Hs.wp{α:Type}{lt:Nat->Nat->Bool}{n:Nat}{Q':α->Prop}{Q:α->Shared->Prop}{cmp:Nat->Nat->(Bool->Shared->Prop)->Shared->Prop}{s:qK}(hc:∀i j C,i<n->j<n->C (lt i j) s->cmp i j C s)(hq:∀a,Q' a->Q a s):∀{t:KasT α},Hs lt n Q' t->t.kasWp cmp Q s
 |.ret a,h=>hq a h
 |.ask i j k,⟨h1,h2,h3⟩=>hc i j _ h1 h2 (Hs.wp hc hq h3)
def gN(p:Array Nat)(i:Nat):Nat:=p.getD i 0
def KG{p q:Array Nat}{i j:Nat}(h:p[i]?=q[j]?):gN p i=gN q j:=by
 unfold gN;rw[bS,bS,h]
def Oe{p:Array Nat}{i j:Nat}(hj:j<=p.size)(k:Nat):gN (kas_rev p i j) k=if i<=k/\k<j then gN p (i+j-1-k) else gN p k:=by
 have e:=getElem?_mirror_all (xs:=p) (i:=i) hj k;unfold kas_rev;split at e <;> rename_i h
 ·rw[aC h];exact KG e
 ·rw[aD h];exact KG e
def EM{p:Array Nat}{k d:Nat}(hs:k<p.size)(hd:d<=k)(i:Nat):gN (bubble p k d) i=if i=k-d then gN p k else if k-d<i/\i<=k then gN p (i-1) else gN p i:=by
 have e:=getElem?_bubble hs d hd i;by_cases h1:i=k-d
 ·rw[aC h1]at e ⊢;exact KG e
 ·rw[aD h1]at e ⊢
  by_cases h2:k-d<i/\i<=k
  ·rw[aC h2]at e ⊢;exact KG e
  ·rw[aD h2]at e ⊢;exact KG e
structure Pm(n:Nat)(p:Array Nat):Prop where
 size:p.size=n
 perm:p.toList.Perm (List.range n)
def Pm.lt{n:Nat}{p:Array Nat}(P:Pm n p)(hn:0<n)(i:Nat):gN p i<n:=by
 unfold gN;by_cases h:i<p.size
 ·rw[bS,ck h]
  have:p[i]∈p.toList:=by simp
  have:=P.perm.mem_iff.mp this;simpa using this
 ·rw[bS,gc .(0)]
  exact hn
def Pm.rev{n:Nat}{p:Array Nat}(P:Pm n p)(i j:Nat):Pm n (kas_rev p i j):=
 ⟨mirror_size _ _ _ _<|P.size,iq.mp (mirror_perm _ _ _ _)<|P.perm⟩
def Pm.bub{n:Nat}{p:Array Nat}(P:Pm n p)(k d:Nat):Pm n (bubble p k d):=
 ⟨bubble_size _ _ _<|P.size,iq.mp (bubble_perm _ _ _)<|P.perm⟩
section
variable{lt:Nat->Nat->Bool}(O:Swo lt){n:Nat}
def le'(lt:Nat->Nat->Bool)(a b:Nat):Prop:=lt b a=false
include O
theorem WC{a b c:Nat}(h1:le' lt a b)(h2:le' lt b c):le' lt a c:=by
 unfold le' at *;cases h:lt c a with
 |false=>rfl
 | true => rcases O.neg c b a h with z | z
           ·rw[h2]at z;cases z
           ·rw[h1]at z;cases z
theorem ML{a b:Nat}(h:lt a b=true):le' lt a b:=by
 unfold le';cases z:lt b a with
 |false=>rfl
 |true=>have:=O.tr a b a h z;rw[O.irr]at this;cases this
theorem lt_le'{a b c:Nat}(h1:lt a b=true)(h2:le' lt b c):lt a c=true:=by
 rcases O.neg a c b h1 with z|z
 ·exact z
 ·rw[h2]at z;cases z
omit O in
def Srt(lt:Nat->Nat->Bool)(p:Array Nat)(m:Nat):Prop:=∀i j,i<=j->j<m->le' lt (gN p i) (gN p j)
omit O in
def Fal(lt:Nat->Nat->Bool)(p:Array Nat)(m:Nat):Prop:=∀i j,i<=j->j<m->le' lt (gN p j) (gN p i)
theorem Srt.more{p:Array Nat}{m:Nat}(h1:1<=m)(S:Srt lt p m)(h:le' lt (gN p (m-1)) (gN p m)):Srt lt p (m+1):=λi j kj hj=>by
 by_cases mj:j<m
 ·exact S i j kj mj
 ·have:j=m:=by omega
  subst this;by_cases hi:i=j
  ·subst hi;exact O.irr _
  ·exact WC O (S i (j-1) .(0) .(0)) h
theorem Fal.more{p:Array Nat}{m:Nat}(h1:1<=m)(S:Fal lt p m)(h:le' lt (gN p m) (gN p (m-1))):Fal lt p (m+1):=λi j kj hj=>by
 by_cases mj:j<m
 ·exact S i j kj mj
 ·have:j=m:=by omega
  subst this;by_cases hi:i=j
  ·subst hi;exact O.irr _
  ·exact WC O h (S i (j-1) .(0) .(0))
theorem IE{p:Array Nat}(P:Pm n p)(hn:0<n){Q:Nat->Prop}:∀(f m:Nat),1<=m->Srt lt p m->(∀k,m<=k->k<=m+f->Srt lt p k->(k<m+f->lt (gN p k) (gN p (k-1))=true)->Q k)->Hs lt n Q (kas_asc p f m)
 |0,m,h1,S,q=>q m (aM _) (aM _) S λz=>absurd z (cV _)
 |f+1,m,h1,S,q=>by
  refine⟨P.lt hn m,P.lt hn (m-1),?_⟩;cases h:lt (p.getD m 0) (p.getD (m-1) 0) with
  |true=>dsimp only;rw[aC rfl];exact q m (aM _) .(0) S λ_=>h
  |false=>
   dsimp only;rw[aD aF];exact IE P hn f (m+1) .(0) (S.more O h1 h) λk h2 h3 S' h4=>q k .(0) .(0) S' λz=>h4 .(0)
omit O in
def Eq'(lt:Nat->Nat->Bool)(a b:Nat):Prop:=le' lt a b/\le' lt b a
omit O in
def Tl(lt:Nat->Nat->Bool)(p:Array Nat)(m c:Nat):Prop:=∀i,m-c<=i->i<m->Eq' lt (gN p i) (gN p (m-1))
theorem LL{p:Array Nat}{m c:Nat}(hm:m<=p.size)(hc:c<=m)(S:Fal lt p m)(T:Tl lt p m c):Fal lt (kas_rev p (m-c) m) m/\(∀i,i<m->Eq' lt (gN (kas_rev p (m-c) m) i) (gN p i)):=by
 have e:∀i,i<m->Eq' lt (gN (kas_rev p (m-c) m) i) (gN p i):=λi hi=>by
  rw[Oe hm];by_cases h:m-c<=i/\i<m
  ·rw[aC h]
   have t1:=T (m-c+m-1-i) .(0) .(0);have t2:=T i h.1 h.2;exact⟨WC O t1.1 t2.2,WC O t2.1 t1.2⟩
  ·rw[aD h];exact⟨O.irr _,O.irr _⟩
 exact⟨λi j kj hj=>WC O (e j hj).1 (WC O (S i j kj hj) (e i .(0)).2),e⟩
theorem Pv(hn:0<n){Q:Array Nat × Nat × Nat->Prop}:∀(f:Nat) (p:Array Nat) (m q:Nat),Pm n p->1<=m->q+1<=m->m+f<=n->Fal lt p m->Tl lt p m (q+1) -> (∀p' k q',Pm n p'->m<=k->k<=m+f->q'+1<=k->Fal lt p' k->Tl lt p' k (q'+1)->Q (p',k,q'))->Hs lt n Q (kas_desc f p m q)
 |0,p,m,q,P,h1,hq,hm,S,T,k=>k p m q P (aM _) (aM _) hq S T
 |f+1,p,m,q,P,h1,hq,hm,S,T,k=>by
  refine⟨P.lt hn m,P.lt hn (m-1),?_⟩;cases h:lt (p.getD m 0) (p.getD (m-1) 0) with
  |true=>
   dsimp only;rw[aC rfl];have hl:le' lt (gN p m) (gN p (m-1)):=ML O h;by_cases hq0:q > 0
   ·rw[aC hq0]
    obtain⟨S1,E1⟩:=LL O (by rw[P.size];omega) hq S T;refine Pv hn f _ (m+1) 0 (P.rev _ _) .(0) .(0) .(0) (Fal.more O h1 S1 ?_) (λi hi lV=>?_) λp' k' q' P' a1 a2 a3 a4 a5=>k p' k' q' P' .(0) .(0) a3 a4 a5
    ·have e2:gN (kas_rev p (m-(q+1)) m) m=gN p m:=by rw[Oe (by rw[P.size];omega),aD .(0)]
     rw[e2];exact WC O hl (E1 (m-1) .(0)).2
    ·have:i=m+1-1:=by omega
     rw[this];exact⟨O.irr _,O.irr _⟩
   ·rw[aD hq0]
    refine Pv hn f _ (m+1) 0 P .(0) .(0) .(0) (Fal.more O h1 S hl) (λi hi lV=>?_) λp' k' q' P' a1 a2 a3 a4 a5=>k p' k' q' P' .(0) .(0) a3 a4 a5
    have:i=m+1-1:=by omega
    rw[this];exact⟨O.irr _,O.irr _⟩
  |false=>
   dsimp only;rw[aD aF];refine⟨P.lt hn (m-1),P.lt hn m,?_⟩;cases h2:lt (p.getD (m-1) 0) (p.getD m 0) with
   |true=>dsimp only;rw[aC rfl];exact k p m q P (aM _) .(0) hq S T
   |false=>
    dsimp only;rw[aD aF];have e:Eq' lt (gN p m) (gN p (m-1)):=⟨h2,h⟩;refine Pv hn f p (m+1) (q+1) P .(0) .(0) .(0) (Fal.more O h1 S e.1) (λi hi lV=>?_) λp' k' q' P' a1 a2 a3 a4 a5=>k p' k' q' P' .(0) .(0) a3 a4 a5
    show Eq' lt (gN p i) (gN p m);by_cases him:i=m
    ·rw[him];exact⟨O.irr _,O.irr _⟩
    ·have t:=T i .(0) .(0)
     exact⟨WC O t.1 e.2,WC O e.1 t.2⟩
theorem BF{p:Array Nat}{m:Nat}(hm:m<=p.size)(S:Fal lt p m):Srt lt (kas_rev p 0 m) m:=λi j kj hj=>by
 rw[Oe hm,Oe hm,aC .(0),aC .(0)];exact S _ _ .(0) .(0)
theorem HA{p:Array Nat}{m:Nat}(P:Pm n p)(hn:0<n)(h1:1<=m)(hm:m<=n)(S:Fal lt p m){Q:Nat × Array Nat->Prop}(k:∀c p',Pm n p'->1<=c->c<=n->Srt lt p' c->Q (c,p')):Hs lt n Q (kas_tail3 m n p):=by
 unfold kas_tail3;refine Hs.bind (IE O (P.rev 0 m) hn (n-m) m h1 (BF O (by rw[P.size];exact hm) S) λc h2 h3 S' _=>?_);exact k c _ (P.rev 0 m) .(0) .(0) S'
theorem QF{p:Array Nat}{m:Nat}(P:Pm n p)(hn:0<n)(h1:1<=m)(hm:m+1<=n)(S:Fal lt p (m+1)){Q:Nat × Array Nat->Prop}(k:∀c p',Pm n p'->1<=c->c<=n->Srt lt p' c->Q (c,p')):Hs lt n Q (kas_descPart m n p):=by
 unfold kas_descPart;refine Hs.bind (Pv O hn _ p (m+1) 0 P .(0) .(0) .(0) S (λi hi lV=>?_) λp' c q P' a1 a2 a3 a4 a5=>?_)
 ·have:i=m+1-1:=by omega
  rw[this];exact⟨O.irr _,O.irr _⟩
 ·dsimp only
  by_cases hq:q > 0
  ·rw[aC hq]
   exact HA O (P'.rev _ _) hn .(0) .(0) (LL O (by rw[P'.size];omega) a3 a4 a5).1 k
  ·rw[aD hq]
   exact HA O P' hn .(0) .(0) a4 k
theorem CC{p:Array Nat}(P:Pm n p)(hn:0<n){Q:Nat × Array Nat->Prop}(k:∀c p',Pm n p'->1<=c->c<=n->Srt lt p' c->Q (c,p')):Hs lt n Q (kas_count n p):=by
 unfold kas_count;refine Hs.bind (IE O P hn (n-1) 1 (aM _) (λi j kj hj=>?_) λm h1 h2 S h3=>?_)
 ·have:i=j:=by omega
  rw[this];exact O.irr _
 ·by_cases he:(m == n)=true
  ·rw[aC he]
   exact k m p P h1 (by have:=eq_of_beq he;omega) S
  ·rw[aD he]
   have jw:m≠n:=λz=>he (cX.mpr z)
   have jg:=h3 .(0);by_cases hm:m > 1
   ·rw[aC hm]
    refine⟨P.lt hn 0,P.lt hn (m-1),?_⟩;cases hc:lt (p.getD 0 0) (p.getD (m-1) 0) with
    |true=>dsimp only;rw[aC rfl];exact k m p P h1 .(0) S
    |false=>
     dsimp only;rw[aD aF];have alike:∀i,i<m->Eq' lt (gN p i) (gN p (m-1)):=λi hi=>⟨S i (m-1) .(0) .(0),WC O (show le' lt (gN p (m-1)) (gN p 0) from hc) (S 0 i .(0) hi)⟩
     have F:Fal lt p m:=λi j kj hj=>WC O (alike j hj).1 (alike i .(0)).2
     obtain⟨F1,E1⟩:=LL O (c:=m) (by rw[P.size];omega) (aM _) F λi _ hi=>alike i hi
     rw[fq]at F1 E1;refine QF O (P.rev 0 m) hn .(0) .(0) (Fal.more O .(0) F1 ?_) k;have e2:gN (kas_rev p 0 m) m=gN p m:=by rw[Oe (by rw[P.size];omega),aD .(0)]
     rw[e2];exact WC O (ML O jg) (E1 (m-1) .(0)).2
   ·rw[aD hm]
    have lW:m=1:=by omega
    subst lW;refine QF O P hn .(0) .(0) (Fal.more O .(0) (λi j kj hj=>?_) (ML O jg)) k;have:i=j:=by omega
    rw[this];exact O.irr _
theorem Op{p:Array Nat}{k:Nat}(P:Pm n p)(hn:0<n)(S:Srt lt p k){Q:Nat->Prop}:∀(f l r:Nat),l<=r->r<=k->r-l<=f->(∀i,i<l->le' lt (gN p i) (gN p k))->(∀i,r<=i->i<k->lt (gN p k) (gN p i)=true) -> (∀m,m<=k->(∀i,i<m->le' lt (gN p i) (gN p k))->(∀i,m<=i->i<k->lt (gN p k) (gN p i)=true)->Q m)->Hs lt n Q (kas_place p k f l r)
 |0,l,r,h1,h2,h3,a,b,q=>q l .(0) a λi hi hk=>b i .(0) hk
 |f+1,l,r,h1,h2,h3,a,b,q=>by
  unfold kas_place;by_cases hlr:l ≥ r
  ·rw[aC hlr]
   exact q l .(0) a λi hi hk=>b i .(0) hk
  ·rw[aD hlr]
   refine⟨P.lt hn k,P.lt hn _,?_⟩;cases hc:lt (p.getD k 0) (p.getD ((l+r) / 2) 0) with
   |true=>
    dsimp only;rw[aC rfl];refine Op P hn S f l ((l+r) / 2) .(0) .(0) .(0) a (λi hi hk=>lt_le' O hc (S _ _ hi hk)) q
   |false=>
    dsimp only;rw[aD aF];refine Op P hn S f ((l+r) / 2+1) r .(0) .(0) .(0) (λi hi=>WC O (S i ((l+r) / 2) .(0) .(0)) hc) b q
theorem BE{p:Array Nat}{k m:Nat}(hk:k<p.size)(hm:m<=k)(S:Srt lt p k)(a:∀i,i<m->le' lt (gN p i) (gN p k))(b:∀i,m<=i->i<k->lt (gN p k) (gN p i)=true):Srt lt (bubble p k (k-m)) (k+1):=λi j kj hj=>by
 have e:k-(k-m)=m:=by omega
 rw[EM hk .(0),EM hk .(0),e];by_cases hi:i=m
 ·rw[aC hi]
  by_cases hj2:j=m
  ·rw[aC hj2];exact O.irr _
  ·rw[aD hj2,aC .(0)];exact ML O (b _ .(0) .(0))
 ·rw[aD hi]
  by_cases lV:m<i/\i<=k
  ·rw[aC lV,aD .(0),aC .(0)];exact S _ _ .(0) .(0)
  ·rw[aD lV]
   by_cases hj2:j=m
   ·rw[aC hj2];exact a i .(0)
   ·rw[aD hj2]
    by_cases hj3:m<j/\j<=k
    ·rw[aC hj3];exact S _ _ .(0) .(0)
    ·rw[aD hj3];exact S _ _ kj .(0)
theorem Cb(hn:0<n){Q:Array Nat->Prop}:∀(f:Nat) (p:Array Nat) (k:Nat),Pm n p->k+f<=n->Srt lt p k->(∀p',Pm n p'->Srt lt p' (k+f)->Q p')->Hs lt n Q (kas_bin f p k)
 |0,p,k,P,h,S,q=>q p P S
 |f+1,p,k,P,h,S,q=>by
  unfold kas_bin;refine Hs.bind (Op O P hn S k 0 k (cF _) (aM _) .(0) (λi hi=>absurd hi (eD _)) (λi h1 h2=>absurd h2 .(0)) λm hm a b=>?_);exact Cb hn f _ (k+1) (P.bub _ _) .(0) (BE O (by rw[P.size];omega) hm S a b) λp' P' S'=>q p' P' (by rw[show k+(f+1)=k+1+f by omega];exact S')
theorem Am(hn:0<n):Hs lt n (λp=>Pm n p/\Srt lt p n) (kas_sort n):=by
 unfold kas_sort;have P0:Pm n (List.toArray (List.range n)):=⟨.(2),.(2)⟩;refine Hs.bind (CC O P0 hn λc p' P h1 h2 S=>?_);dsimp only;by_cases hc:c<n
 ·rw[aC hc]
  have hm:max c 1=c:=by omega
  rw[hm];refine Cb O hn (n-c) p' c P .(0) S λp2 P2 S2=>⟨P2,?_⟩
  rw[show c+(n-c)=n by omega]at S2;exact S2
 ·rw[aD hc]
  have:c=n:=by omega
  subst this;exact⟨P,S⟩
end
end L2
namespace L2
noncomputable section
open PySem PySem.Spec PyProof.Rows
section
variable{X:Cx}{E:XK}{e a b c o:qS}{es:iN}{f fa fb fc fo:FE}{fs:FA}{pos p2 p p':Pos}
def Tn{x:Str}{i:Int}(hg:Gl X x)(h:∃t,X.mg x=some (.int i t))(hd:(x == ("__debug__":Str))=false:=by decide):PE X (.Name x pos) (tE E (fC (.int i))):=
 let ⟨_,h⟩:=h;Fe (UK (v:=.int i) hg h ⟨_,rfl⟩ hd) λ_ _=>.int i
def rCatR:R2:=λx y H Q=>∃l b xs zs,x=.ref l/\y=.ref b/\Rd H l (.lst xs)/\Rd H b (.lst zs)/\xs.length+zs.length<=sizeLine/\∀p,H p=none->Q (.ref p) (upd H p (.lst (xs++zs)))
def Ad:OpR X (binaryOp .Add) rCatR:=by
 intro gV s σ H x y v u Q I rx ry h;obtain⟨l,b,xs,zs,rfl,rfl,hl,hb,hz,q⟩:=h;cases rx;cases ry;obtain⟨_,iy,n,r,e1⟩:=hl.ok I.hok;obtain⟨_,lL,m,r',e2⟩:=hb.ok I.hok;have l1:=r.length;have l2:=r'.length;refine PySem.P.add_list e1 e2 ?_ .(8);have ej:iy.toArray++lL.toArray=(iy++lL).toArray:=by simp
 rw[ej];exact⟨.ref _,_,I.lnew (t':=s.toks) (r.append r') (by rw[aV];exact hz),rfl,q _ I.fresh⟩
def Nq(x y:Wv):Mw Wv:=λom=>match x,y with
 |.lst ws,.lst us=>if ws.length+us.length<=lim then (.lst (ws++us))\om else none
 |_,_=>none
def Hh(ha:PE X a (tE E fa))(hb:PE X b (tE E fb)):PE X (.BinOp a .Add b pos) (tE E (f2 Nq fa fb)):=Ku Ad (by
 intro F H β om x y v u Q M rx ry R;cases rx <;> first|exact R.elim|skip
 cases ry <;> first|exact R.elim|skip
 rename_i a xs ws q rs a' zs us q' lq
 have R:Res E (if ws.length+us.length<=lim then some (Except.ok (Wv.lst (ws++us)),om) else none) F H β (PV Q):=R;by_cases hc:ws.length+us.length<=lim
 ·rw[aC hc]at R
  have:=UL;have:=rs.length;have:=lq.length;refine⟨a,a',xs,zs,rfl,rfl,Rd.same M.sub q,Rd.same M.sub q',.(0),λp hp=>?_⟩;obtain⟨g,M'⟩:=M.newFx (o:=.lst (xs++zs)) hp;exact R _ _ _ g M' _ (.lst (.inl ZF) ((rs.append lq).mono g.toGr))
 ·rw[aD hc]at R;exact R.elim) ha hb
end
def kUn(i:Nat):Fl × Sl->Mw (Fl × Sl):=λx=>ret (x.1,x.2.set i none)
def FK(caught:qJ->Bool)(i:Nat)(S jG:FS):FS:=λsl om=>match S sl om with
 |C∩iu=>if caught C=true then bnd (Z0 (jG (sl.set i (some (.o iu.length))))) (kUn i) (iu++[.exc C]) else none
 |r=>r
section
variable{X:Cx}{E:XK}{gV:iD}{σ:St}{e o:qS}{es:iN}{st:qR}{f fo:FE}{fs:FA}{S S1 S2:FS}{c:FT}{pos:Pos}
def PSat.weak{t t':TS}(h:PSat X gV σ st t)(w:∀D H,t' D σ H->t D σ H):PSat X gV σ st t':=λs H D I q=>h s H D I (w D H q)
def PEat.weak{t t':TE}(h:PEat X gV σ e t)(w:∀H Q,t' σ H Q->t σ H Q):PEat X gV σ e t':=λs H Q I q=>h s H Q I (w H Q q)
def LQ{t:qS}{a b:List qR}(hc:PT X t (tT E c))(ha:OY X gV σ a (tS E S1))(hb:OY X gV σ b (tS E S2)):PSat X gV σ (.If t a b pos) (tS E (sIf c S1 S2)):=(A5 hc ha hb).weak λD H h=>tS_if h
def Sh(he:PEat X gV σ e (tE E f))(hs:rM e pos X:=by rfl):PSat X gV σ (.Expr e pos) (tS E (ZR f)):=(Ep he hs).weak λD H ⟨F,β,om,sl,M,V,R⟩=>
 ⟨F,β,om,sl,M,V,R.bind λx qH F1 H1 ix g1 M1 R1 v rv=>(show Res E (ret (Fl.nx,sl) qH) F1 H1 ix (FlP D) from R1).now M1 _ (V.mono g1.toGr)⟩
variable{CX:CXT}{k n:Nat}{fn C:qJ}{fd:qP}{ps:iM}{g:iR->Mw Wv}{x m:Str}
def FJ{pl:Sem Bool}{iY:Pos}(ho:PE X o (tE E fo))(c:Cls X.K C)(hm:Meth X.K C m fn)(G:FnOk X.prog X.w X.K X.mg X.base CX k fn fd ps (spM n g))(hr:Room k X.A)(hb:Binds X.K fd ps [])(hx:WV CX X gV σ E)(ha:PA X (e::es) (tA E fs))(jT:rA e es X:=by rfl) (jb:rB pos es X:=by rfl)(ht:eval (.Call (.Attribute o m iY) (e::es) [] pos) X.env=(do
     let ov ← eval o X.env
     standAt iY.atName
     let (f,first) ← holding [ov] (getMethod ov m pl)
     callWith pos f first (backTo pos (starEach (e::es) X.env)) (backToKw pos (keywordEach [] X.env))):=by rfl):
    PEat X gV σ (.Call (.Attribute o m iY) (e::es) [] pos) (tE E (Zn C m n g fo fs)):=(Ef ho c hm G hr hb .nil hx ha jT jb ht).weak λH Q h=>Gn (dvs:=[]) h
def qs_try{P:qM}{w:qN}{body:List qR}{n:Str}{np jY:Pos}{kh:qR}{jG:List qR}{CE:qI}{i:Nat}{caught:qJ->Bool}(hX:X.prog=P/\X.w=w)(jL:X.ex=[])(kx:X.stack=X.env::X.outer/\X.env.frame=some X.env.locals)(hN:X.N.Nodup) (hi:X.N[i]?=some n) (hl:X.env.scope.names.lookup n=some .local) (hg:Gl X x) (hm:X.mg x=some CE) (oB:∀C,caught C=true->PySem.W.exmOne X.K (.ref C) CE=some true)(hb:∀(E:XK) (xe:iA) (gV:iD) (σ:St),WV (CXw P w) (X.wish xe) gV σ E->OY (X.wish xe) gV σ body (tS E S))(hs:∀a,PSs (X.held a) (kh::jG) (tS E0 S2)) (jv:(x == ("__debug__":Str))=false:=by decide):PS X (.Try body [.ExceptHandler (some (.Name x np)) (some n) (kh::jG) jY] [] [] pos) (tS E (FK caught i S S2)):=by
 refine(ps_try (tb:=λE'=>tS E' S) (ts:=λ_=>tS E0 S2) hX jL kx hN hi hl hg hm hb hs jv).weak λD σ H ⟨F,β,om,sl,M,V,R⟩=>?_
 refine⟨λcls _ H'=>∃C,cls=.ref C/\caught C=true/\∃F' iX iu,MOk F' H' iX iu/\EnvOk F' iX σ sl/\Res E (bnd (Z0 (S2 (sl.set i (some (.o iu.length))))) (kUn i) (iu++[.exc C])) F' H' iX (FlP D),⟨F,β,om,sl,M,V,?_⟩,?_⟩
 ·have R:Res E (match S sl om with|C∩iu=>if caught C=true then bnd (Z0 (S2 (sl.set i (some (.o iu.length))))) (kUn i) (iu++[.exc C]) else none|r=>r) F H β (FlP D):=R
  match hS:S sl om,R with
  |none,R=>exact R.elim
  |y\iu,R=>exact R
  |C∩iu,R=>
   intro F' H' iX g' M';by_cases hc:caught C=true
   ·have R2:Res E (bnd (Z0 (S2 (sl.set i (some (.o iu.length))))) (kUn i) (iu++[.exc C])) F H β (FlP D):=by
     have:=R;dsimp only at this;rw[aC hc]at this;exact this
    exact⟨C,rfl,hc,F',iX,iu,M',V.mono g'.toGr,Res.mono g' R2⟩
   ·have:=R
    dsimp only at this;rw[aD hc]at this;exact this.elim
 ·rintro cls o H' ⟨C,rfl,hc,F',iX,iu,M',V',R'⟩
  refine⟨C,rfl,oB C hc,λa ha=>?_⟩;obtain⟨g2,M2,e2⟩:=M'.newOx (p:=a) (o:=FP a C) (x:=.exc C) ha λpB _=>ZF
  refine⟨F',_,_,sl.set i (some (.o iu.length)),M2,(V'.mono g2.toGr).set i (.o e2),Res.calm (Res.mono g2 R') λy jH F3 H3 jN g3 M3 R3=>?_⟩;obtain⟨fl,jd⟩:=y;have R3:=(show Res E (ret (fl,jd.set i none) jH) F3 H3 jN (FlP D) from R3).now M3;cases fl with
  |nx=>exact λi6 V3=>R3 _ (V3.setN i)
  |bk=>exact λi6 V3=>R3 _ (V3.setN i)
  |ct=>exact λi6 V3=>R3 _ (V3.setN i)
  |rt w=>exact R3
end
structure ExcAll(K:iC)(isE:qJ->Bool)(kit:qJ->Value->Bool)(Ds:iJ):Prop where
 k:∀C,isE C=true->ExcK K C
 a:∀C D,isE C=true->D∈Ds->PySem.W.kitOne K (.ref C) D=some (kit C D)
def WA(isE:qJ->Bool)(kit:qJ->Value->Bool)(D:qI)(x:Wv):Mw Wv:=λom=>match x with
 |.o h=>match om[h]? with
  |some (.exc C)=>if isE C=true then (.bl (kit C D))\om else none
  |_=>none
 |_=>none
section
variable{X:Cx}{E:XK}{e:qS}{f:FE}{pos p p2:Pos}{isE:qJ->Bool}{kit:qJ->Value->Bool}{Ds:iJ}
def T7{x:Str}{D:qI}{dv:V}(k:ExcAll X.K isE kit Ds)(hg:Gl X "isinstance")(hm:X.mg "isinstance"=none)(he:PE X e (tE E f))(hT:PE X (.Name x p2) (tC dv))(hD:clsV dv=some D)(jZ:D∈Ds)(h1:starEach [e,.Name x p2] X.env=(false,eval e X.env)::starEach [.Name x p2] X.env:=by rfl) (h2:starEach [.Name x p2] X.env=(false,eval (.Name x p2) X.env)::starEach [] X.env:=by rfl) (jb:(backTo pos (starEach [.Name x p2] X.env)).any (·.1)=false:=by rfl):PE X (.Call (.Name "isinstance" p) [e,.Name x p2] [] pos) (tE E (f1 (WA isE kit D) f)):=(RF FG hg hm PyProof.Rows.boot_isinstance (X1 he (X1 hT Vq h2) h1) .(1) .(1) h1 jb).weak λσ H Q h=>by
 refine Dm (r:=λv H1 Q=>∃a C cv c b,[v,dv]=[.ref a,cv]/\H1 a=some (FP a C)/\ExcK X.K C/\clsV cv=some c/\PySem.W.kitOne X.K (.ref C) c=some b/\Q (.bl b) H1) ?_ h;intro F H β om x v Q M rx R;cases rx with
 |@o h a eb=>
  have R:Res E (match om[h]? with|some (.exc C)=>if isE C=true then some (Except.ok (Wv.bl (kit C D)),om) else none|_=>none) F H β (PV Q):=R
  match hx:om[h]?,R with
  |none,R=>exact R.elim
  |some (.ins _ _),R=>exact R.elim
  |some (.lst _),R=>exact R.elim
  |some (.dk _),R=>exact R.elim
  |some (.dt _),R=>exact R.elim
  |some (.dz _),R=>exact R.elim
  |some (.exc C),R=>
   obtain⟨a',ea,_,ho⟩:=M.at hx;rw[eb]at ea;cases ea;dsimp only at R;by_cases hc:isE C=true
   ·have R2:Res E (ret (Wv.bl (kit C D)) om) F H β (PV Q):=by
     have:=R;rw[aC hc]at this;exact this
    exact⟨a,C,dv,D,_,rfl,ho,k.k C hc,hD,k.a C D hc jZ,R2.now M _ (.bl _)⟩
   ·rw[aD hc]at R;exact R.elim
 |_=>exact R.elim
end
mutual
def small(n:Nat):Wv->Prop
 |.o h=>h<n
 |.lst ws=>smalls n ws
 |.tup ws=>smalls n ws
 |_=>True
def smalls(n:Nat):iR->Prop
 |[]=>True
 |w::r=>small n w/\smalls n r
end
def T9(n:Nat):Ob->Prop
 |.ins _ fs=>∀p∈fs,small n p.2
 |.lst ws=>smalls n ws
 |.dk kvs=>∀p∈kvs,small n p.2
 |.dt kvs=>∀p∈kvs,small n p.2
 |.exc _=>True
 |.dz kvs=>∀p∈kvs,small n p.2
mutual
def RW.small{F:Hp}{β:iI}:∀{w:Wv} {v:V},RW F β w v->small β.length w
 |_,_,.non=>trivial
 |_,_,.bl _=>trivial
 |_,_,.int _=>trivial
 |_,_,.str _=>trivial
 |_,_,.lst _ r=>RWs.small r
 |_,_,.tup _ r=>RWs.small r
 |_,_,.o e=>(aJ.mp e).1
 |_,_,.g _=>trivial
def RWs.small{F:Hp}{β:iI}:∀{ws:iR} {vs:iQ},RWs F β ws vs->smalls β.length ws
 |_,_,.nil=>trivial
 |_,_,.cons h r=>⟨RW.small h,RWs.small r⟩
end
def RK.small{F:Hp}{β:iI}{κ:Type}:∀{ps:List (κ × Wv)} {qs:List (κ × V)},RK F β ps qs->∀p∈ps,L2.small β.length p.2
 |_,_,.nil,_,hp=>nomatch hp
 |_,_,.cons h r,p,hp=>by
  rcases aN.mp hp with rfl|hp
  ·exact h.small
  ·exact RK.small r p hp
def MOk.small{F H:Hp}{β:iI}{om:iV}(M:MOk F H β om):∀x∈om,T9 om.length x:=λx hx=>by
 obtain⟨i,hi⟩:=dI hx;obtain⟨a,_,_,r⟩:=M.at hi;rw[← M.len];cases x with
 |ins C fs=>obtain⟨_,_,_,r⟩:=r;exact r.small
 |lst ws=>obtain⟨_,_,r⟩:=r;exact r.small
 |dk kvs=>obtain⟨_,_,r⟩:=r;exact r.small
 |dt kvs=>obtain⟨_,_,r⟩:=r;exact r.small
 |exc C=>trivial
 |dz kvs=>obtain⟨_,_,_,r⟩:=r;exact r.small
mutual
inductive FzW (om:iV) (n:Nat):Wv->Wv->Prop
 |same {w:Wv} (h:small n w):FzW om n w w
 |own {h:Nat} {xs ys:iR} (hn:n<=h) (e:om[h]?=some (.lst xs)) (r:FzWs om n xs ys):FzW om n (.o h) (.lst ys)
 |lst {xs ys:iR} (r:FzWs om n xs ys):FzW om n (.lst xs) (.lst ys)
 |tup {xs ys:iR} (r:FzWs om n xs ys):FzW om n (.tup xs) (.tup ys)
inductive FzWs (om:iV) (n:Nat):iR->List Wv->Prop
 |nil:FzWs om n [] []
 |cons {x y:Wv} {xs ys:iR} (h:FzW om n x y) (r:FzWs om n xs ys):FzWs om n (x::xs) (y::ys)
end
def FzWs.of_smalls{om:iV}{n:Nat}:∀{ws:iR},smalls n ws->FzWs om n ws ws
 |[],_=>.nil
 |_::_,⟨h,r⟩=>.cons (.same h) (FzWs.of_smalls r)
section
variable{F' jO:Hp}{β iX:iI}{n:Nat}(i8:Same F' jO)(ext:∀(h:Nat),h<n->iX[h]?=β[h]?)
mutual
def RW.down(i8:Same F' jO)(ext:∀(h:Nat),h<n->iX[h]?=β[h]?):∀{w:Wv} {v:V},RW F' iX w v->L2.small n w->RW jO β w v
 |_,_,.non,_=>.non
 |_,_,.bl b,_=>.bl b
 |_,_,.int i,_=>.int i
 |_,_,.str x,_=>.str x
 |_,_,.lst e r,hs=>.lst (Rd.same i8 e) (RWs.down i8 ext r hs)
 |_,_,.tup e r,hs=>.tup (i8 _ _ e) (RWs.down i8 ext r hs)
 |_,_,.o (h:=h) e,hs=>.o ((ext h hs).symm.trans e)
 |_,_,.g a,_=>.g a
def RWs.down(i8:Same F' jO)(ext:∀(h:Nat),h<n->iX[h]?=β[h]?):∀{ws:iR} {vs:iQ},RWs F' iX ws vs->smalls n ws->RWs jO β ws vs
 |_,_,.nil,_=>.nil
 |_,_,.cons h r,hs=>.cons (RW.down i8 ext h hs.1) (RWs.down i8 ext r hs.2)
end
def RK.down(i8:Same F' jO)(ext:∀(h:Nat),h<n->iX[h]?=β[h]?){κ:Type}:∀{ps:List (κ × Wv)} {qs:List (κ × V)},RK F' iX ps qs->(∀p∈ps,L2.small n p.2)->RK jO β ps qs
 |_,_,.nil,_=>.nil
 |_,_,.cons h r,hs=>.cons (RW.down i8 ext h (hs _ (.head _))) (RK.down i8 ext r λq hq=>hs q (.tail _ hq))
variable{om:iV}
mutual
def FzW.rel(i8:Same F' jO)(ext:∀(h:Nat),h<n->iX[h]?=β[h]?)(own:∀h a xs,n<=h->iX[h]?=some a->om[h]?=some (.lst xs)->∃zs,jO a=some (.lst zs)/\RWs F' iX xs zs):∀{w w':Wv} {v:V},FzW om n w w'->RW F' iX w v->RW jO β w' v
 |_,_,_,.same h,r=>r.down i8 ext h
 |_,_,_,.own hn e r,.o eb=>let ⟨_,h1,h2⟩:=own _ _ _ hn eb e;.lst (.inl h1) (FzWs.rel i8 ext own r h2)
 |_,_,_,.lst r,.lst e rs=>.lst (Rd.same i8 e) (FzWs.rel i8 ext own r rs)
 |_,_,_,.tup r,.tup e rs=>.tup (i8 _ _ e) (FzWs.rel i8 ext own r rs)
def FzWs.rel(i8:Same F' jO)(ext:∀(h:Nat),h<n->iX[h]?=β[h]?)(own:∀h a xs,n<=h->iX[h]?=some a->om[h]?=some (.lst xs)->∃zs,jO a=some (.lst zs)/\RWs F' iX xs zs):∀{ws oC:iR} {vs:iQ},FzWs om n ws oC->RWs F' iX ws vs->RWs jO β oC vs
 |_,_,_,.nil,.nil=>.nil
 |_,_,_,.cons h r,.cons h' r'=>.cons (FzW.rel i8 ext own h h') (FzWs.rel i8 ext own r r')
end
end
section
variable{F F' H H':Hp}{β iX:iI}{om qH l:iV}
def C0:Option HO->Option HO
 |some (.lst xs)=>some (.lst xs)
 |_=>none
def Fo{x:Option HO}{o:HO}(h:C0 x=some o):x=some o:=by
 unfold C0 at h;split at h
 ·exact h
 ·cases h
def Ja(F' H':Hp)(new:iI):Hp:=λb=>if b∈new then C0 (H' b) else F' b
def Mc(M:MOk F H β om)(g:Gx F F' H H' β iX)(M':MOk F' H' iX (qH++l))(hl:qH.length=om.length)(hs:∀x∈qH,T9 om.length x):∃jO,Gx F jO H H' β β/\MOk jO H' β qH/\∀w w' v,FzW (qH++l) om.length w w'->RW F' iX w v->RW jO β w' v:=by
 have hβ:β.length=om.length:=M.len;have hβ':iX.length=om.length+l.length:=by rw[M'.len,aV,hl]
 have ext:∀(h:Nat),h<om.length->iX[h]?=β[h]?:=λh hh=>by
  have e:β[h]?=some β[h]:=aK .(0);rw[e];exact g.pre h _ e
 have inNew:∀(h:Nat) (a:qJ),om.length<=h->iX[h]?=some a->a∈iX.drop om.length:=λh a hh e=>by
  refine bN (i:=h-om.length) ?_;rw[List.getElem?_drop];rw[show om.length+(h-om.length)=h by omega];exact e
 have ofNew:∀a,a∈iX.drop om.length->∃h,om.length<=h/\iX[h]?=some a:=λa ha=>by
  obtain⟨i,hi⟩:=dI ha;rw[List.getElem?_drop]at hi;exact⟨_,eT _ _,hi⟩
 have oldNew:∀(h:Nat) (a:qJ),β[h]?=some a->a ∉ iX.drop om.length:=λh a e ha=>by
  obtain⟨j,hj,ej⟩:=ofNew a ha;have hh:h<om.length:=by rw[← hβ];exact(aJ.mp e).1
  have:=ndx M'.nd ej (g.pre h a e);omega
 have newNone:∀a,a∈iX.drop om.length->H a=none:=λa ha=>by
  rcases g.new a (List.mem_of_mem_drop ha) with h|h
  ·obtain⟨i,hi⟩:=dI h
   exact absurd ha (oldNew i a hi)
  ·exact h
 have i8:Same F' (Ja F' H' (iX.drop om.length)):=λb o e=>by
  unfold Ja;by_cases hb:b∈iX.drop om.length
  ·obtain⟨j,_,ej⟩:=ofNew b hb
   rw[M'.free j b ej]at e;cases e
  ·rw[aD hb];exact e
 have sub':Same (Ja F' H' (iX.drop om.length)) H':=λb o e=>by
  unfold Ja at e;by_cases hb:b∈iX.drop om.length
  ·rw[aC hb]at e;exact Fo e
  ·rw[aD hb]at e;exact M'.sub b o e
 refine⟨Ja F' H' (iX.drop om.length),⟨⟨g.same<|i8,λ_ _ e=>e⟩,g.keep,g.there,λb hb=>.inl hb,λb o e=>?_,g.frz⟩,⟨sub',M.nd,by rw[hβ,hl],λh a e=>?_,λh a x e1 e2=>?_⟩,?_⟩
 ·unfold Ja at e
  by_cases hb:b∈iX.drop om.length
  ·exact .inr (newNone b hb)
  ·rw[aD hb]at e;exact g.fnew b o e
 ·unfold Ja
  rw[aD (oldNew h a e)];exact M'.free h a (g.pre h a e)
 ·have hh:h<qH.length:=(aJ.mp e2).1
  have hx:=M'.ob h a x (g.pre h a e1) (by rw[aZ hh];exact e2);have sx:=hs x (bN e2);cases x with
  |ins C fs=>obtain⟨dx,jE,h1,r⟩:=hx;exact⟨dx,jE,h1,r.down i8 ext sx⟩
  |lst ws=>obtain⟨xs,h1,r⟩:=hx;exact⟨xs,h1,r.down i8 ext sx⟩
  |dk kvs=>obtain⟨ks,h1,r⟩:=hx;exact⟨ks,h1,r.down i8 ext sx⟩
  |dt kvs=>obtain⟨ks,h1,r⟩:=hx;exact⟨ks,h1,r.down i8 ext sx⟩
  |exc C=>exact hx
  |dz kvs=>obtain⟨o,ks,h1,r⟩:=hx;exact⟨o,ks,h1,r.down i8 ext sx⟩
 ·intro w w' v fz r
  refine FzW.rel i8 ext (λh a xs hn eb e=>?_) fz r;obtain⟨a',ea,_,zs,hz,rs⟩:=M'.at e;rw[eb]at ea;cases ea;refine⟨zs,?_,rs⟩;unfold Ja;rw[aC (inNew h _ hn eb),hz];rfl
end
inductive Tidy (om:iV):Option (Except qJ Wv × iV)->Option (Except qJ Wv × iV)->Prop
 |same (r:Option (Except qJ Wv × iV)):Tidy om r r
 |ok {w w':Wv} {qH l:iV} (hl:qH.length=om.length) (hs:∀x∈qH,T9 om.length x) (fz:FzW (qH++l) om.length w w'):Tidy om (w\(qH++l)) (w'\qH)
 |err {C:qJ} {qH l:iV} (hl:qH.length=om.length) (hs:∀x∈qH,T9 om.length x):Tidy om (C∩(qH++l)) (C∩qH)
def FnOk.tidy{P:qM}{w:qN}{K:iC}{mg:iB}{base:qQ}{k n:Nat}{f:qJ}{fd:qP}{ps:iM}{CX:CXT}{g g':iR->Mw Wv}(F:FnOk P w K mg base CX k f fd ps (spM n g))(h:∀ws om,ws.length=n->(∀x∈om,T9 om.length x)->g' ws om≠none->Tidy om (g ws om) (g' ws om)):FnOk P w K mg base CX k f fd ps (spM n g'):=
 F.imp λvs H Q E ⟨F,β,om,ws,M,rs,hl,R⟩=>⟨F,β,om,ws,M,rs,hl,by
  have t:=h ws om hl M.small (λz=>by rw[z]at R;exact R);generalize g ws om=r at t;generalize g' ws om=r' at t R;cases t with
  |same=>exact R
  |ok lr hs fz=>
   intro F' H' iX g1 M' v rv;obtain⟨jO,g2,M2,rel⟩:=Mc M g1 M' lr hs;exact R jO H' β g2 M2 v (rel _ _ v fz rv)
  |err lr hs=>
   intro F' H' iX g1 M';obtain⟨jO,g2,M2,_⟩:=Mc M g1 M' lr hs;exact R jO H' β g2 M2⟩
end
end L2
namespace L2
noncomputable section
open PySem PySem.Spec PyProof.Rows PySem.W
def ltP(a b:Int × Int):Bool:=if a.1=b.1 then decide (a.2<b.2) else decide (a.1<b.1)
def V1{a b:Int × Int}:ltP a b=true ↔ a.1<b.1\/(a.1=b.1/\a.2<b.2):=by
 unfold ltP;split
 ·rw[bY];omega
 ·rw[bY];omega
def ltR:iK->List Int->Bool
 |a::x,b::y=>if a=b then ltR x y else decide (a<b)
 |[],_::_=>true
 |_,[]=>false
def Tz{a b:Int}{x y:iK}:ltR (a::x) (b::y)=true ↔ a<b\/(a=b/\ltR x y=true):=by
 show(if a=b then ltR x y else decide (a<b))=true ↔ _;by_cases h:a=b
 ·rw[aC h];exact⟨λz=>.inr ⟨h,z⟩,λz=>z.elim (λq=>absurd q .(0)) λq=>q.2⟩
 ·rw[aD h,bY];exact⟨.inl,λz=>z.elim id λq=>absurd q.1 h⟩
def GU:∀x,ltR x x=false
 |[]=>rfl
 |a::x=>by
  show(if a=a then ltR x x else _)=false;rw[aC rfl];exact GU x
def EQ:∀{x y z:iK},ltR x y=true->ltR y z=true->ltR x z=true
 |[],_::_,_::_,_,_=>rfl
 |[],[],_,h,_=>nomatch h
 |_::_,[],_,h,_=>nomatch h
 |_,_::_,[],_,h=>nomatch h
 |a::x,b::y,c::z,h1,h2=>by
  rcases Tz.mp h1 with p|⟨p,p'⟩ <;> rcases Tz.mp h2 with q|⟨q,q'⟩
  ·exact Tz.mpr (.inl .(0))
  ·exact Tz.mpr (.inl .(0))
  ·exact Tz.mpr (.inl .(0))
  ·exact Tz.mpr (.inr ⟨.(0),EQ p' q'⟩)
def Gp:∀{x y z:iK},ltR x z=true->ltR x y=true\/ltR y z=true
 |[],[],_::_,_=>.inr rfl
 |[],_::_,_,_=>.inl rfl
 |_::_,[],_::_,_=>.inr rfl
 |[],[],[],h=>nomatch h
 |_::_,_,[],h=>nomatch h
 |a::x,b::y,c::z,h=>by
  by_cases h1:a<b
  ·exact .inl (Tz.mpr (.inl h1))
  ·by_cases h2:b<c
   ·exact .inr (Tz.mpr (.inl h2))
   ·rcases Tz.mp h with p|⟨p,p'⟩
    ·omega
    ·rcases Gp (y:=y) p' with q|q
     ·exact .inl (Tz.mpr (.inr ⟨.(0),q⟩))
     ·exact .inr (Tz.mpr (.inr ⟨.(0),q⟩))
def F9(ps:iH)(i j:Nat):Bool:=ltR (ps.getD i []) (ps.getD j [])
def swo_at(ps:iH):Swo (F9 ps):=⟨λ_=>GU _,λ_ _ _=>EQ,λ_ _ _=>Gp⟩
section
variable{prog:qM}{w:qN}{A:qO}{E:iA}{s:qK}
structure RowsAt(h:qQ)(as:iI)(ps:iH):Prop where
 len:as.length=ps.length
 wid:∃m,∀p∈ps,p.length=m+1
 at':∀(i:Nat) (a:qJ) (p:iK),as[i]?=some a->ps[i]?=some p->∃o vs n,h.get? a=some o/\o.cls=.type "tuple"/\o.data=.seq vs.toArray n/\Vals (p.map V.int) vs
def RowsAt.keep{h h':qQ}{as:iI}{ps:iH}(x:RowsAt h as ps)(k:∀a∈as,∀o,h.get? a=some o->h'.get? a=some o):RowsAt h' as ps:=
 ⟨x.len,x.wid,λi a p e1 e2=>let ⟨o,vs,n,e,r⟩:=x.at' i a p e1 e2;⟨o,vs,n,k a (bN e1) _ e,r⟩⟩
def Kr{C:Bool->Shared->Prop}:∀{x y:iK} {xs ys:iJ} {i:Nat},Vals (x.map V.int) xs->Vals (y.map V.int) ys->x.length=y.length->C (ltR x y) s->KatLex prog w A true false C (xs.zip ys) i s
 |[],[],_,_,_,.nil,.nil,_,h=>kat_nil h
 |a::x,b::y,_,_,i,.cons h1 r1,.cons h2 r2,hl,h=>by
  obtain⟨t,rfl⟩:=(show ∃t,_=Value.int a t from h1);obtain⟨u,rfl⟩:=(show ∃u,_=Value.int b u from h2);refine kat_cons (wpAny_eqBool_int ?_);have h:C (if a=b then ltR x y else decide (a<b)) s:=h;by_cases he:a=b
  ·rw[aC he]at h
   rw[show(a == b)=true from cX.mpr he];exact kat_yes (Kr r1 r2 (by simpa using hl) h)
  ·rw[aD he]at h
   rw[show(a == b)=false from aU.mpr he];cases i with
   |zero=>exact kat_no (oneLt_int h)
   |succ i=>exact kat_no (kat_one _ _ (lt_int h))
 |[],_::_,_,_,_,_,_,hl,_=>nomatch hl
 |_::_,[],_,_,_,_,_,hl,_=>nomatch hl
def G4{as:iI}{ps:iH}{Q:SortKind->Shared->Prop}(pa:RowsAt s.heap as ps)(hn:0<ps.length)(h:Q (tuples' true) s):wpAny (model prog w) A (keyKind' (as.map Value.ref).toArray) Q E s:=by
 have key:∀(as:iI) (ps:iH),RowsAt s.heap as ps->∃fs,KatTups s.heap (as.map Value.ref) fs/\fs.length=ps.length/\∀v∈fs,∃i t,v=Value.int i t:=by
  intro as
  induction as with
  |nil=>
   intro ps pa;have:ps=[]:=fZ.mp pa.len.symm;subst this;exact⟨[],KatTups.nil,rfl,λv hv=>nomatch hv⟩
  |cons a as ih=>
   intro ps pa
   match ps,pa with
   |[],pa=>exact absurd pa.len .(2)
   |p::ps,pa=>
    obtain⟨m,hw⟩:=pa.wid;obtain⟨fs,h1,h2,h3⟩:=ih ps ⟨by have:=pa.len;simpa using this,⟨m,λq hq=>hw q (.tail _ hq)⟩,λi a' p' e1 e2=>pa.at' (i+1) a' p' (by simpa using e1) (by simpa using e2)⟩;obtain⟨o,vs,n,e,ec,ed,rv⟩:=pa.at' 0 a p rfl rfl
    match p,hw p (.head _),vs,rv,ed with
    |x::p,_,_::vs,.cons hx rv,ed=>
     obtain⟨t,rfl⟩:=(show ∃t,_=Value.int x t from hx);refine⟨.int x t::fs,KatTups.cons e ec ed rfl h1,by simp[h2],λv hv=>?_⟩;rcases aN.mp hv with rfl|hv
     ·exact⟨_,_,rfl⟩
     ·exact h3 v hv
 obtain⟨fs,h1,h2,h3⟩:=key as ps pa;refine kat_kind (T:=.type "int") h1 .(0) (λv hv=>?_) rfl h;obtain⟨i,t,rfl⟩:=h3 v hv;exact Looks.now
def FF{a:qJ}{as:iI}{ps:iH}{n:Nat}{P:PySem.Fin->Shared->Prop}(ho:s.heap.get? a=some (seqObj "list" (as.map Value.ref).toArray n))(pa:RowsAt s.heap as ps)(nH:a ∉ as)(kS:as.length<64)(fin:∀h' bs qs c,(∀b o,b≠a->s.heap.get? b=some o->h'.get? b=some o)->h'.get? a=some (seqObj "list" (bs.map Value.ref).toArray c)->(∃p:iL,p.Perm (List.range as.length)/\bs=p.map (λi=>as.getD i 0)/\qs=p.map (λi=>ps.getD i []))->qs.Pairwise (λx y=>ltR y x=false)->P (.done (.ret .none)) {s with heap:=h'}):wpAny (model prog w) A (Builtin.«list.sort» ⟨[.ref a],[]⟩) P E s:=by
 have ha:a<s.heap.objs.size:=aP ho;have upd1:=cD s.heap a (Obj.mapSeq λ_=>(#[]:Array qI));obtain⟨e1,g1⟩:∃e1,(s.heap.update a (Obj.mapSeq λ_=>(#[]:Array qI))).get? a=some (seqObj "list" #[] e1):=⟨_,get?_update_seq ho λ_=>#[]⟩
 have hvl:(as.map Value.ref).toArray.size=as.length:=by simp
 rw[list_sort_plain];refine aA (listItems_at ho rfl (aA (listUpdate_at ho rfl (aA (seqEpoch_at g1 rfl (aA (wpAny_newTuple (aA (wpAny_newList (cz ?_) (cF _))) (by show(as.map Value.ref).length<=_;rw[aB,cG];omega))))) (by rw[hvl,cG];omega) (cF _))));generalize hH:((s.heap.update a (Obj.mapSeq λ_=>(#[]:Array qI))).push (seqObj "tuple" (as.map Value.ref).toArray 0)).push (seqObj "list" #[] 0)=h3
 have keep3:∀b o,b≠a->s.heap.get? b=some o->h3.get? b=some o:=λb o hb e=>by
  rw[← hH];exact aL _ (aL _ (upd1.2 b hb<|e))
 have g3:h3.get? a=some (seqObj "list" #[] e1):=by rw[← hH];exact aL _ (aL _ g1)
 have pa3:RowsAt h3 as ps:=pa.keep λb hb o e=>keep3 b o (λz=>nH (z ▸ hb)) e
 show wpAny (model prog w) A _ P E {s with heap:=h3}
 have hend : ∀ (bs : iI) (qs : iH) (st : SortSt),(arrOf st).map (·.2) = (bs.map Value.ref).toArray -> bs.length <= as.length -> failedOf st = none -> (∃ p : iL,p.Perm (List.range as.length) /\ bs = p.map (fun i => as.getD i 0) /\ qs = p.map (fun i => ps.getD i [])) -> qs.Pairwise (fun x y => ltR y x = false) ->
     wpAny (model prog w) A (do
      let touched:=(← seqEpoch a) != e1
      Builtin.List.listUpdate (.ref a) λ_=>(arrOf st).map (·.2)
      if let some e:=failedOf st then rule "list.sort.comparison-raised";throw e
      if touched then rule "list.sort.modified";raiseError "ValueError" "list modified during sort"
      PySem.ret .none) P E {s with heap:=h3}:=λbs qs st jP qz hf hp hs=>by
  refine aA (seqEpoch_at g3 rfl (aA (listUpdate_at g3 rfl ?_ (cF _) (by rw[jP];simp only[bD,aB];rw[cG];omega))));rw[jP,hf];obtain⟨c2,g4⟩:∃c2,(h3.update a (Obj.mapSeq λ_=>(bs.map Value.ref).toArray)).get? a=some (seqObj "list" (bs.map Value.ref).toArray c2):=⟨_,get?_update_seq g3 λ_=>(bs.map Value.ref).toArray⟩
  have upd2:=cD h3 a (Obj.mapSeq λ_=>(bs.map Value.ref).toArray);simp only[eN,eI,if_false];exact aE (fin _ bs qs c2 (λb o hb e=>upd2.2 b hb<|keep3 b o hb e) g4 hp hs)
 by_cases h2:as.length<2
 ·have jB:(as.map Value.ref).toArray.size<2:=by omega
  dsimp only;rw[aC jB,aC jB];refine aA (aE ?_);rw[StateT.run_pure];refine aA (aE (hend as ps (SortSt.mk' general' ((as.map Value.ref).toArray.zip (as.map Value.ref).toArray) #[] 7 none) ?_ (aM _) rfl ⟨List.range as.length,dJ _,?_,?_⟩ ?_))
  ·show((as.map Value.ref).toArray.zip (as.map Value.ref).toArray).map (·.2)=_
   apply hZ.mp;simp only[Array.toList_map,Array.toList_zip];exact List.map_snd_zip (aM _)
  ·refine de λi=>?_
   by_cases hi:i<as.length
   ·simp[hi]
   ·simp[hi]
  ·refine de λi=>?_
   have:=pa.len;by_cases hi:i<as.length
   ·simp[hi,show i<ps.length by omega]
   ·simp[hi,show ps.length<=i by omega]
  ·have:=pa.len
   match ps,this with
   |[],_=>exact List.Pairwise.nil
   |[_],_=>exact fY _ _
   |_::_::_,h=>simp at h;omega
 ·have jB:¬ (as.map Value.ref).toArray.size<2:=by omega
  dsimp only;rw[aD jB,aD jB];have nG:(as.map Value.ref).length=as.length:=by simp
  refine aA (G4 (s:={s with heap:=h3}) pa3 (by have:=pa.len;omega) ?_);have O:=swo_at ps
  have tree:=Hs.wp (Q:=λ(p:Array Nat) kM=>kM={s with heap:=h3}/\Pm as.length p/\L2.Srt (F9 ps) p as.length) (cmp:=kas_ask prog w A (tuples' true) (as.map Value.ref)) (s:={s with heap:=h3})
   (λi j C hi hj hC=>by
    unfold kas_ask;have gi:(as.map Value.ref).getD i Value.none=.ref as[i]:=by simp[hi]
    have gj:(as.map Value.ref).getD j Value.none=.ref as[j]:=by simp[hj]
    rw[gi,gj];have hl:=pa.len;obtain⟨oi,vi,ni,ei,_,di,ri⟩:=pa3.at' i as[i] (ps[i]'.(0)) (aK hi) (aK .(0));obtain⟨oj,vj,nj,ej,_,dj,rj⟩:=pa3.at' j as[j] (ps[j]'.(0)) (aK hj) (aK .(0));obtain⟨wm,oE⟩:=pa.wid;have w1:=oE _ (du (l:=ps) (n:=i) .(0));have w2:=oE _ (du (l:=ps) (n:=j) .(0));have z1:=ri.length;have z2:=rj.length;rw[aB]at z1 z2;refine kat_lt ei di ej dj ?_;rw[show decide (vi.toArray.size<vj.toArray.size)=false from aG .(8)];refine Kr (i:=0) ri rj .(0) ?_;have d1:ps.getD i []=ps[i]'.(0):=by simp[show i<ps.length by omega]
    have d2:ps.getD j []=ps[j]'.(0):=by simp[show j<ps.length by omega]
    unfold F9 at hC;rw[d1,d2]at hC;exact hC) (λp hp=>⟨rfl,hp⟩) (Am O (n:=as.length) .(0))
  have tree2:(kas_sort (as.map Value.ref).length).kasWp (kas_ask prog w A (tuples' true) (as.map Value.ref)) (λ(p:Array Nat) kM=>kM={s with heap:=h3}/\Pm as.length p/\L2.Srt (F9 ps) p as.length) {s with heap:=h3}:=by rw[nG];exact tree
  refine aA (cw (kat_run (Q:=λj8 s'=>s'={s with heap:=h3}/\∃p:Array Nat,arrOf j8=p.map (kas_item ((as.map Value.ref).toArray.zip (as.map Value.ref).toArray))/\failedOf j8=none/\Pm as.length p/\L2.Srt (F9 ps) p as.length) rfl .(0) .(0)
   (λp j8 s' _ a2 a3 a4=>⟨a4.1,p,a2,a3,a4.2.1,a4.2.2⟩) tree2) (λr s' hr=>?_) λ_ _ e=>e)
  obtain⟨⟨⟩,j8⟩:=r;obtain⟨rfl,p,pC,hf,mH,pD⟩:=hr;have jP:=kat_snds rfl pC;have hall:∀i∈p.toList,i<as.length:=λi hi=>by have:=mH.perm.mem_iff.mp hi;simpa using this
  refine hend (p.toList.map λi=>as.getD i 0) (p.toList.map λi=>ps.getD i []) j8 ?_ (by rw[aB,mH.perm.length_eq,cB];exact aM _) hf ⟨p.toList,mH.perm,rfl,rfl⟩ ?_
  ·rw[jP,bA]
   congr 1
   refine cP λi hi=>?_
   have:=hall i hi;simp[this]
  ·rw[cp]
   refine dC.mpr λi j hi hj kj=>?_
   have jb:p.toList.length=as.length:=by rw[mH.perm.length_eq,cB]
   have:=pD i j .(0) .(0);unfold le' gN F9 at this;have q1:p.getD i 0=p.toList[i]:=by simp[Array.getD,show i<p.size by simpa using hi]
   have q2:p.getD j 0=p.toList[j]:=by simp[Array.getD,show j<p.size by simpa using hj]
   rw[q1,q2]at this;exact this
structure PrsAt(h:qQ)(as:iI)(ps:iG):Prop where
 len:as.length=ps.length
 at':∀(i:Nat) (a:qJ) (p:Int × Int),as[i]?=some a->ps[i]?=some p->∃o t u n,h.get? a=some o/\o.cls=.type "tuple"/\o.data=.seq #[.int p.1 t,.int p.2 u] n
def PrsAt.keep{h h':qQ}{as:iI}{ps:iG}(x:PrsAt h as ps)(k:∀a∈as,∀o,h.get? a=some o->h'.get? a=some o):PrsAt h' as ps:=
 ⟨x.len,λi a p e1 e2=>let ⟨o,t,u,n,e,r⟩:=x.at' i a p e1 e2;⟨o,t,u,n,k a (bN e1) _ e,r⟩⟩
def l2(p:Int × Int):iK:=[p.1,p.2]
def ltR_l2(p q:Int × Int):ltR (l2 p) (l2 q)=ltP p q:=by
 show(if p.1=q.1 then (if p.2=q.2 then false else decide (p.2<q.2)) else decide (p.1<q.1))=_;unfold ltP;by_cases h:p.1=q.1
 ·rw[aC h,aC h]
  by_cases h2:p.2=q.2
  ·rw[aC h2,aG .(0)]
  ·rw[aD h2]
 ·rw[aD h,aD h]
def IA{a:qJ}{as:iI}{ps:iG}{n:Nat}{P:PySem.Fin->Shared->Prop}(ho:s.heap.get? a=some (seqObj "list" (as.map Value.ref).toArray n))(pa:PrsAt s.heap as ps)(nH:a ∉ as)(kS:as.length<64)(fin:∀h' bs qs c,(∀b o,b≠a->s.heap.get? b=some o->h'.get? b=some o)->h'.get? a=some (seqObj "list" (bs.map Value.ref).toArray c)->(∃p:iL,p.Perm (List.range as.length)/\bs=p.map (λi=>as.getD i 0)/\qs=p.map (λi=>ps.getD i (0,0)))->qs.Pairwise (λx y=>ltP y x=false)->P (.done (.ret .none)) {s with heap:=h'}):wpAny (model prog w) A (Builtin.«list.sort» ⟨[.ref a],[]⟩) P E s:=by
 refine FF (ps:=ps.map l2) ho ⟨by rw[aB];exact pa.len,⟨1,λp hp=>?_⟩,λi a p e1 e2=>?_⟩ nH kS λh' bs qs c k g hp hs=>?_
 ·obtain⟨q,_,rfl⟩:=aY.mp hp;rfl
 ·rw[bB]at e2
  obtain⟨q,hq,rfl⟩:=cW.mp e2;obtain⟨o,t,u,n,r1,r2,r3⟩:=pa.at' i a q e1 hq;exact⟨o,[.int q.1 t,.int q.2 u],n,r1,r2,r3,.cons ⟨t,rfl⟩ (.cons ⟨u,rfl⟩ .nil)⟩
 ·obtain⟨p,p1,p2,p3⟩:=hp
  have e:qs=(p.map λi=>ps.getD i (0,0)).map l2:=by
   rw[p3,bA];refine cP λi hi=>?_
   have:i<ps.length:=by rw[← pa.len];exact bR.mp (p1.mem_iff.mp hi)
   simp[this]
  subst e;exact fin h' bs _ c k g ⟨p,p1,p2,rfl⟩ ((cp.mp hs).imp λh=>by rw[← ltR_l2];exact h)
end
def P4{α:Type}:∀{as:iI} {ps:List α} {i:Nat} {a:qJ} {p:α},as.Nodup->as[i]?=some a->ps[i]?=some p->(as.zip ps).lookup a=some p
 |[],_,_,_,_,_,e,_=>by simp at e
 |_::_,[],_,_,_,_,_,e=>by simp at e
 |b::as,q::ps,0,a,p,nd,e1,e2=>by
  simp at e1 e2;subst e1 e2;simp[aH]
 |b::as,q::ps,i+1,a,p,nd,e1,e2=>by
  have e1:as[i]?=some a:=by simpa using e1
  have e2:ps[i]?=some p:=by simpa using e2
  have hb:(a == b)=false:=aU.mpr λz=>(cL.mp nd).1 (z ▸ bN e1)
  rw[List.zip_cons_cons,aH,hb];exact P4 (cL.mp nd).2 e1 e2
def XB{α:Type}:∀{as:iI} {ps:List α} {a:qJ} {p:α},(as.zip ps).lookup a=some p->∃i:Nat,as[i]?=some a/\ps[i]?=some p
 |[],_,_,_,e=>by simp at e
 |_::_,[],_,_,e=>by simp at e
 |b::as,q::ps,a,p,e=>by
  rw[List.zip_cons_cons,aH]at e;cases hb:(a == b) with
  |true=>rw[hb]at e;cases e;exact⟨0,by simp[eq_of_beq hb],rfl⟩
  |false=>
   rw[hb]at e;obtain⟨i,h1,h2⟩:=XB e;exact⟨i+1,by simpa using h1,by simpa using h2⟩
def OB{α γ:Type}{R:α->γ->Prop}:∀{xs:List α} {ys:List γ} {i:Nat} {x:α} {y:γ},Paired R xs ys->xs[i]?=some x->ys[i]?=some y->R x y
 |_,_,_,_,_,.nil,e,_=>by simp at e
 |_,_,0,_,_,.cons h _,e1,e2=>by simp at e1 e2;subst e1 e2;exact h
 |_,_,i+1,_,_,.cons _ r,e1,e2=>OB (i:=i) r (by simpa using e1) (by simpa using e2)
def Mu:∀bs:iI,Vals (bs.map V.ref) (bs.map Value.ref)
 |[]=>.nil
 |_::r=>.cons rfl (Mu r)
def prT(p:Int × Int):HO:=.tup [.int p.1,.int p.2]
def Xu(H:Hp)(as:iI)(ps:iG):Hp:=λb=>match (as.zip ps).lookup b with
 |some p=>some (prT p)
 |none=>H b
def J4(v d:qJ):HO:=.ext λh=>h.IsItemsView v d
section
variable{X:Cx}{E:XK}
def rItems:V->List V->Hp->VK->Prop:=λx vs H Q=>∃d kvs,x=.ref d/\vs=[]/\H d=some (.dK kvs)/\∀p,H p=none->Q (.ref p) (upd H p (J4 p d))
def Bj:MtM X "dict.items" rItems:=by
 intro gV s σ H x vs v us Q I rx rv h;obtain⟨d,kvs,rfl,rfl,hd,q⟩:=h;cases rx;cases rv;obtain⟨z,hS,ws,r,m⟩:=I.hok d _ hd;refine gG PySem.F.slot_dict_items m.typeIs PySem.F.entry_dict_items (PySem.F.args_dict_items_1 _) (meets_dict_items (ZZ X.prog X.w) d hS) ⟨⟨ws,m⟩,?_⟩;refine⟨.ref s.heap.objs.size,_,I.laid (o:=J4 s.heap.objs.size d) (t':=s.toks) (λb u e=>aL _ e) (aM _) ?_,rfl,q _ I.fresh⟩;exact⟨⟨_,aW _ rfl,rfl,rfl⟩,⟨_,aW _ rfl⟩,λh1 h2 ⟨o,e1,e2,e3⟩ k=>⟨o,k o e1,e2,e3⟩⟩
def rSortV:iQ->Hp->VK->Prop:=λxs H Q=>∃v d ps,xs=[.ref v]/\H v=some (J4 v d)/\H d=some (.dK (ps.map λ(p:Int × Int)=>((Sum.inl p.1:Key),V.int p.2)))/\ps.length<64 /\
 ∀(B:qJ) (as bs:iI) (qs:iG),as.Nodup->as.length=ps.length->(∀a∈as,H a=none)->H B=none->B ∉ as->(∃p:iL,p.Perm (List.range as.length)/\bs=p.map (λi=>as.getD i 0)/\qs=p.map (λi=>ps.getD i (0,0)))->qs.Pairwise (λx y=>ltP y x=false) ->
  Q (.ref B) (upd (Xu H as ps) B (.lst (bs.map V.ref)))
def Ho(hc:X.calm=true):CallR X (.builtin "sorted") rSortV:=by
 intro gV s σ H xs us Q I r h;obtain⟨v,d,ps,rfl,hv,hd,kS,q⟩:=h;obtain⟨u,rfl,ru⟩:=So r;cases (show u=Value.ref v from ru);obtain⟨mq,_,_⟩:=I.hok v _ hv;obtain⟨z,hS,ws,rk,m⟩:=I.hok d _ hd;obtain⟨o,es,ep,hm⟩:=m;have kg:ws.length=ps.length:=by have:=rk.length;rw[aB]at this;exact this.symm
 refine Calls.call_function_entry kind_sorted plain_sorted entry_sorted (args_sorted1 _) (show wpAny _ _ (Builtin.«sorted» _) _ _ _ from ?_);unfold Builtin.«sorted»;refine aA (m:=checkCount "sorted" 1 1 _) (aE (aA (kdx_collect (A:=X.A.in1) (knd:=ZZ X.prog X.w) (kvs:=ws) (ep:=ep) (I.ok.hd hc) mq ⟨o,es,hm⟩ (by rw[cG];omega) λh' tk as hk hl hG=>?_)));have nd:as.Nodup:=hG.rise.imp λh=>aX h
 have hal:as.length=ps.length:=by omega
 have pa:PrsAt h' as ps:=⟨hal,λi a p e1 e2=>by
  obtain⟨key,k,x,f1,f2,f3⟩:=hG.pairs i a e1;have e3:(ps.map λ(p:Int × Int)=>((Sum.inl p.1:Key),V.int p.2))[i]?=some ((Sum.inl p.1:Key),V.int p.2):=by rw[bB,e2];rfl
  obtain⟨g1,g2⟩:=OB rk e3 f1;have g1:(Sum.inl p.1:Key)=k:=g1;subst g1;obtain⟨u,g2⟩:=(show ∃u,x=Value.int p.2 u from g2);subst g2;obtain⟨t,g3⟩:=gf (k:=p.1) (v:=key) f2;subst g3;exact⟨_,t,u,_,f3,rfl,rfl⟩⟩
 have hB:∀a∈as,a<h'.objs.size:=λa ha=>hG.there ha
 refine aA (wpAny_newList ?_ (by rw[aB,cG];omega));generalize hH1:h'.push {cls:=.type "list",data:=.seq (as.map Value.ref).toArray}=h1;have k1:∀b o,h'.get? b=some o->h1.get? b=some o:=λb o e=>by rw[← hH1];exact aL _ e
 have lZ:h1.get? h'.objs.size=some (seqObj "list" (as.map Value.ref).toArray 0):=by rw[← hH1];exact aW _ rfl
 have hBn:h'.objs.size ∉ as:=λhm=>cV _ (hB _ hm)
 refine aA (cz (dR slot_list_sort ⟨_,lZ,rfl⟩ entry_list_sort (IA (s:={s with heap:=h1,toks:=tk}) lZ (pa.keep λa _ o e=>k1 a o e) hBn .(0) λh2 bs qs c k2 g2 hp hs=>⟨_,rfl,aE ⟨_,rfl,?_⟩⟩) (args_list_sort _)));have kp:∀b o,s.heap.get? b=some o->h2.get? b=some o:=λb o e=>k2 b o (aX (aP (hk b o e))) (k1 b o (hk b o e))
 have fa:∀a∈as,s.heap.get? a=none:=λa ha=>Heap.get?_none_of_le (eM (hG.above a ha))
 have fH:∀a∈as,H a=none:=λa ha=>I.hok.fresh (eM (hG.above a ha))
 have fB:H h'.objs.size=none:=by
  cases hh:H h'.objs.size with
  |none=>rfl
  |some ob=>
   obtain⟨x,ex⟩:=(I.hok _ _ hh).ex;exact absurd (aP (hk _ _ ex)) (cV _)
 have inA:∀{b:qJ} {p:Int × Int},(as.zip ps).lookup b=some p->b∈as:=λ{b p} e=>let ⟨i,h1,_⟩:=XB e;bN h1
 have old:∀b o,H b=some o->upd (Xu H as ps) h'.objs.size (.lst (bs.map V.ref)) b=some o:=λb o e=>by
  rw[Zy (Z5 e fB)];unfold Xu
  match hx:(as.zip ps).lookup b with
  |some p=>rw[fH b (inA hx)]at e;cases e
  |none=>exact e
 have notOld:∀b o,s.heap.get? b=some o->H b=none->upd (Xu H as ps) h'.objs.size (.lst (bs.map V.ref)) b=none:=λb o e n=>by
  rw[Zy (aX (aP (hk b o e)))];unfold Xu
  match hx:(as.zip ps).lookup b with
  |some p=>rw[fa b (inA hx)]at e;cases e
  |none=>exact n
 refine⟨.ref h'.objs.size,_,I.un (t':=tk) (H':=upd (Xu H as ps) h'.objs.size (.lst (bs.map V.ref))) ⟨λb o e n _ _=>kp b o e,λb o e n _ _=>⟨o.slots,kp b o e⟩,λb o e n _=>notOld b o e n,λb o e _=>⟨o,kp b o e⟩,λb xs e=>old b _ e,λb o u e=>old b _ e,λb xs e=>⟨#[],by rw[Array.append_empty];exact old b _ e⟩⟩ (λb o e=>?_),rfl,q _ as bs qs nd hal fH fB hBn hp hs⟩;by_cases hb:b=h'.objs.size
 ·subst hb
  rw[ZF]at e;cases e;obtain⟨p,mr,kJ,lM⟩:=hp;refine⟨?_,bs.map Value.ref,c,?_,g2⟩
  ·rw[aB,kJ,aB,mr.length_eq,cB,cG];omega
  ·exact Mu bs
 ·rw[Zy hb]at e
  unfold Xu at e
  match hx:(as.zip ps).lookup b,e with
  |some p,e=>
   have e:some (prT p)=some o:=e;cases e;obtain⟨i,jV,jB⟩:=XB hx;obtain⟨o',t,u,n',ho,mz,pE⟩:=pa.at' i b p jV jB;exact⟨by show 2<=sizeLine;decide,[.int p.1 t,.int p.2 u],.cons ⟨t,rfl⟩ (.cons ⟨u,rfl⟩ .nil),⟨o',k2 b _ hb (k1 b _ ho),mz,n',pE⟩⟩
  |none,e=>
   exact(I.hok b o e).stay (λc w' _ q'=>kp c w' q') (λc q'=>old c _ q') λc xs q'=>old c _ q'
def FV(p:Int × Int):iG->List (Int × Int)
 |[]=>[p]
 |q::r=>if ltP q p=true then q::FV p r else p::q::r
def Y7:iG->List (Int × Int)
 |[]=>[]
 |p::r=>FV p (Y7 r)
def Qv(p:Int × Int):∀l,(FV p l).Perm (p::l)
 |[]=>dJ _
 |q::r=>by
  unfold FV;split
  ·exact(Qv p r).cons q<|List.Perm.swap p q r
  ·exact dJ _
def YN:∀l,(Y7 l).Perm l
 |[]=>dJ _
 |p::r=>Qv p (Y7 r)<|(YN r).cons p
abbrev DR(l:iG):Prop:=l.Pairwise λx y=>ltP y x=false
def Jj(p:Int × Int):∀l,DR l->DR (FV p l)
 |[],_=>fY _ _
 |q::r,h=>by
  have h':=bU.mp h;unfold FV;by_cases hc:ltP q p=true
  ·rw[aC hc]
   refine bU.mpr ⟨λy hy=>?_,Jj p r h'.2⟩;rcases aN.mp ((Qv p r).mem_iff.mp hy) with rfl|hy
   ·cases z:ltP y q with
    |false=>rfl
    |true=>have a:=V1.mp hc;have b:=V1.mp z;omega
   ·exact h'.1 y hy
  ·rw[aD hc]
   refine bU.mpr ⟨λy hy=>?_,h⟩;have ly:ltP q p=false:=by simpa using hc
   rcases aN.mp hy with rfl|hy
   ·exact ly
   ·cases z:ltP y p with
    |false=>rfl
    |true=>
     have e:=h'.1 y hy;have a:=V1.mp z;have b:¬ _:=λw'=>hc (V1.mpr w')
     have c:¬ _:=λw'=>absurd (V1.mpr w') (by rw[e];exact aF)
     omega
def UF:∀l,DR (Y7 l)
 |[]=>List.Pairwise.nil
 |p::r=>Jj p _ (UF r)
def Qh:∀{l m:iG},l.Perm m->DR l->DR m->l=m
 |[],m,h,_,_=>(List.nil_perm.mp h).symm
 |x::l,[],h,_,_=>absurd h .(2)
 |x::l,y::m,h,h1,h2=>by
  have jV:=bU.mp h1;have jB:=bU.mp h2
  have e:x=y:=by
   have hx:=h.mem_iff.mp (da (a:=x) (l:=l));have hy:=h.mem_iff.mpr (da (a:=y) (l:=m));rcases aN.mp hx with hx|hx
   ·exact hx
   ·rcases aN.mp hy with hy|hy
    ·exact hy.symm
    ·have a:=jV.1 y hy
     have b:=jB.1 x hx;have a':¬ _:=λw'=>absurd (V1.mpr w') (by rw[a];exact aF)
     have b':¬ _:=λw'=>absurd (V1.mpr w') (by rw[b];exact aF)
     exact Prod.ext .(0) .(0)
  subst e;rw[Qh h.cons_inv jV.2 jB.2]
def Q3:iU->Option (iG)
 |[]=>some []
 |(.inl k,.int v)::r=>match Q3 r with
  |some ps=>some ((k,v)::ps)
  |none=>none
 |_=>none
def prW(p:Int × Int):Wv:=.tup [.int p.1,.int p.2]
def Po(d:Wv):Mw (iR):=λom=>match d with
 |.o h=>match om[h]? with
  |some (.dk kvs)=>match Q3 kvs with
   |some ps=>if ps.length<64 then ((Y7 ps).map prW)\om else none
   |none=>none
  |_=>none
 |_=>none
def Mf{F:Hp}{β:iI}:∀{kvs:iU} {qs:List (Key × V)} {ps:iG},RK F β kvs qs->Q3 kvs=some ps->qs=ps.map λ(p:Int × Int)=>((Sum.inl p.1:Key),V.int p.2)
 |_,_,_,.nil,e=>by cases e;rfl
 |(.inr _,_)::_,_,_,.cons _ _,e=>by cases e
 |(.inl k,w)::r,_,_,.cons h rr,e=>by
  cases h with
  |int v=>
   have e:(match Q3 r with|some ps=>some ((k,v)::ps)|none=>none)=some _:=e
   match hr:Q3 r,e with
   |some ps,e=>
    have e:some ((k,v)::ps)=some _:=e;cases e;rw[aS,← Mf rr hr]
   |none,e=>exact nomatch e
  |_=>exact nomatch e
def MOk.newP{F H:Hp}{β:iI}{om:iV}{as:iI}{ps:iG}(M:MOk F H β om)(hf:∀a∈as,H a=none):Gx F (Xu F as ps) H (Xu H as ps) β β/\MOk (Xu F as ps) (Xu H as ps) β om:=by
 have inA:∀{b:qJ} {p:Int × Int},(as.zip ps).lookup b=some p->b∈as:=λ{b p} e=>let ⟨i,h1,_⟩:=XB e;bN h1
 have oldH:∀b o,H b=some o->Xu H as ps b=some o:=λb o e=>by
  unfold Xu
  match hx:(as.zip ps).lookup b with
  |some p=>rw[hf b (inA hx)]at e;cases e
  |none=>exact e
 have oldF:∀b o,F b=some o->Xu F as ps b=some o:=λb o e=>by
  unfold Xu
  match hx:(as.zip ps).lookup b with
  |some p=>have:=M.sub b o e;rw[hf b (inA hx)]at this;cases this
  |none=>exact e
 have out:∀b,b ∉ as->Xu F as ps b=F b/\Xu H as ps b=H b:=λb hb=>by
  unfold Xu
  match hx:(as.zip ps).lookup b with
  |some p=>exact absurd (inA hx) hb
  |none=>exact⟨rfl,rfl⟩
 have nb:∀(h:Nat) (a:qJ),β[h]?=some a->a ∉ as:=λh a e ha=>by
  obtain⟨x,hx⟩:=M.there e;rw[hf a ha]at hx;cases hx
 have g:Gr F (Xu F as ps) β β:=⟨oldF,λ_ _ e=>e⟩;refine⟨⟨g,λb o e _=>oldH b o e,λb e=>?_,λb hb=>.inl hb,λb o e=>?_,λb o u e=>oldH b _ e⟩,⟨λb o e=>?_,M.nd,M.len,λh a e=>by rw[(out a (nb h a e)).1];exact M.free h a e,λh a x e1 e2=>(M.ob h a x e1 e2).mono g (out a (nb h a e1)).2⟩⟩
 ·cases hh:H b with
  |none=>rfl
  |some o=>rw[oldH b o hh]at e;cases e
 ·by_cases hb:b∈as
  ·exact .inr (hf b hb)
  ·rw[(out b hb).1]at e;exact .inl e
 ·unfold Xu at e ⊢
  match hx:(as.zip ps).lookup b,e with
  |some p,e=>exact e
  |none,e=>exact M.sub b o e
def RO(k:iR->Mw Wv)(f:FE):FE:=λsl=>bnd (f sl) λd=>bnd (Po d) k
variable{o:qS}{f:FE}{k:iR->Mw Wv}{p pos iY i0:Pos}
def N3(hk:VR E k)(hc:X.calm=true)(hg:Gl X "sorted")(hm:X.mg "sorted"=none)(ho:PE X o (tE E f))(jp:attributeBase o "items" X.env (eval o X.env)=eval o X.env:=by rfl)(jq:(iY.endLine == i0.line)=true:=by rfl)(h0:starEach [.Call (.Attribute o "items" iY) [] [] i0] X.env=(false,eval (.Call (.Attribute o "items" iY) [] [] i0) X.env)::starEach [] X.env:=by rfl) (jb:rF pos X:=by rfl):PE X (.Call (.Name "sorted" p) [.Call (.Attribute o "items" iY) [] [] i0] [] pos) (tE E (RO k f)):=
 (RF (Ho hc) hg hm eB (X1 (pe_bm0 fX PySem.F.slot_dict_items PySem.F.type_dict_items Bj ho jp jq) Vq h0) .(1) .(1) h0 jb).weak λσ H Q ⟨F,β,om,sl,M,V,R⟩=>by
 refine⟨F,β,om,sl,M,V,R.bind λx qH F1 H1 ix g1 M1 R1 v rv=>?_⟩;cases rv with
 |@o h a eb=>
  unfold bnd Po at R1;dsimp only at R1
  match hx:qH[h]?,R1 with
  |none,R1=>exact R1.elim
  |some (.ins _ _),R1=>exact R1.elim
  |some (.exc _),R1=>exact R1.elim
  |some (.dz _),R1=>exact R1.elim
  |some (.lst _),R1=>exact R1.elim
  |some (.dt _),R1=>exact R1.elim
  |some (.dk kvs),R1=>
   obtain⟨a',ea,_,ks,jI,rs⟩:=M1.at hx;rw[eb]at ea;cases ea;dsimp only at R1
   match hp:Q3 kvs,R1 with
   |none,R1=>exact R1.elim
   |some ps,R1=>
    dsimp only at R1;by_cases hl:ps.length<64
    ·have R2:Res E (k ((Y7 ps).map prW) qH) F1 H1 ix (PV Q):=by
      have:=R1;rw[aC hl]at this;exact this
     have eks:=Mf rs hp;refine⟨.inr (.inr (.inl ⟨rfl,.inl ⟨ks,jI⟩⟩)),a,ks,rfl,rfl,jI,λv hv=>?_⟩;have MU:=M1.newU (o:=J4 v a) hv;have gU:=M1.gxU (o:=J4 v a) hv;refine⟨v,a,ps,rfl,ZF,by rw[Zy (Z5 jI hv),jI,eks],hl,λB as bs qs nd hal hf hB hBa ⟨p,mr,kJ,lM⟩ hs=>?_⟩;obtain⟨g3,M3⟩:=MU.newP (ps:=ps) hf
     have eqs:qs=Y7 ps:=by
      refine Qh ?_ hs (UF ps);refine List.Perm.trans ?_ (YN ps).symm;rw[lM];refine(mr.map _).trans ?_;rw[hal]
      have:(List.range ps.length).map (λi=>ps.getD i (0,0))=ps:=de λi=>by
       by_cases hi:i<ps.length
       ·simp[hi]
       ·simp[hi]
      rw[this]
     have rws:RWs (Xu F1 as ps) ix ((Y7 ps).map prW) (bs.map L2.V.ref):=by
      rw[← eqs,lM,kJ];have hall:∀i∈p,i<as.length:=λi hi=>by have:=mr.mem_iff.mp hi;simpa using this
      clear mr kJ lM eqs hs
      induction p with
      |nil=>exact .nil
      |cons i p ih=>
       have hi:=hall i (.head _);refine .cons ?_ (ih λj hj=>hall j (.tail _ hj));have e1:as.getD i 0=as[i]:=by simp[hi]
       have e2:ps.getD i (0,0)=ps[i]'.(0):=by simp[show i<ps.length by omega]
       show RW (Xu F1 as ps) ix (prW (ps.getD i (0,0))) (L2.V.ref (as.getD i 0));rw[e1,e2];refine .tup ?_ (.cons (.int _) (.cons (.int _) .nil));unfold Xu;rw[P4 nd (aK hi) (aK .(0))];rfl
     exact(hk M3 rws (Res.mono (gU<|g3) R2)).2 (by
      unfold Xu
      match hx2:(as.zip ps).lookup B with
      |some p=>exact absurd (let ⟨i,h1,_⟩:=XB hx2;bN h1) hBa
      |none=>exact hB)
    ·rw[aD hl]at R1;exact R1.elim
 |_=>exact R1.elim
end
end
end L2
namespace L2
noncomputable section
open PySem
def SJ{c:FT}{f:FE}{mk:Wv->Sl}{om:iV}(p:Wv->Bool)(g:Wv->Wv):∀{l:iR},(∀w∈l,c (mk w) om=(p w)\om)->(∀w∈l,p w=true->f (mk w) om=(g w)\om)->Xk c f mk l om=((l.filter p).map g)\om
 |[],_,_=>rfl
 |w::r,hc,hf=>by
  have ih:=SJ p g (l:=r) (λx hx=>hc x (.tail _ hx)) (λx hx=>hf x (.tail _ hx));have h1:=hc w (.head _);show bnd (Z0 (c (mk w))) (MB (Xk c f mk r) (f (mk w))) om=_;cases hp:p w with
  |false=>simp[bnd,Z0,h1,hp,MB,ih,cN]
  |true=>
   have h2:=hf w (.head _) hp;simp[bnd,Z0,h1,hp,MB,ih,h2,cN,ret]
def Jg(p:Wv->Bool)(n:Nat):(Vj n).filter p=((List.range n).filter λk=>p (.int (k:Nat))).map λ(k:Nat)=>Wv.int k:=by
 unfold Vj;rw[List.filter_map];rfl
def KO{n:Nat}{w:Wv}(h:w∈Vj n):∃k,k<n/\w=.int (k:Nat):=by
 obtain⟨k,hk,e⟩:=aY.mp h;exact⟨k,bR.mp hk,e.symm⟩
def WQ(n:Nat):(Vj n).length=n:=by simp[Vj]
def ZE(us:iG):iU:=us.map λp=>(.inl p.1,.int p.2)
def Sg(us:iG)(k:Int):UD (ZE us) (.inl k)=(us.lookup k).map Wv.int:=by
 induction us with
 |nil=>rfl
 |cons p us ih=>
  unfold UD ZE at ih ⊢;rw[aS,cH,aH];by_cases h:p.1=k
  ·simp[h]
  ·have h':(k == p.1)=false:=aU.mpr (cI h)
   have h2:¬ (Sum.inl p.1:Key)=Sum.inl k:=λz=>h (gz z)
   simp only[h2,decide_false,h'];exact ih
def HE{us:iG}{k:Int}(s:Int)(h:us.lookup k=none):Vf (ZE us) (.inl k) (.int s)=ZE (us++[(k,s)]):=by
 have:((ZE us).any λkv=>decide (kv.1=(Sum.inl k:Key)))=false:=by
  have hv:=Sg us k;rw[h]at hv;unfold UD at hv;cases hf:(ZE us).find? λkv=>decide (kv.1=(Sum.inl k:Key)) with
  |some x=>rw[hf]at hv;cases hv
  |none=>
   rw[fO];intro x hx;exact fF.mp hf x hx
 unfold Vf;rw[this,aD aF];simp[ZE]
def O0:∀us:iG,Q3 (ZE us)=some us
 |[]=>rfl
 |p::us=>by
  show(match Q3 (ZE us) with|some ps=>some ((p.1,p.2)::ps)|none=>none)=_;rw[O0 us]
def NE(us:iG):(ZE us).length=us.length:=by simp[ZE]
def ZK:Option Int->Wv
 |none=>.non
 |some s=>.int s
def QZ:∀{l m:iG},l.Pairwise (λx y=>x.1<y.1)->m.Pairwise (λx y=>x.1<y.1)->(∀p,p∈l ↔ p∈m)->l=m
 |[],[],_,_,_=>rfl
 |[],y::m,_,_,h=>absurd ((h y).mpr (.head _)) .(2)
 |x::l,[],_,_,h=>absurd ((h x).mp (.head _)) .(2)
 |x::l,y::m,h1,h2,h=>by
  have jV:=bU.mp h1;have jB:=bU.mp h2
  have e:x=y:=by
   rcases aN.mp ((h x).mp (.head _)) with hx|hx
   ·exact hx
   ·rcases aN.mp ((h y).mpr (.head _)) with hy|hy
    ·exact hy.symm
    ·have a:=jV.1 y hy
     have b:=jB.1 x hx;omega
  subst e
  congr 1
  refine QZ jV.2 jB.2 λp=>⟨λhp=>?_,λhp=>?_⟩
  ·rcases aN.mp ((h p).mp (.tail _ hp)) with rfl|hq
   ·have:=jV.1 p hp;omega
   ·exact hq
  ·rcases aN.mp ((h p).mpr (.tail _ hp)) with rfl|hq
   ·have:=jB.1 p hp;omega
   ·exact hq
def WJ{a b:String}:(Str.ofString a=Str.ofString b)=(a=b):=by
 refine propext ⟨λh=>?_,λh=>by rw[h]⟩;rw[Str.ofString_eq_toList,Str.ofString_eq_toList]at h;injection h with h
 have h:=cE Array.toList h;simp only at h
 have inj:∀{l m:List Char},l.map Char.toNat=m.map Char.toNat->l=m:=by
  intro l
  induction l with
  |nil=>intro m e;cases m with|nil=>rfl|cons _ _=>simp at e
  |cons x l ih=>
   intro m e;cases m with
   |nil=>simp at e
   |cons y m=>
    simp only[aS,ij]at e;rw[ih e.2,Char.ext (UInt32.toNat_inj.mp e.1)]
 exact String.toList_inj.mp (inj h)
def YQ{a b:String}:(Str.ofString a == Str.ofString b)=decide (a=b):=by
 rw[dU,cX,bY,WJ]
def Wc(n:Nat)(om:iV)(h:n<=lim):YF (.int n) om=(Vj n)\om:=by
 have hl:n<=100000:=ZT ▸ h
 have hd:decide (-(2 ^ 62)<=(n:Int)/\(n:Int)<2 ^ 62)=true:=by
  rw[bY];exact⟨.(0),.(0)⟩
 simp only[YF,hd];rw[cu];rfl
def Tw(a b:Int)(om:iV):Wk true (.int a) (.int b) om=(.bl (!decide (a=b)))\om:=by
 simp[Wk,Xz,XJ,VI,PyData.canLay0,PyData.depth,PyData.eqv];rfl
def XM(a b:Int)(om:iV):Wk false (.int a) (.int b) om=(.bl (decide (a=b)))\om:=by
 simp[Wk,Xz,XJ,VI,PyData.canLay0,PyData.depth,PyData.eqv];rfl
def Zh{S1 S2:FS}{sl sl1:Sl}{om qH:iV}(h:S1 sl om=(.nx,sl1)\qH):Zx S1 S2 sl om=S2 sl1 qH:=by
 simp[Zx,bnd,h,Fm]
def Ys{S1 S2:FS}{sl sl1:Sl}{om qH:iV}{w:Wv}(h:S1 sl om=(.rt w,sl1)\qH):Zx S1 S2 sl om=(.rt w,sl1)\qH:=by
 simp[Zx,bnd,h,Fm,ret]
def UN{S1 S2:FS}{sl:Sl}{om qH:iV}{C:qJ}(h:S1 sl om=C∩qH):Zx S1 S2 sl om=C∩qH:=by
 simp[Zx,bnd,h]
def ZD{N:Nat}{S:FS}{ws:iR}{sl1:Sl}{om qH:iV}{w:Wv}(h:S (W6 N ws) om=(.rt w,sl1)\qH):Yc N S ws om=w\qH:=by
 simp[Yc,bnd,h,Hv,ret]
def Wi{N:Nat}{S:FS}{ws:iR}{sl1:Sl}{om qH:iV}(h:S (W6 N ws) om=(.nx,sl1)\qH):Yc N S ws om=.non\qH:=by
 simp[Yc,bnd,h,Hv,ret]
def W5{N:Nat}{S:FS}{ws:iR}{om qH:iV}{C:qJ}(h:S (W6 N ws) om=C∩qH):Yc N S ws om=C∩qH:=by
 simp[Yc,bnd,h]
def YY{fi:FI}{T:TgW}{S:FS}{sl sl1:Sl}{om qH om2:iV}{ws:iR}{r:Fl × Sl}(h:fi sl om=ws\qH)(hf:WS T S ws sl qH=r\om2):Wf fi T S sl om=r\om2:=by
 simp[Wf,bnd,h,hf]
def XH{k:iR->Mw Wv}{js:iL}{fi:FI}{c:FT}{f:FE}{sl:Sl}{om qH om2:iV}{ws us:iR}(h:fi sl om=ws\qH)(hl:ws.length<=lim)(hc:Xk c f (λw=>XN js w sl) ws qH=us\om2):Yk k js fi c f sl om=k us om2:=by
 simp[Yk,bnd,h,chk,hl,hc,ret]
def Zt{i:Nat}{f:FE}{sl:Sl}{om qH:iV}{w:Wv}(h:f sl om=w\qH):ZC i f sl om=(.nx,sl.set i (some w))\qH:=by
 simp[ZC,bnd,h,ret]
end
open PySem
def Zm{α β:Type}{m:Mw α}{k:α->Mw β}{om qH:iV}{a:α}(h:m om=a\qH):bnd m k om=k a qH:=by
 simp[bnd,h]
def Wl{α β:Type}{m:Mw α}{k:α->Mw β}{om qH:iV}{C:qJ}(h:m om=C∩qH):bnd m k om=C∩qH:=by
 simp[bnd,h]
section
variable{sl sl1:Sl}{om qH om2:iV}{f fa fb fo:FE}{c c1 c2:FT}{S S1 S2:FS}{fs:FA}{w x y:Wv}{ws:iR}{b:Bool}{i j n:Nat}
def Z9(h:c sl om=true\qH):sIf c S1 S2 sl om=S1 sl qH:=by simp[sIf,bnd,h]
def VT(h:c sl om=false\qH):sIf c S1 S2 sl om=S2 sl qH:=by simp[sIf,bnd,h]
def ZM(h:c sl om=false\qH):sIf c S1 Yr sl om=(.nx,sl)\qH:=VT h<|rfl
def Zb(h:sl[i]?=↑w):Za i sl om=w\om:=by simp[Za,h,ret]
def Zp:fC w sl om=w\om:=rfl
def Zj:Zi sl om=[]\om:=rfl
def Ze(h:f sl om=w\qH)(hr:fs sl qH=ws\om2):Zc f fs sl om=(w::ws)\om2:=by simp[Zc,bnd,h,hr,ret]
def ZB{k:iR->Mw Wv}(h:fs sl om=ws\qH):fA k fs sl om=k ws qH:=by simp[fA,bnd,h]
def XU{k:Wv->Mw Wv}(h:f sl om=w\qH):f1 k f sl om=k w qH:=by simp[f1,bnd,h]
def Zr{k:Wv->Wv->Mw Wv}(h:fa sl om=x\qH)(h2:fb sl qH=y\om2):f2 k fa fb sl om=k x y om2:=by simp[f2,bnd,h,h2]
def Yz{g:iR->Mw Wv}(h:ws.length=n):kN n g ws om=g ws om:=by subst h;simp[kN,chk,bnd,ret]
def ZQ(h:f sl om=(.bl b)\qH):fB f sl om=b\qH:=by simp[fB,bnd,h,kB,ret]
def Y3(h:f sl om=(.bl b)\qH):Xm f sl om=b\qH:=by simp[Xm,bnd,h,kTru,HY]
def LZ(h:c sl om=b\qH):JA c sl om=(!b)\qH:=by simp[JA,bnd,h,ret]
def fAnd_t(h:c1 sl om=true\qH):VS c1 c2 sl om=c2 sl qH:=by simp[VS,bnd,h]
def fAnd_f(h:c1 sl om=false\qH):VS c1 c2 sl om=false\qH:=by simp[VS,bnd,h,ret]
def fOr_t(h:c1 sl om=true\qH):fOr c1 c2 sl om=true\qH:=by simp[fOr,bnd,h,ret]
def GA(h:c1 sl om=false\qH):fOr c1 c2 sl om=c2 sl qH:=by simp[fOr,bnd,h]
def Lq(h:fa sl om=(.bl true)\qH):UE fa fb sl om=fb sl qH:=by simp[UE,bnd,h,kB,ret]
def Zw(h:f sl om=w\qH):Ye f sl om=(.rt w,sl)\qH:=by simp[Ye,bnd,h,ret]
def ZW(h:f sl om=w\qH):ZR f sl om=(.nx,sl)\qH:=by simp[ZR,bnd,h,ret]
def Zv{C:qJ}{m:Str}{g:iR->Mw Wv}{k:iS}(h:fo sl om=w\qH)(hi:SC qH w=some (C,k))(hk:k.lookup m=none)(hs:fs sl qH=ws\om2)(hn:ws.length+1=n):Zn C m n g fo fs sl om=g (w::ws) om2:=by
 subst hn;simp[Zn,bnd,h,BB,hi,hk,hs,kN,chk,ret]
end
def AM{K:iC}(h:notL K=true){a:qJ}{o:Obj}(e:K.lookup a=some o):o.cls≠.type "list":=by
 intro z
 have hm:∃b,(b,o)∈K:=by
  clear h z
  induction K with
  |nil=>cases e
  |cons p K ih=>
   rw[aH]at e;split at e
   ·cases e;exact⟨p.1,.head _⟩
   ·obtain⟨b,hb⟩:=ih e;exact⟨b,.tail _ hb⟩
 obtain⟨b,hb⟩:=hm;have:=cS.mp h _ hb;rw[show tyL ((b,o):qJ × Obj).2.cls=true by show tyL o.cls=true;rw[z];rfl]at this;cases this
def spLaw(K:iC):Sp:=λvs H Q _=>∃(a:qJ) (ns:iK),vs=[.ref a]/\SqL K H a (ns.map V.int)/\ns.length<=63/\∀H',Q (.bl true) H'
def Jm(F:Hp)(β:iI):∀ns:iK,RWs F β (ns.map Wv.int) (ns.map V.int)
 |[]=>.nil
 |i::ns=>.cons (.int i) (Jm F β ns)
def As{P:qM}{w:qN}{K:iC}{mg:iB}{base:qQ}{CX:CXT}{k:Nat}{f:qJ}{fd:qP}{ps:iM}{g:iR->Mw Wv}(hK:notL K=true)(G:FnOk P w K mg base CX k f fd ps (spM 1 g))(h:∀ns:iK,∃om,g [.lst (ns.map .int)] []=(.bl true)\om):FnOk P w K mg base CX k f fd ps (spLaw K):=G.imp λvs H Q E ⟨a,ns,e,S,_,q⟩=>by
 subst e;have r:Rd H a (.lst (ns.map V.int)):=S.resolve_right λ⟨o,iy,n,e,hc,_⟩=>AM hK e hc
 obtain⟨om,e⟩:=h ns;refine⟨λb=>if b=a then H b else none,[],[],[.lst (ns.map .int)],⟨λb u z=>?_,.nil,rfl,λh a z=>(by cases z),λh a x z _=>(by cases z)⟩,.cons (.lst ?_ (Jm _ _ ns)) .nil,rfl,?_⟩
 ·by_cases hb:b=a
  ·exact(aC hb).symm.trans z
  ·have:=(aD hb).symm.trans z;cases this
 ·rcases r with r|⟨o,r⟩
  ·exact .inl (aC rfl<|r)
  ·exact .inr ⟨o,aC rfl<|r⟩
 ·rw[e]
  exact λF' H' iX _ _ v rv=>by cases rv;exact q H'
def TC{f:qI->Option Bool}{Ds:iJ}{l:iO}(q:Ds.map f=l.map some){D:qI}(h:D∈Ds):f D=some ((f D).getD false):=by
 have:f D∈l.map some:=by rw[← q];exact List.mem_map_of_mem h
 obtain⟨b,_,e⟩:=aY.mp this;rw[← e];rfl
def HV{f:qI->Option Bool}{Ds:iJ}{l:iO}(q:Ds.map f=l.map some):Ds.map (λD=>(f D).getD false)=l:=by
 have:=cE (List.map (λo:Option Bool=>o.getD false)) q;rw[bA,bA]at this;refine Eq.trans this ?_
 induction l with
 |nil=>rfl
 |cons b l ih=>exact List.map_id _
end L2
namespace L2
noncomputable section
open PySem
def fzW(om:iV)(n:Nat):Nat->Wv->Wv
 |0,w=>w
 |k+1,.o h=>if n<=h then (match om[h]? with|some (.lst xs)=>.lst (xs.map (fzW om n k))|_=>.o h) else .o h
 |k+1,.lst xs=>.lst (xs.map (fzW om n k))
 |k+1,.tup xs=>.tup (xs.map (fzW om n k))
 |_+1,w=>w
open Classical in def tidyR (om:iV):Option (Except qJ Wv × iV)->Option (Except qJ Wv × iV)
 |none=>none
 |w\iu=>if iu.take om.length=om/\FzW iu om.length w (fzW iu om.length 4 w) then (fzW iu om.length 4 w)\om else none
 |C∩iu=>if iu.take om.length=om then (C∩om) else none
def tidyG(g:iR->Mw Wv):iR->Mw Wv:=λws om=>tidyR om (g ws om)
open Classical in theorem tidyR_tidy {om:iV} (hs:∀x∈om,T9 om.length x) {r:Option (Except qJ Wv × iV)} (h:tidyR om r≠none):Tidy om r (tidyR om r):=by
 match r,h with
 |none,h=>exact absurd rfl h
 |w\iu,h=>
  have h:¬ ((if iu.take om.length=om/\FzW iu om.length w (fzW iu om.length 4 w) then some (Except.ok (fzW iu om.length 4 w),om) else none)=(none:Option (Except qJ Wv × iV))):=h;by_cases c:iu.take om.length=om/\FzW iu om.length w (fzW iu om.length 4 w)
  ·have e:iu=om++iu.drop om.length:=by
    conv=>lhs;rw[← List.take_append_drop om.length iu,c.1]
   show Tidy om (w\iu) (if iu.take om.length=om/\FzW iu om.length w (fzW iu om.length 4 w) then some (Except.ok (fzW iu om.length 4 w),om) else none);rw[aC c];have f:=c.2;generalize fzW iu om.length 4 w=w' at f;rw[e]at f ⊢;exact .ok rfl hs f
  ·rw[aD c]at h;exact absurd rfl h
 |C∩iu,h=>
  have h:¬ ((if iu.take om.length=om then some (Except.error C,om) else none)=(none:Option (Except qJ Wv × iV))):=h;by_cases c:iu.take om.length=om
  ·have e:iu=om++iu.drop om.length:=by
    conv=>lhs;rw[← List.take_append_drop om.length iu,c]
   show Tidy om (C∩iu) (if iu.take om.length=om then some (Except.error C,om) else none);rw[aC c];rw[e];exact .err rfl hs
  ·rw[aD c]at h;exact absurd rfl h
def FnOk.tidyG{P:qM}{w:qN}{K:iC}{mg:iB}{base:qQ}{k n:Nat}{f:qJ}{fd:qP}{ps:iM}{CX:CXT}{g:iR->Mw Wv}(F:FnOk P w K mg base CX k f fd ps (spM n g)):FnOk P w K mg base CX k f fd ps (spM n (L2.tidyG g)):=
 FnOk.tidy F λws om _ hs h=>tidyR_tidy hs h
open Classical in theorem tidyG_ok {g:iR->Mw Wv} {ws:iR} {om l:iV} {w w':Wv} (h:g ws om=w\(om++l)) (f:FzW (om++l) om.length w w') (e:fzW (om++l) om.length 4 w=w'):tidyG g ws om=w'\om:=by
 unfold tidyG;rw[h];show(if (om++l).take om.length=om/\FzW (om++l) om.length w (fzW (om++l) om.length 4 w) then some (Except.ok (fzW (om++l) om.length 4 w),om) else none)=_;rw[e,aC ⟨List.take_left,f⟩]
open Classical in theorem tidyG_er {g:iR->Mw Wv} {ws:iR} {om l:iV} {C:qJ} (h:g ws om=C∩(om++l)):tidyG g ws om=C∩om:=by
 unfold tidyG;rw[h];show(if (om++l).take om.length=om then some (Except.error C,om) else none)=_;rw[aC List.take_left]
end
open PySem
def ZP{om:iV}{w v:Wv}{xs:iR}{k:Nat}(h:Y4 om w=some xs)(e:xs[k]?=some v):kIx w (.int k) om=v\om:=by
 simp[kIx,h,Ae e]
def TD{om:iV}{w:Wv}{xs:iR}(h:Y4 om w=some xs):Ws [w] om=(.int xs.length)\om:=by
 simp[Ws,h]
def M0{om:iV}{w:Wv}{xs:iR}{sl:Sl}{i:Nat}(hv:sl[i]?=↑w)(h:Y4 om w=some xs)(hl:xs.length<=lim):(λsl=>bnd ((fA Ws (Zc (Za i) Zi)) sl) YF) sl om=(Vj xs.length)\om:=
 (Zm (ZB (Ze (Zb hv) Zj)<|TD h)).trans (Wc _ _ hl)
def Ao{α:Type}{f:α->Wv}{xs:List α}{k:Nat}(h:k<xs.length)(d:α):(xs.map f)[k]?=some (f (xs.getD k d)):=by
 simp[h,aT]
def Q4{α:Type}{f:α->Wv}{xs:List α}{om:iV}{w:Wv}{k:Nat}(h:Y4 om w=some (xs.map f))(hk:k<xs.length)(d:α):kIx w (.int k) om=(f (xs.getD k d))\om:=
 ZP h (Ao hk d)
def O5(a b:String)(ha:PyData.strOk (Str.ofString a)=true)(hb:PyData.strOk (Str.ofString b)=true)(om:iV):Wk false (.str a) (.str b) om=(.bl (decide (a=b)))\om:=by
 simp[Wk,Xz,XJ,VI,PyData.canLay0,PyData.depth,PyData.eqv,YQ,WJ,ha,hb]
def ne_str(a b:String)(ha:PyData.strOk (Str.ofString a)=true)(hb:PyData.strOk (Str.ofString b)=true)(om:iV):Wk true (.str a) (.str b) om=(.bl (!decide (a=b)))\om:=by
 simp[Wk,Xz,XJ,VI,PyData.canLay0,PyData.depth,PyData.eqv,YQ,WJ,ha,hb]
def Kl(a b:Option Int)(om:iV):Wk true (ZK a) (ZK b) om=(.bl (!decide (a=b)))\om:=by
 cases a <;> cases b <;> simp[ZK,Wk,Xz,XJ,VI,PyData.canLay0,PyData.depth,PyData.eqv] <;> rfl
def Mn{T:TgW}{S:FS}(J:Nat->Sl->List Ob->Prop):∀(n s:Nat) {sl:Sl} {om:iV},(∀m,s<=m->m<s+n->∀sl om,J m sl om->∃sl1 fl jd om2,T (.int (m:Nat)) sl=some sl1/\S sl1 om=(fl,jd)\om2/\(fl=.nx\/fl=.ct)/\J (m+1) jd om2)->J s sl om->∃jc iu,WS T S ((List.range' s n).map λ(i:Nat)=>Wv.int i) sl om=(.nx,jc)\iu/\J (s+n) jc iu
 |0,s,sl,om,_,j=>⟨sl,om,rfl,j⟩
 |n+1,s,sl,om,h,j=>by
  obtain⟨sl1,fl,jd,om2,h1,h2,h3,h4⟩:=h s (aM _) .(0) sl om j;obtain⟨jc,iu,e,j'⟩:=Mn J n (s+1) (λm ha hb=>h m .(0) .(0)) h4;refine⟨jc,iu,?_,by rw[show s+(n+1)=s+1+n by omega];exact j'⟩;rw[g9,aS];show(match T (.int (s:Nat)) sl with|none=>W0|some sl1=>bnd (S sl1) (Qe λjd=>WS T S _ jd)) om=_;rw[h1];rcases h3 with rfl|rfl
  ·simp[bnd,h2,Qe,e]
  ·simp[bnd,h2,Qe,e]
def WU{T:TgW}{S:FS}{n:Nat}{sl:Sl}{om:iV}(J:Nat->Sl->List Ob->Prop)(h:∀m,m<n->∀sl om,J m sl om->∃sl1 fl jd om2,T (.int (m:Nat)) sl=some sl1/\S sl1 om=(fl,jd)\om2/\(fl=.nx\/fl=.ct)/\J (m+1) jd om2)(j:J 0 sl om):∃jc iu,WS T S (Vj n) sl om=(.nx,jc)\iu/\J n jc iu:=by
 obtain⟨jc,iu,e,j'⟩:=Mn J n 0 (λm _ hm=>h m .(0)) j;rw[eK]at j';refine⟨jc,iu,?_,j'⟩;unfold Vj;rw[List.range_eq_range'];exact e
section
variable{sl:Sl}{om:iV}{c1 c2:FT}{b1 b2:Bool}{r:Wv}
def Up(h1:c1 sl om=b1\om)(h2:b1=true->c2 sl om=b2\om):VS c1 c2 sl om=(b1&&b2)\om:=by
 cases b1 with
 |true=>exact fAnd_t h1<|h2 rfl
 |false=>exact fAnd_f h1
def fOr_b(h1:c1 sl om=b1\om)(h2:b1=false->c2 sl om=b2\om):fOr c1 c2 sl om=(b1 || b2)\om:=by
 cases b1 with
 |true=>exact fOr_t h1
 |false=>exact GA h1<|h2 rfl
def v2{k:Wv->Wv->Mw Wv}{i j:Nat}{x y:Wv}(hi:sl[i]?=↑x)(hj:sl[j]?=↑y):f2 k (Za i) (Za j) sl om=k x y om:=Zr (Zb hi) (Zb hj)
end
def D0(a b:Nat)(om:iV):Wk true (.int a) (.int b) om=(.bl (!decide (a=b)))\om:=by
 rw[Tw];by_cases h:a=b <;> simp[h] <;> omega
def eq_nat(a b:Nat)(om:iV):Wk false (.int a) (.int b) om=(.bl (decide (a=b)))\om:=by
 rw[XM];by_cases h:a=b <;> simp[h] <;> omega
def YX{ws:iR}{om:iV}(h:ws.length<=8):YU ws om=(.tup ws)\om:=by
 have:ws.length<=lim:=by have:=ZT;omega
 simp[YU,this,L2.ret]
def HP{om:iV}{n h k:Nat}{xs:iR}(hn:n<=h)(e:om[h]?=some (.lst xs)):fzW om n (k+1) (.o h)=.lst (xs.map (fzW om n k)):=by
 unfold fzW;rw[aC hn,e]
def fzW_bl(om:iV)(n k:Nat)(b:Bool):fzW om n k (.bl b)=.bl b:=by cases k <;> rfl
def KP:PyData.strOk (Str.ofString "stand")=true:=by decide +kernel
def Lu:PyData.strOk (Str.ofString "move")=true:=by decide +kernel
def Pg:PyData.strOk (Str.ofString "help")=true:=by decide +kernel
end L2
namespace L2
noncomputable section
open PySem PySem.Spec PyProof.Rows
def KL:iR->Mw Wv
 |[x,y]=>kI (λi j=>.int (if j > i then j else i)) x y
 |_=>W0
def JY:iR->Mw Wv
 |[x,y]=>kI (λi j=>.int (if j<i then j else i)) x y
 |_=>W0
def Pq(k:iR->Mw Wv)(ws:iR):Mw Wv:=λom=>match ws with
 |[x]=>match Y4 om x with
  |some us=>k us om
  |none=>none
 |_=>none
abbrev kList:=Pq ZL
section
variable{X:Cx}{E:XK}{e a b:qS}{es:iN}{f fa fb:FE}{fs:FA}{pos p:Pos}
def IP:Tf E (λxs H Q=>∃i j,xs=[.int i,.int j]/\Q (.int (if j > i then j else i)) H) KL:=by
 intro F H β om ws vs Q M rs R
 match ws,rs,R with
 |[],_,R=>exact R.elim
 |[_],_,R=>exact R.elim
 |_::_::_::_,_,R=>exact R.elim
 |[x,y],.cons rx (.cons ry .nil),R=>
  have R:Res E (kI (λi j=>.int (if j > i then j else i)) x y om) F H β (PV Q):=R;cases rx <;> first|exact R.elim|skip
  cases ry <;> first|exact R.elim|skip
  exact⟨_,_,rfl,(show Res E (ret (Wv.int _) om) F H β (PV Q) from R).now M _ (.int _)⟩
def Ih:Tf E (λxs H Q=>∃i j,xs=[.int i,.int j]/\Q (.int (if j<i then j else i)) H) JY:=by
 intro F H β om ws vs Q M rs R
 match ws,rs,R with
 |[],_,R=>exact R.elim
 |[_],_,R=>exact R.elim
 |_::_::_::_,_,R=>exact R.elim
 |[x,y],.cons rx (.cons ry .nil),R=>
  have R:Res E (kI (λi j=>.int (if j<i then j else i)) x y om) F H β (PV Q):=R;cases rx <;> first|exact R.elim|skip
  cases ry <;> first|exact R.elim|skip
  exact⟨_,_,rfl,(show Res E (ret (Wv.int _) om) F H β (PV Q) from R).now M _ (.int _)⟩
def IQ{k:iR->Mw Wv}(lk:VR E k):Tf E (λxs H Q=>∃p ys,xs=[.ref p]/\(SqL X.K H p ys\/SqT X.K H p ys)/\∀l,H l=none->Q (.ref l) (upd H l (.lst ys))) (Pq k):=by
 intro F H β om ws vs Q M rs R
 match ws,rs,R with
 |[],_,R=>exact R.elim
 |_::_::_,_,R=>exact R.elim
 |[x],.cons rx .nil,R=>
  unfold Pq at R;dsimp only at R
  match hx:Y4 om x,R with
  |none,R=>exact R.elim
  |some us,R=>
   obtain⟨p,xs,rfl,hs,r2⟩:=Sd (X:=X) M rx hx;exact⟨p,xs,rfl,hs,λl hl=>(lk M r2 R (p:=l)).2 hl⟩
def Az{k:iR->Mw Wv}(lk:VR E k)(hg:Gl X "list")(hm:X.mg "list"=none)(hb:bootBuiltins "list"=some (.type "list"))(ha:PA X [e] (tA E fs))(he:rD e X:=by rfl)(jb:rF pos X:=by rfl):PE X (.Call (.Name "list" p) [e] [] pos) (tE E (fA (Pq k) fs)):=Fb MH (IQ (X:=X) lk) hg hm hb ha .(1) .(1) he jb
def qe_max2(hc:X.calm=true)(hg:Gl X "max")(hm:X.mg "max"=none)(hb:bootBuiltins "max"=some (.builtin "max"))(ha:PA X (e::es) (tA E fs))(he:rA e es X:=by rfl)(jb:rB pos es X:=by rfl):PE X (.Call (.Name "max" p) (e::es) [] pos) (tE E (fA KL fs)):=WY (Fd hc) IP hg hm hb ha .(1) .(1) he jb
def Ak(hc:X.calm=true)(hg:Gl X "min")(hm:X.mg "min"=none)(hb:bootBuiltins "min"=some (.builtin "min"))(ha:PA X (e::es) (tA E fs))(he:rA e es X:=by rfl)(jb:rB pos es X:=by rfl):PE X (.Call (.Name "min" p) (e::es) [] pos) (tE E (fA JY fs)):=WY (Ej hc) Ih hg hm hb ha .(1) .(1) he jb
end
def tgs:iL->List Wv->Sl->Option Sl
 |[],[],sl=>some sl
 |i::is,w::ws,sl=>tgs is ws (sl.set i (some w))
 |_,_,_=>none
def Sk(is:iL):TgW:=λw sl=>match w with
 |.tup ws=>tgs is ws sl
 |_=>none
def Dh{F H:Hp}{β:iI}{Q:St->Hp->Prop}:∀{is:iL} {ws:iR} {vs:iQ} {σ:St} {sl jc:Sl},EnvOk F β σ sl->RWs F β ws vs->tgs is ws sl=some jc->(∀i6,EnvOk F β i6 jc->Q i6 H)->vs.length=is.length/\gNs is vs σ H Q
 |[],[],_,σ,sl,jc,V,.nil,e,q=>by
  have e:some sl=some jc:=e;cases e;exact⟨rfl,rfl,q _ V⟩
 |i::is,w::ws,_,σ,sl,jc,V,.cons r rs,e,q=>by
  have e:tgs is ws (sl.set i (some w))=some jc:=e;obtain⟨h1,h2⟩:=Dh (V.set i r) rs e q;exact⟨cE Nat.succ h1,_,_,rfl,h2⟩
 |[],_::_,_,_,_,_,_,_,e,_=>by cases e
 |_::_,[],_,_,_,_,_,_,e,_=>by cases e
def Ru{K:iC}(is:iL):Ip (Es K is.length (gNs is)) (Sk is):=λ{F H β om σ sl jc w v Q} M V r e q=>by
 cases r with
 |@tup a xs ws q2 rs=>
  obtain⟨h1,h2⟩:=Dh V rs (show tgs is ws sl=some jc from e) q;exact⟨a,xs,rfl,.inl (.inl (M.sub _ _ q2)),h1,h2⟩
 |_=>cases e
abbrev stW:Wv:=.tup [.str "stand"]
def GTup(K:iC)(a:qJ):Prop:=∃(o:Obj) (iy:Array qI) (n:Nat),K.lookup a=some o/\o.cls=.type "tuple"/\o.data=.seq iy n/\iy.size<=sizeLine/\Vals [V.str "stand"] iy.toList
def GTup.sq{K:iC}{a:qJ}(h:GTup K a)(H:Hp):SqT K H a [.str "stand"]:=.inr h
def GTup.of{K:iC}{a:qJ}{od:Option qJ}{n:Nat}{t:Tok}{sl:Array (iP)}(h:K.lookup a=some ⟨.type "tuple",od,.seq #[.str "stand" t] n,sl⟩):GTup K a:=⟨_,_,_,h,rfl,rfl,by show 1<=sizeLine;decide,.cons ⟨t,rfl⟩ .nil⟩
def unG(s:qJ):Wv->Wv
 |.g a=>if a=s then stW else .g a
 |w=>w
def EO(s:qJ):unG s (.g s)=stW:=aC rfl
def unG_or{F:Hp}{β:iI}{s:qJ}{x:Wv}{v:V}(r:RW F β x v):unG s x=x\/(x=.g s/\v=.ref s/\unG s x=stW):=by
 cases r with
 |g a=>
  by_cases h:a=s
  ·subst h;exact .inr ⟨rfl,rfl,EO _⟩
  ·exact .inl (aD h)
 |_=>exact .inl rfl
def Uc(s:qJ)(x i:Wv):Mw Wv:=kIx (unG s x) i
section
variable{X:Cx}{E:XK}{e a b:qS}{es:iN}{f fa fb:FE}{fs:FA}{pos p p2:Pos}{s:qJ}
def Ke{x:Str}(hg:Gl X x)(h:X.mg x=some (.ref s))(hd:(x == ("__debug__":Str))=false:=by decide):PE X (.Name x pos) (tE E (fC (.g s))):=Fe (UK (v:=.ref s) hg h rfl hd) λ_ _=>.g s
def st_rws{F:Hp}{β:iI}:RWs F β [Wv.str "stand"] [V.str "stand"]:=.cons (.str _) .nil
def BP(G:GTup X.K s):Op2 E (rIx X.K) (Uc s):=by
 intro F H β om x y v u Q M rx ry R;unfold Uc at R;rcases unG_or (s:=s) rx with h|⟨rfl,rfl,h⟩
 ·rw[h]at R;exact Bm M rx ry R
 ·rw[h]at R
  cases ry with
  |int i=>
   have R:Res E (match L2.atI [Wv.str "stand"] i with|some w=>some (Except.ok w,om)|none=>none) F H β (PV Q):=R
   match ha:L2.atI [Wv.str "stand"] i,R with
   |none,R=>exact R.elim
   |some w,R=>
    obtain⟨z,ez,rz⟩:=(st_rws (F:=F) (β:=β)).atI ha;exact .inr (.inl ⟨s,_,i,z,rfl,rfl,G.sq H,ez,(show Res E (ret w om) F H β (PV Q) from R).now M z rz⟩)
  |_=>exact R.elim
def UT(G:GTup X.K s)(ha:PE X a (tE E fa))(hb:PE X b (tE E fb))(hs:L7 b:=by intro _ _;rfl):PE X (.Subscript a b pos) (tE E (f2 (Uc s) fa fb)):=(pe_ix DI ha hb hs).weak λ_ _ _ h=>LW (BP G) h
def Xv:iR->Option (iK)
 |[]=>some []
 |.int i::r=>match Xv r with
  |some is=>some (i::is)
  |none=>none
 |_=>none
def VF{F:Hp}{β:iI}:∀{ws:iR} {vs:iQ} {ns:iK},RWs F β ws vs->Xv ws=some ns->vs=ns.map V.int
 |_,_,_,.nil,e=>by cases e;rfl
 |_,_,_,.cons (ws:=r) h rr,e=>by
  cases h with
  |int i=>
   have e:(match Xv r with|some is=>some (i::is)|none=>none)=some _:=e
   match hr:Xv r,e with
   |some is,e=>
    have e:some (i::is)=some _:=e;cases e;rw[aS,← VF rr hr]
   |none,e=>exact nomatch e
  |_=>exact nomatch e
def FO(p:Int):iK->List Int
 |[]=>[p]
 |q::r=>if q<p then q::FO p r else p::q::r
def XI:iK->List Int
 |[]=>[]
 |p::r=>FO p (XI r)
def R7(p:Int):∀l,(FO p l).Perm (p::l)
 |[]=>dJ _
 |q::r=>by
  unfold FO;split
  ·exact(R7 p r).cons q<|List.Perm.swap p q r
  ·exact dJ _
def YD:∀l,(XI l).Perm l
 |[]=>dJ _
 |p::r=>R7 p (XI r)<|(YD r).cons p
def K5(p:Int):∀l:iK,l.Pairwise (·<=·)->(FO p l).Pairwise (·<=·)
 |[],_=>fY _ _
 |q::r,h=>by
  have h':=bU.mp h;unfold FO;by_cases hc:q<p
  ·rw[aC hc]
   refine bU.mpr ⟨λy hy=>?_,K5 p r h'.2⟩;rcases aN.mp ((R7 p r).mem_iff.mp hy) with rfl|hy
   ·omega
   ·exact h'.1 y hy
  ·rw[aD hc]
   refine bU.mpr ⟨λy hy=>?_,h⟩;rcases aN.mp hy with rfl|hy
   ·omega
   ·have:=h'.1 y hy;omega
def UI:∀l,(XI l).Pairwise (·<=·)
 |[]=>List.Pairwise.nil
 |p::r=>K5 p _ (UI r)
def Sf:∀{l m:iK},l.Perm m->l.Pairwise (·<=·)->m.Pairwise (·<=·)->l=m
 |[],m,h,_,_=>(List.nil_perm.mp h).symm
 |x::l,[],h,_,_=>absurd h .(2)
 |x::l,y::m,h,h1,h2=>by
  have jV:=bU.mp h1;have jB:=bU.mp h2
  have e:x=y:=by
   have hx:=h.mem_iff.mp (da (a:=x) (l:=l));have hy:=h.mem_iff.mpr (da (a:=y) (l:=m));rcases aN.mp hx with hx|hx
   ·exact hx
   ·rcases aN.mp hy with hy|hy
    ·exact hy.symm
    ·have a:=jV.1 y hy
     have b:=jB.1 x hx;omega
  subst e;rw[Sf h.cons_inv jV.2 jB.2]
def Hd(om:iV):Wv->Option (iR)
 |.lst ws=>some ws
 |.o h=>match om[h]? with
  |some (.lst ws)=>some ws
  |_=>none
 |_=>none
def O1{F H:Hp}{β:iI}{om:iV}{w:Wv}{v:V}{ws:iR}(M:MOk F H β om)(r:RW F β w v)(e:Hd om w=some ws):∃a xs,v=.ref a/\SqL X.K H a xs/\RWs F β ws xs:=by
 cases r with
 |lst q rs=>cases e;exact⟨_,_,rfl,.inl (Rd.same M.sub q),rs⟩
 |@o h a eb=>
  have e:(match om[h]? with|some (.lst ws)=>some ws|_=>none)=some ws:=e
  match hx:om[h]?,e with
  |none,e=>exact nomatch e
  |some (.ins _ _),e=>exact nomatch e
  |some (.exc _),e=>exact nomatch e
  |some (.dk _),e=>exact nomatch e
  |some (.dt _),e=>exact nomatch e
  |some (.dz _),e=>exact nomatch e
  |some (.lst us),e=>
   have e:some us=some ws:=e;cases e;obtain⟨a',ea,_,xs,kT,rs⟩:=M.at hx;rw[eb]at ea;cases ea;exact⟨_,_,rfl,SqL.of kT,rs⟩
 |_=>cases e
def Vl(k:iR->Mw Wv)(ws:iR):Mw Wv:=λom=>match ws with
 |[x]=>match Hd om x with
  |some us=>match Xv us with
   |some ns=>if ns.length<64 then k ((XI ns).map Wv.int) om else none
   |none=>none
  |none=>none
 |_=>none
def Re{F:Hp}{β:iI}:∀ns:iK,RWs F β (ns.map Wv.int) (ns.map V.int)
 |[]=>.nil
 |_::r=>.cons (.int _) (Re r)
def K6{k:iR->Mw Wv}(lk:VR E k):Tf E (CN X.K) (Vl k):=by
 intro F H β om ws vs Q M rs R
 match ws,rs,R with
 |[],_,R=>exact R.elim
 |_::_::_,_,R=>exact R.elim
 |[x],.cons rx .nil,R=>
  unfold Vl at R;dsimp only at R
  match hx:Hd om x,R with
  |none,R=>exact R.elim
  |some us,R=>
   dsimp only at R
   match hn:Xv us,R with
   |none,R=>exact R.elim
   |some ns,R=>
    dsimp only at R;by_cases hl:ns.length<64
    ·rw[aC hl]at R
     obtain⟨p,xs,rfl,hs,r2⟩:=O1 (X:=X) M rx hx;rw[VF r2 hn]at hs;refine⟨p,ns,rfl,hs,hl,λq ms h1 h2 hq=>?_⟩;have e:ms=XI ns:=Sf (h1.trans (YD ns).symm) h2 (UI ns);rw[e];exact(lk M (Re _) R).2 hq
    ·rw[aD hl]at R;exact R.elim
def JN{k:iR->Mw Wv}(lk:VR E k)(hg:Gl X "sorted")(hm:X.mg "sorted"=none)(ha:PA X [e] (tA E fs))(he:rD e X:=by rfl)(jb:rF pos X:=by rfl):PE X (.Call (.Name "sorted" p) [e] [] pos) (tE E (fA (Vl k) fs)):=WY IT (K6 (X:=X) lk) hg hm eB ha .(1) .(1) he jb
def Ub:iR->Option (iO)
 |[]=>some []
 |.bl b::r=>match Ub r with
  |some bs=>some (b::bs)
  |none=>none
 |_=>none
def PK{F:Hp}{β:iI}:∀{ws:iR} {vs:iQ} {bs:iO},RWs F β ws vs->Ub ws=some bs->vs=bs.map V.bl
 |_,_,_,.nil,e=>by cases e;rfl
 |_,_,_,.cons (ws:=r) h rr,e=>by
  cases h with
  |bl i=>
   have e:(match Ub r with|some is=>some (i::is)|none=>none)=some _:=e
   match hr:Ub r,e with
   |some is,e=>
    have e:some (i::is)=some _:=e;cases e;rw[aS,← PK rr hr]
   |none,e=>exact nomatch e
  |_=>exact nomatch e
def CT(g:iO->Bool)(ws:iR):Mw Wv:=λom=>match ws with
 |[x]=>match Hd om x with
  |some us=>match Ub us with
   |some bs=>(.bl (g bs))\om
   |none=>none
  |none=>none
 |_=>none
abbrev Bs:=CT λbs=>bs.any id
def IY{g:iO->Bool}:Tf E (rAnyB X.K g) (CT g):=by
 intro F H β om ws vs Q M rs R
 match ws,rs,R with
 |[],_,R=>exact R.elim
 |_::_::_,_,R=>exact R.elim
 |[x],.cons rx .nil,R=>
  unfold CT at R;dsimp only at R
  match hx:Hd om x,R with
  |none,R=>exact R.elim
  |some us,R=>
   dsimp only at R
   match hn:Ub us,R with
   |none,R=>exact R.elim
   |some bs,R=>
    obtain⟨p,xs,rfl,hs,r2⟩:=O1 (X:=X) M rx hx;rw[PK r2 hn]at hs;exact⟨p,bs,rfl,hs,(show Res E (ret (Wv.bl (g bs)) om) F H β (PV Q) from R).now M _ (.bl _)⟩
def DQ(hc:X.calm=true)(hg:Gl X "any")(hm:X.mg "any"=none)(hb:bootBuiltins "any"=some (.builtin "any"))(ha:PA X [e] (tA E fs))(he:rD e X:=by rfl)(jb:rF pos X:=by rfl):PE X (.Call (.Name "any" p) [e] [] pos) (tE E (fA Bs fs)):=WY (G3 hc) (IY (X:=X)) hg hm hb ha .(1) .(1) he jb
end
section
variable{X:Cx}{E:XK}{e o:qS}{fo f:FE}
def rExtR:V->List V->Hp->VK->Prop:=λx vs H Q=>∃l b xs zs,x=.ref l/\vs=[.ref b]/\H l=some (.lst xs)/\Rd H b (.lst zs)/\xs.length+zs.length<=sizeLine/\Q .non (upd H l (.lst (xs++zs)))
def At:MtM X "list.extend" rExtR:=by
 intro gV s σ H x vs v us Q I rx rv h;obtain⟨l,b,xs,zs,rfl,rfl,hH,hB,hz,q⟩:=h;cases rx;obtain⟨u,rfl,ru⟩:=rv.one;cases ru;obtain⟨_,iy,n,r,hl,e⟩:=I.lstM hH;obtain⟨_,lL,m,r2,e2⟩:=hB.ok I.hok;have hl2:=r2.length;have hs:iy.toArray.size+lL.toArray.size<=sizeLine:=by simp only[bD];omega
 have hn:¬ (!iy.toArray.isEmpty&&Builtin.List.listTooLong (iy.toArray.size+lL.toArray.size))=true:=λz=>by
  rw[Jd hs,Bool.and_false]at z;cases z
 refine call_meets F.slot_list_extend ⟨_,e,rfl⟩ F.entry_list_extend (F.args_list_extend_2 _ _) (AutoSeq1.list_extend_list_list_0 l iy.toArray n b lL.toArray m hn .(8) .(0)) ⟨e,e2,?_⟩;exact⟨.non,_,I.lset (its':=iy++lL) hH e .(2) (r.append r2) (by rw[aV];omega),rfl,q⟩
def kExt(x y:Wv):Mw Wv:=λom=>match Vs om x,y with
 |some (h,ws),.lst us=>if ws.length+us.length<=lim then .non\om.set h (.lst (ws++us)) else none
 |_,_=>none
def BD(fo f:FE):FE:=λsl=>bnd (fo sl) λx=>bnd (Fn x) λ_=>bnd (f sl) λy=>kExt x y
def G6{iY i0:Pos}(ho:PE X o (tE E fo))(he:PE X e (tE E f))(jp:attributeBase o "extend" X.env (eval o X.env)=eval o X.env:=by rfl)(jC:((backTo i0 (starEach [e] X.env)).all (λx=>!x.1)&&(backToKw i0 (keywordEach [] X.env)).all (λx=>x.1.isSome)
     && decide (([e]:iN).length+([]:List Keyword).length+(if ([]:List Keyword).isEmpty then 0 else 1)<30))=true:=by rfl)
    (jq:(iY.endLine == i0.line)=true:=by rfl) (hs:rD e X:=by rfl) (jA:rK i0 X:=by rfl):
    PE X (.Call (.Attribute o "extend" iY) [e] [] i0) (tE E (BD fo f)):=(CH fW PySem.F.slot_list_extend PySem.F.type_list_extend At ho (X1 he Vq hs) jp jC jq hs jA).weak λσ H Q ⟨F,β,om,sl,M,V,R⟩=>by
 refine⟨F,β,om,sl,M,V,R.bind λx qH F1 H1 ix g1 M1 R1 v rv=>?_⟩;obtain⟨ty,R2⟩:=Jr (X:=X) M1 rv R1;refine⟨ty,F1,ix,qH,sl,M1,V.mono g1.toGr,R2.bind λy jH F3 H3 jN g3 M3 R3 u ru=>?_⟩;show rExtR v [u] H3 Q;unfold kExt at R3
 match hx:Vs jH x,R3 with
 |none,R3=>exact R3.elim
 |some (h,ws),R3=>
  cases ru with
  |@lst b zs us q rs2=>
   dsimp only at R3;obtain⟨a,xs,_,_,eb,rfl,ha,rs⟩:=TU M3 (rv.mono g3.toGr) hx;by_cases hc:ws.length+us.length<=lim
   ·rw[aC hc]at R3
    have:=UL;have:=rs.length;have:=rs2.length;refine⟨a,b,xs,zs,rfl,rfl,ha,Rd.same M3.sub q,.(0),?_⟩;exact R3 F3 _ jN (M3.gxP eb (nz ha)) (M3.put eb ⟨xs++zs,ZF,rs.append rs2⟩) _ .non
   ·rw[aD hc]at R3;exact R3.elim
  |_=>exact R3.elim
end
end
end L2
local macro_rules|`(?a)=>`(L2.Za 0)|`(?b)=>`(L2.Za 1)|`(?c)=>`(L2.Za 2)|`(?d)=>`(L2.Za 3)|`(?e)=>`(L2.Za 4)|`(?f)=>`(L2.Za 5)|`(?g)=>`(L2.Za 6)|`(?h)=>`(L2.Za 7)|`(?i)=>`(L2.Za 8)|`(?j)=>`(L2.Za 9)|`(?k)=>`(L2.Za 10)|`(?l)=>`(L2.Za 11)|`(?A)=>`(L2.fC (.int 0))|`(?B)=>`(L2.fC (.int 1))|`(?C)=>`(L2.fC (.int 2))|`(?D)=>`(L2.fC (.int 3))|`(?E)=>`(L2.fC (.int 4))|`(?F)=>`(L2.fC (.int 7))|`(?G)=>`(L2.fC (.int 24))|`(?H)=>`(L2.fC (.int 6))|`(?I)=>`(L2.fC (.int 5))|`(?J)=>`(L2.fC (.int 53))|`(?K)=>`(L2.fC (.int 2097152))|`(?L)=>`(L2.fC (.int 2097151))|`(?M)=>`(L2.fC (.int 21))|`(?N)=>`(L2.fC (.int 22))|`(?O)=>`(L2.fC (.int 30))|`(?P)=>`(L2.fC (.int 61))|`(?Q)=>`(L2.fC (.int 60))|`(?R)=>`(L2.fC (.int 12))|`(?S)=>`(L2.fC (.int 8))|`(?T)=>`(L2.fC (.int 28))
local macro_rules|`(#[$a])=>`(L2.Zc $a L2.Zi)|`(#[$a,$b,*])=>`(L2.Zc $a #[$b,*])
namespace MP
noncomputable section
open PySem L2
structure CA where
 Map:qJ
 Board:qJ
 Orders:qJ
 Turn:qJ
 OrderError:qJ
 NoPlace:qJ
 NoSide:qJ
 Crowded:qJ
 NoUnit:qJ
 OutOfReach:qJ
 STAND:qJ
 kit:qJ->Value->Bool
 caught:qJ->Addr->Bool
def CA.isE(c:CA)(C:qJ):Bool:=C == c.NoPlace || C == c.NoSide || C == c.Crowded || C == c.NoUnit || C == c.OutOfReach
def CA.Ds(c:CA):iJ:=[.ref c.NoPlace,.ref c.NoSide,.ref c.Crowded,.ref c.NoUnit,.ref c.OutOfReach,.type "ValueError"]
def Oy(c:CA):FS:=
 (Zx (sIf (fB (f2 kLt ?b (fA Ws #[?a]))) (Ye (f2 kIx ?a ?b)) Yr)
  (Ye ?A))
def Zq(c:CA):iR->Mw Wv:=Yc 2 (Oy c)
def Lf(c:CA):FS:=
 (Zx (ZC 1 (f2 WD ?C (f2 YI (fA (kN 2 (Zq c)) #[?a,?A]) ?H)))
  (Zx (sIf (fB (f2 kEq (f2 YI (f2 Ue (fA (kN 2 (Zq c)) #[?a,?A]) ?H) ?I) ?B)) (Ye (fA YU #[?b,f2 YI (f2 Ue (fA (kN 2 (Zq c)) #[?a,?A]) ?O) (f2 kSub ?P ?b),?Q])) Yr)
  (Ye (fA YU #[?b,?A,?b]))))
def W9(c:CA):iR->Mw Wv:=Yc 2 (Lf c)
def Sr(c:CA):FE:=
 (AV Wb #[fC (.bl false)] ?b)
def Ud(c:CA):FS:=
 (Zx (Xn (f2 kEq (f2 YI ?c ?C) ?B) (f2 kIx ?d ?e) ?f)
  (Zx (Xn (f2 kEq (f2 YI ?c ?C) ?B) (f2 kIx ?d ?f) ?e)
  (ZC 2 (f2 Ue ?c ?C))))
def Ul(c:CA):FS:=
 (Wf (λsl=>bnd (?e sl) YF) (tgN 5) (Ud c))
def Ls(c:CA):FS:=
 (Zx (ZC 2 (f2 YI (fA (kN 2 (Zq c)) #[?a,?B]) ?K))
  (Zx (sIf (fB (f2 kEq (f2 YI (fA (kN 2 (Zq c)) #[?a,?C]) ?D) ?A)) (ZC 2 ?L) Yr)
  (Zx (ZC 3 (Yk Wb [1] (λsl=>bnd (?b sl) YF) Xl (Sr c)))
  (Zx (Wf (λsl=>bnd (?b sl) YF) (tgN 4) (Ul c))
  (Ye ?d)))))
def UP(c:CA):iR->Mw Wv:=Yc 6 (Ls c)
def WN(c:CA):iR->Mw Wv:=tidyG (UP c)
def Sz(c:CA):FS:=
 (Zx (ZC 4 (fA (kN 2 (Zq c)) #[?a,f2 WD ?D ?d]))
  (sIf (fB (f2 kEq (f2 YI ?e ?E) ?A)) (ZR (El ?c (fC .non))) (sIf (fB (f2 kEq (f2 YI (f2 Ue ?e ?E) ?D) ?A)) (ZR (El ?c (f2 YI (f2 Ue ?e ?R) ?S))) (ZR (El ?c (f2 YI (f2 Ue ?e ?E) ?D))))))
def L9(c:CA):FS:=
 (Zx (ZC 2 (fA Wb Zi))
  (Zx (Wf (λsl=>bnd (?b sl) YF) (tgN 3) (Sz c))
  (Ye ?c)))
def Vc(c:CA):iR->Mw Wv:=Yc 5 (L9 c)
def Uw(c:CA):FT:=
 (Xm (f2 kIx (f2 kIx ?c ?b) ?a))
def UH(c:CA):FE:=
 ?a
def UB(c:CA):FT:=
 (VS (fB (f2 kNe ?a ?b)) (VS (fB (f1 U6 (f2 kIx ?d ?a))) (fOr (fB (f2 kEq ?a ?e)) (Xm (f2 kIx (f2 kIx ?c ?a) ?e)))))
def Ux(c:CA):FE:=
 ?a
def Pb(c:CA):FS:=
 (Zx (ZC 4 (Yk ZL [1,2] (λsl=>bnd ((fA Ws #[?d]) sl) YF) (Uw c) (UH c)))
  (Zx (sIf (fB (f1 VA (f2 kIx ?d ?b))) (Ye (fC .non)) Yr)
  (Zx (sIf (fOr (JA (Xm ?e)) (fB (f2 kEq (f2 YI ?a ?E) ?A))) (Ye (fA YU #[fC (.str "stand")])) Yr)
  (Zx (ZC 5 (f2 kIx ?e (f2 YI (f2 Ue ?a ?E) (fA Ws #[?e]))))
  (Zx (sIf (fB (f2 kLt (f2 YI ?a ?E) ?D)) (Ye (fA YU #[fC (.str "move"),?f])) Yr)
  (Zx (ZC 6 (Yk ZL [1,2,3,5] (λsl=>bnd ((fA Ws #[?d]) sl) YF) (UB c) (Ux c)))
  (Zx (sIf (JA (Xm ?g)) (Ye (fA YU #[fC (.str "stand")])) Yr)
  (Ye (fA YU #[fC (.str "help"),f2 kIx ?g (f2 YI (f2 Ue ?a ?T) (fA Ws #[?g])),?f])))))))))
def Y1(c:CA):iR->Mw Wv:=Yc 7 (Pb c)
end
open PySem L2
inductive Od where
 |stand
 |move (g:Nat)
 |help (h g:Nat)
 deriving DecidableEq
abbrev iW:=List (Option Od)
def odW:Option Od->Wv
 |none=>.non
 |some .stand=>.tup [.str "stand"]
 |some (.move g)=>.tup [.str "move",.int g]
 |some (.help h g)=>.tup [.str "help",.int h,.int g]
abbrev at'{α:Type}(l:List (Option α))(k:Nat):Option α:=l.getD k none
structure OkT(qD:iW)(f:iF):Prop where
 len:qD.length=f.length
 few:qD.length<=60
 both:∀k,k<qD.length->((at' qD k).isSome=true ↔ (at' f k).isSome=true)
 mv:∀k g,at' qD k=some (.move g)->g<qD.length/\g≠k
 hl:∀k h g,at' qD k=some (.help h g)->h<qD.length/\g<qD.length/\h≠k/\g≠k/\(at' f h).isSome=true
structure Rows(om:iV)(tw sw:Wv)(qD:iW)(f:iF):Prop where
 t:Y4 om tw=some (qD.map odW)
 s:Y4 om sw=some (f.map ZK)
def IU(qD:iW)(f:iF)(k g:Nat):Bool:=(List.range qD.length).any λm=>decide (at' qD m=some (.move k))&&(!decide (m=g)&&!decide (at' f m=at' f k))
def odN:Od->String
 |.stand=>"stand"
 |.move _=>"move"
 |.help _ _=>"help"
def NQ(o:Od):PyData.strOk (Str.ofString (odN o))=true:=by
 cases o with
 |stand=>exact KP
 |move g=>exact Lu
 |help h g=>exact Pg
def od_0(o:Od)(om:iV):kIx (odW (some o)) (.int 0) om=(.str (odN o))\om:=by
 cases o with
 |stand=>exact ZP (k:=0) rfl rfl
 |move g=>exact ZP (k:=0) rfl rfl
 |help h g=>exact ZP (k:=0) rfl rfl
def od_g(h g:Nat)(om:iV):kIx (odW (some (.help h g))) (.int 2) om=(.int g)\om:=ZP (k:=2) rfl rfl
def od_h(h g:Nat)(om:iV):kIx (odW (some (.help h g))) (.int 1) om=(.int h)\om:=ZP (k:=1) rfl rfl
def od_m(g:Nat)(om:iV):kIx (odW (some (.move g))) (.int 1) om=(.int g)\om:=ZP (k:=1) rfl rfl
def Wg:Option Od->Bool
 |some (.move _)=>true
 |_=>false
def isN_od(o:Option Od)(om:iV):VA (odW o) om=(.bl o.isNone)\om:=by
 match o with
 |none=>rfl
 |some .stand=>rfl
 |some (.move g)=>rfl
 |some (.help h g)=>rfl
def Tv(o:Option Int)(om:iV):VA (ZK o) om=(.bl o.isNone)\om:=by
 cases o <;> rfl
def Mh(o:Option Int)(om:iV):U6 (ZK o) om=(.bl o.isSome)\om:=by
 cases o <;> rfl
def WK(qD:iW)(f:iF)(k:Nat):Bool:=match at' qD k with
 |some (.help h g)=>!IU qD f k g&&(if h=g then !Wg (at' qD h) else decide (at' qD h=some (.move g)))
 |_=>false
def Ac(qD:iW)(f:iF)(k je:Nat)(sd:Option Int)(h:Nat):Bool:=decide (at' qD h=some (.help k je))&&(WK qD f h&&!decide (at' f h=sd))
def Va(qD:iW)(f:iF)(k je:Nat)(sd:Option Int):Int:=(List.range qD.length).foldl (λa h=>bif Ac qD f k je sd h then a+1 else a) 1
def E4(qD:iW)(f:iF)(k:Nat):Int:=bif Wg (at' qD k) then 1 else Va qD f k k (some (-1))
abbrev Yj(ns:iK):Wv:=.lst (ns.map .int)
section
variable(c:CA){om:iV}
def Bu(ns:iK)(k:Nat)(om:iV):Zq c [Yj ns,.int k] om=(.int (ns.getD k 0))\om:=by
 have iZ:fA Ws #[?a] [some (Yj ns),some (.int k)] om=(.int ns.length)\om:=by
  refine ZB (Ze (Zb rfl) Zj)<|(TD rfl).trans ?_;rw[aB]
 have a1:fB (f2 kLt ?b (fA Ws #[?a])) [some (Yj ns),some (.int k)] om=(decide (k<ns.length))\om:=by
  refine ZQ ((Zr (Zb rfl) iZ).trans ?_);simp[kI,L2.ret]
 by_cases h:k<ns.length
 ·rw[bG h]at a1
  refine ZD (Ys (Z9 a1<|Zw (v2 rfl rfl<|Q4 (xs:=ns) rfl h 0)))
 ·rw[aG h]at a1
  rw[show ns.getD k 0=0 by simp[aT,bP (Nat.le_of_not_lt h)]];exact ZD (Zh (ZM a1)<|Zw Zp)
def SN{sl:Sl}{i:Nat}{fe:FE}{ns:iK}{k:Nat}(h:sl[i]?=↑(Yj ns))(hk:fe sl om=(.int k)\om):fA (kN 2 (Zq c)) #[Za i,fe] sl om=(.int (ns.getD k 0))\om:=
 (ZB (Ze (Zb h) (Ze hk Zj))).trans (Yz rfl<|Bu c ns k om)
def Wa{sl:Sl}{fa:FE}{a q:Int}(h:fa sl om=(.int a)\om)(hq:0<q):f2 YI fa (fC (.int q)) sl om=(.int (a % q))\om:=Zr h Zp<|(by simp[kIc,L2.ret,hq])
def Tx{sl:Sl}{fa:FE}{a q:Int}(h:fa sl om=(.int a)\om)(hq:0<q/\q<1073741824):f2 Ue fa (fC (.int q)) sl om=(.int (a / q))\om:=Zr h Zp<|(by simp[kIc,L2.ret,hq])
def LA{sl:Sl}{fa:FE}{a q:Int}(h:fa sl om=(.int a)\om):f2 WD (fC (.int q)) fa sl om=(.int (q+a))\om:=Zr Zp h<|(by simp[kI,L2.ret])
def N2{sl:Sl}{fa:FE}{a q:Int}(h:fa sl om=(.int a)\om):fB (f2 kEq fa (fC (.int q))) sl om=(decide (a=q))\om:=ZQ (Zr h Zp<|XM _ _ _)
def Ce(ns:iK):∃qG qE size:Nat,2<=qG/\qG<=7/\qE+qG<=size/\size<=60/\(qE=0\/size=60)/\∀om,W9 c [Yj ns] om=(.tup [.int qG,.int qE,.int size])\om:=by
 generalize hw:ns.getD 0 0=w;have l1:0<=w % 6:=eF _ .(0);have l2:w % 6<6:=dw _ .(0);obtain⟨qG,hm⟩:∃m:Nat,2+w % 6=m:=⟨(2+w % 6).toNat,.(0)⟩
 have l3:0<=(w / 30) % (61-qG):=eF _ .(0);have l4:(w / 30) % (61-qG)<61-qG:=dw _ .(0);obtain⟨qE,ho⟩:∃m:Nat,(w / 30) % (61-(qG:Int))=m:=⟨((w / 30) % (61-qG)).toNat,.(0)⟩
 have cell:∀(x:Option Wv) om,fA (kN 2 (Zq c)) #[?a,?A] [some (Yj ns),x] om=(.int w)\om:=λx om=>SN c (k:=0) rfl Zp<|(by rw[hw])
 have s1:∀om,ZC 1 (f2 WD ?C (f2 YI (fA (kN 2 (Zq c)) #[?a,?A]) ?H)) [some (Yj ns),none] om=(.nx,[some (Yj ns),some (.int qG)])\om:=λom=>Zt (LA (Wa (cell _ om) .(1)))<|(by rw[hm];rfl)
 have t1:∀om,fB (f2 kEq (f2 YI (f2 Ue (fA (kN 2 (Zq c)) #[?a,?A]) ?H) ?I) ?B) [some (Yj ns),some (.int qG)] om=_:=λom=>N2 (Wa (Tx (cell _ om) .(1)) .(1))
 by_cases h:w / 6 % 5=1
 ·refine⟨qG,qE,60,.(0),.(0),.(0),.(0),.inr rfl,λom=>?_⟩
  have t1:=t1 om;rw[bG h]at t1;refine ZD (Zh (s1 om)<|Ys (Z9 t1<|Zw (ZB (Ze (Zb rfl) (Ze (w:=.int qE) (qH:=om) ?_ (Ze Zp Zj)))<|YX .(2))));refine(Zr (Tx (cell _ om) .(1)) (y:=.int (61-qG)) (om2:=om) (Zr Zp (Zb rfl)<|(by simp[kI,L2.ret]))).trans ?_;simp[kIc,L2.ret,ho,show(qG:Int)<61 by omega]
 ·refine⟨qG,0,qG,.(0),.(0),.(0),.(0),.inl rfl,λom=>?_⟩
  have t1:=t1 om;rw[aG h]at t1;exact ZD (Zh (s1 om)<|(Zh (ZM t1)).trans (Zw (ZB (Ze (Zb rfl) (Ze Zp (Ze (Zb rfl) Zj)))<|YX .(2))))
def Uk(w:Int):Option Int:=if w % 4=0 then none else if w / 4 % 3=0 then some (w / 12 % 8) else some (w / 4 % 3)
def YK(ns:iK)(m:Nat):iF:=(List.range m).map λk=>Uk (ns.getD (3+k) 0)
def QO(ns:iK)(m:Nat):(YK ns m).length=m:=by simp[YK]
def F7{w s:Int}(h:Uk w=some s):0<=s/\s<=7:=by
 unfold Uk at h;split at h
 ·cases h
 ·split at h
  ·cases h;omega
  ·cases h;omega
def DW{sl:Sl}{i:Nat}{fe:FE}{w:Wv}{ws:iR}{l:iV}(h:sl[i]?=↑(.o om.length))(hw:fe sl (om++.lst ws::l)=w\(om++.lst ws::l))(hl:ws.length<lim):ZR (El (Za i) fe) sl (om++.lst ws::l)=(.nx,sl)\(om++.lst (ws++[w])::l):=by
 refine ZW (w:=.non) ?_;unfold El;rw[Zm (Zb h)];refine Zm (a:=()) (qH:=om++.lst ws::l) ?_<|(Zm hw).trans ?_
 ·simp[Fn,L2.ret,Vs]
 ·simp[kApp,Vs,hl]
def RP{sl:Sl}{i m:Nat}(h:sl[i]?=↑(.int m))(hm:m<=lim)(om:iV):(λsl=>bnd ((Za i) sl) YF) sl om=(Vj m)\om:=Zm (Zb h)<|Wc _ _ hm
def DG(ns:iK){m:Nat}(hm:m<=60)(om:iV):Vc c [Yj ns,.int m] om=(.o om.length)\(om++[.lst ((YK ns m).map ZK)]):=by
 have ja:=ZT
 have e1:ZC 2 (fA Wb Zi) [some (Yj ns),some (.int m),none,none,none] om=(.nx,[some (Yj ns),some (.int m),some (.o om.length),none,none])\(om++[.lst []]):=
  Zt (i:=2) (ZB Zj<|(by simp[Wb,newO]))
 obtain⟨jc,iu,hf,rfl,x,y,rfl⟩:=WU (T:=tgN 3) (S:=Sz c) (n:=m) (λk sl iu=>iu=om++[.lst ((YK ns k).map ZK)]/\∃x y,sl=[some (Yj ns),some (.int m),some (.o om.length),x,y])
  (sl:=[some (Yj ns),some (.int m),some (.o om.length),none,none]) (om:=om++[.lst []]) (λk hk sl iu ⟨ho,x,y,hx⟩=>by
   subst ho hx;have hl:((YK ns k).map ZK).length<lim:=by rw[aB,QO];omega
   have hs:(YK ns (k+1)).map ZK=(YK ns k).map ZK++[ZK (Uk (ns.getD (3+k) 0))]:=by
    unfold YK;rw[df,bX,bX];rfl
   generalize hw:ns.getD (3+k) 0=w at hs
   have s1:ZC 4 (fA (kN 2 (Zq c)) #[?a,f2 WD ?D ?d]) [some (Yj ns),some (.int m),some (.o om.length),some (.int k),y] (om++[.lst ((YK ns k).map ZK)])=(.nx,[some (Yj ns),some (.int m),some (.o om.length),some (.int k),some (.int w)])\(om++[.lst ((YK ns k).map ZK)]):=
    (Zt (SN c (k:=3+k) rfl (LA (Zb rfl)<|.(2)))).trans (by rw[hw];rfl)
   have t1:fB (f2 kEq (f2 YI ?e ?E) ?A) [some (Yj ns),some (.int m),some (.o om.length),some (.int k),some (.int w)] (om++[.lst ((YK ns k).map ZK)])=_:=N2 (Wa (Zb rfl) .(1));have t2:fB (f2 kEq (f2 YI (f2 Ue ?e ?E) ?D) ?A) [some (Yj ns),some (.int m),some (.o om.length),some (.int k),some (.int w)] (om++[.lst ((YK ns k).map ZK)])=_:=N2 (Wa (Tx (Zb rfl) .(1)) .(1));refine⟨[some (Yj ns),some (.int m),some (.o om.length),some (.int k),y],.nx,[some (Yj ns),some (.int m),some (.o om.length),some (.int k),some (.int w)],om++[.lst ((YK ns (k+1)).map ZK)],rfl,?_,.inl rfl,rfl,_,_,rfl⟩;refine(Zh s1).trans ?_;rw[hs];by_cases c1:w % 4=0
   ·rw[bG c1]at t1
    rw[show Uk w=none by simp[Uk,c1]];exact Z9 t1<|DW rfl Zp hl
   ·rw[aG c1]at t1
    by_cases c2:w / 4 % 3=0
    ·rw[bG c2]at t2
     rw[show Uk w=some (w / 12 % 8) by simp[Uk,c1,c2]];exact VT t1<|(Z9 t2).trans (DW rfl (Wa (Tx (Zb rfl) .(1)) .(1)) hl)
    ·rw[aG c2]at t2
     rw[show Uk w=some (w / 4 % 3) by simp[Uk,c1,c2]];exact VT t1<|(VT t2).trans (DW rfl (Wa (Tx (Zb rfl) .(1)) .(1)) hl)) ⟨rfl,_,_,rfl⟩
 have e2:=YY (sl1:=[]) (fi:=λsl=>bnd (?b sl) YF) (sl:=[some (Yj ns),some (.int m),some (.o om.length),none,none]) (RP rfl .(0) _) hf;exact ZD (Zh e1<|(Zh e2).trans (Zw (Zb rfl)))
end
abbrev Mx:=List (iO)
def X2(qF:Mx)(a b:Nat):Bool:=(qF.getD a []).getD b false
def U2(qF:Mx)(a b:Nat)(v:Bool):Mx:=qF.set a ((qF.getD a []).set b v)
def Qz(a:Nat)(s:Int × Mx)(b:Nat):Int × Mx:=(s.1 / 2,U2 (U2 s.2 a b (decide (s.1 % 2=1))) b a (decide (s.1 % 2=1)))
def HL(s:Int × Mx)(a:Nat):Int × Mx:=(List.range a).foldl (Qz a) s
def Gh(ns:iK):Int:=if ns.getD 2 0 % 3=0 then 2097151 else ns.getD 1 0 % 2097152
def V9(ns:iK)(m a:Nat):Int × Mx:=(List.range a).foldl HL (Gh ns,List.replicate m (List.replicate m false))
def TY(ns:iK)(m:Nat):Mx:=(V9 ns m m).2
structure Lk(m:Nat)(qF:Mx):Prop where
 len:qF.length=m
 row:∀a,a<m->(qF.getD a []).length=m
 sym:∀a b,X2 qF a b=X2 qF b a
 dg:∀a,X2 qF a a=false
def JL{qF:Mx}{a b i:Nat}{v:Bool}(ha:a<qF.length):(U2 qF a b v).getD i []=if i=a then (qF.getD a []).set b v else qF.getD i []:=by
 unfold U2;rw[aT,g6];by_cases h:a=i
 ·subst h;simp[ha]
 ·rw[aD h,aD (cI h),aT]
def HU{qF:Mx}{a b i j:Nat}{v:Bool}(ha:a<qF.length)(hb:b<(qF.getD a []).length):X2 (U2 qF a b v) i j=if i=a/\j=b then v else X2 qF i j:=by
 unfold X2;rw[JL ha];by_cases h:i=a
 ·subst h
  rw[aC rfl,aT,g6];by_cases h2:b=j
  ·subst h2;simp only[aC rfl,aC hb];simp
  ·rw[aD h2,aD (λz=>h2 z.2.symm),← aT]
 ·rw[aD h,aD (λz=>h z.1)]
def Rn(qF:Mx)(a b:Nat)(v:Bool):(U2 qF a b v).length=qF.length:=by simp[U2]
def VY{qF:Mx}{a b i:Nat}{v:Bool}(ha:a<qF.length):((U2 qF a b v).getD i []).length=(qF.getD i []).length:=by
 rw[JL ha];by_cases h:i=a
 ·subst h;simp
 ·rw[aD h]
def Lk.step{m:Nat}{qF:Mx}(L:Lk m qF){a b:Nat}(ha:a<m)(hb:b<a)(v:Bool):Lk m (U2 (U2 qF a b v) b a v):=by
 have h1:a<qF.length:=L.len ▸ ha
 have h2:b<(qF.getD a []).length:=by rw[L.row a ha];omega
 have h3:b<(U2 qF a b v).length:=by rw[Rn,L.len];omega
 have h4:a<((U2 qF a b v).getD b []).length:=by rw[VY h1,L.row b .(0)];exact ha
 have at2:∀i j,X2 (U2 (U2 qF a b v) b a v) i j=if i=b/\j=a then v else if i=a/\j=b then v else X2 qF i j:=λi j=>by
  rw[HU h3 h4,HU h1 h2]
 refine⟨by rw[Rn,Rn,L.len],λi hi=>by rw[VY h3,VY h1,L.row i hi],λi j=>?_,λi=>?_⟩
 ·rw[at2,at2]
  by_cases e1:i=b/\j=a
  ·rw[aC e1,aD .(0),aC ⟨e1.2,e1.1⟩]
  ·rw[aD e1]
   by_cases e2:i=a/\j=b
   ·rw[aC e2,aC ⟨e2.2,e2.1⟩]
   ·rw[aD e2,aD .(0),aD .(0),L.sym]
 ·rw[at2,aD .(0),aD .(0),L.dg]
def Lk.zero(m:Nat):Lk m (List.replicate m (List.replicate m false)):=by
 have z:∀a b,X2 (List.replicate m (List.replicate m false)) a b=false:=λa b=>by
  unfold X2;rw[aT,aT,dM];by_cases h:a<m
  ·rw[aC h]
   show((List.replicate m false)[b]?).getD false=false;rw[dM];by_cases h2:b<m
   ·rw[aC h2];rfl
   ·rw[aD h2];rfl
  ·rw[aD h];rfl
 refine⟨.(2),λa ha=>?_,λa b=>by rw[z,z],λa=>z a a⟩;rw[aT,dM,aC ha];simp
def Lk.row_to{m:Nat}{s:Int × Mx}(L:Lk m s.2){a:Nat}(ha:a<m):∀k,k<=a->Lk m ((List.range k).foldl (Qz a) s).2
 |0,_=>L
 |k+1,h=>by
  rw[df,dG];exact Lk.step (Lk.row_to L ha k .(0)) ha .(0) _
def Lk.to(ns:iK)(m:Nat):∀a,a<=m->Lk m (V9 ns m a).2
 |0,_=>Lk.zero m
 |a+1,h=>by
  unfold V9;rw[df,dG];exact Lk.row_to (Lk.to ns m a .(0)) .(0) a (aM _)
def Oa(ns:iK)(m:Nat):Lk m (TY ns m):=Lk.to ns m m (aM _)
section
variable(c:CA){om:iV}
def NT{f:FE}{mk:Wv->Sl}{x:Ob}:∀{l:iR} {om:iV},(∀w∈l,∀om,f (mk w) om=(.o om.length)\(om++[x]))->Xk Xl f mk l om=((List.range l.length).map λi=>.o (om.length+i))\(om++List.replicate l.length x)
 |[],om,_=>by simp[Xk,L2.ret]
 |w::l,om,h=>by
  have ih:=NT (l:=l) (om:=om++[x]) (λy hy=>h y (.tail _ hy));have h1:=h w (.head _) om;show bnd (Z0 (Xl (mk w))) (MB (Xk Xl f mk l) (f (mk w))) om=_;have c1:Z0 (f (mk w)) om=(.o om.length)\(om++[x]):=by simp[Z0,h1]
  have c2:bnd (Z0 (Xl (mk w))) (MB (Xk Xl f mk l) (f (mk w))) om=bnd (Z0 (f (mk w))) (λx=>bnd (Xk Xl f mk l) λxs=>L2.ret (x::xs)) om:=rfl;rw[c2,Zm c1,Zm ih]
  have e1:(List.range l.length).map (λi=>Wv.o ((om++[x]).length+i))=((List.range l.length).map Nat.succ).map λi=>Wv.o (om.length+i):=by
   rw[bA];refine cP λi _=>?_
   show Wv.o _=Wv.o _;rw[aV]
   congr 1
   show om.length+1+i=om.length+(i+1);omega
  rw[e1,bI,List.range_succ_eq_map,cO,bT];rfl
abbrev GZ(r:iO):Ob:=.lst (r.map .bl)
abbrev BA(n m:Nat):Ob:=.lst ((List.range m).map λi=>.o (n+i))
abbrev XX(om:iV)(m:Nat)(qF:Mx):iV:=om++(qF.map GZ++[BA om.length m])
def JP{m:Nat}{qF:Mx}(hr:qF.length=m):(XX om m qF)[om.length+m]?=some (BA om.length m):=by
 subst hr;rw[bK .(0),bK .(2)];simp
def KW{m i:Nat}{qF:Mx}(hi:i<qF.length):(XX om m qF)[om.length+i]?=some (GZ (qF.getD i [])):=by
 rw[bK .(0),aZ .(6)];simp[hi]
def DA{m i jx:Nat}{qF:Mx}{v:Bool}(hi:i<qF.length):(XX om m qF).set (om.length+i) (.lst (((qF.getD i []).map Wv.bl).set jx (.bl v)))=XX om m (U2 qF i jx v):=by
 rw[cx _ _ .(0),List.set_append_left _ _ .(6)];unfold XX U2;rw[f6,eJ]
 congr 3
 simp[f6]
def KQ{fe:FE}{m i jx p q:Nat}{qF:Mx}{v:Bool}{sl:Sl}(hr:qF.length=m)(hi:i<m)(hj:jx<(qF.getD i []).length)(he:fe sl (XX om m qF)=(.bl v)\XX om m qF)(h3:sl[3]?=↑(.o (om.length+m)))(hp:sl[p]?=↑(.int i))(hq:sl[q]?=↑(.int jx)):Xn fe (f2 kIx ?d (Za p)) (Za q) sl (XX om m qF)=(.nx,sl)\XX om m (U2 qF i jx v):=by
 have e1:f2 kIx ?d (Za p) sl (XX om m qF)=(.o (om.length+i))\XX om m qF:=by
  refine v2 h3 hp<|ZP (xs:=(List.range m).map λi=>.o (om.length+i)) ?_ (by simp[hi]);show(match (XX om m qF)[om.length+m]? with|some (.lst ws)=>some ws|_=>none)=_;rw[JP hr]
 unfold Xn;rw[Zm he,Zm e1,Zm (Zb hq)];refine Zm (a:=()) (qH:=XX om m (U2 qF i jx v)) ?_<|rfl
 have e2:Vs (XX om m qF) (.o (om.length+i))=some (om.length+i,(qF.getD i []).map Wv.bl):=by
  show(match (XX om m qF)[om.length+i]? with|some (.lst ws)=>some (om.length+i,ws)|_=>none)=_;rw[KW .(0)]
 have e3:ixN ((qF.getD i []).map Wv.bl).length (jx:Int)=some jx:=by
  rw[aB];unfold ixN;rw[aC .(0),aC .(0),cu]
 unfold Gc;rw[e2];show(match ixN ((qF.getD i []).map Wv.bl).length (jx:Int) with|some j=>some (Except.ok (),(XX om m qF).set (om.length+i) (.lst (((qF.getD i []).map Wv.bl).set j (.bl v))))|none=>none)=_;rw[e3];show some (Except.ok (),(XX om m qF).set (om.length+i) (.lst (((qF.getD i []).map Wv.bl).set jx (.bl v))))=_;rw[DA .(0)]
end
section
variable(c:CA){om:iV}
def Eh(w:Wv)(n:Nat):(List.replicate n [w]).flatten=List.replicate n w:=by
 induction n with
 |zero=>rfl
 |succ n ih=>rw[cO,dH,ih];rfl
def Lo{b:Bool}{om:iV}(h:b=true):chk b om=()\om:=by subst h;rfl
def mk_rep{w:Wv}{n i:Nat}(hn:n<=60)(sl:Sl)(om:iV)(h:sl[i]?=↑(.int n)):AV Wb #[fC w] (Za i) sl om=(.o om.length)\(om++[.lst (List.replicate n w)]):=by
 have hl:=ZT
 have e:CY [w] (.int n) om=(List.replicate n w)\om:=by
  have hd:decide (-(2 ^ 63)<=(n:Int)/\(n:Int)<2 ^ 63/\[w].length * (n:Int).toNat<=lim)=true:=by
   rw[bY];exact⟨.(0),.(0),by show 1 * (n:Int).toNat<=lim;omega⟩
  unfold CY;dsimp only;rw[Zm (Lo hd),cu,Eh];rfl
 unfold AV;rw[Zm (Ze Zp Zj),Zm (Lo (bG (show [w].length<=lim by show 1<=lim;omega))),Zm (Zb h),Zm e];have:(List.replicate n w).length<=lim:=by rw[dX];omega
 unfold Wb;rw[aC this];rfl
abbrev P1(n m:Nat)(ns:iK)(bits:Int)(x4 x5:Option Wv):Sl:=[some (Yj ns),some (.int m),some (.int bits),some (.o (n+m)),x4,x5]
def Aj{m a b:Nat}{qF:Mx}{bits:Int}(ns:iK)(L:Lk m qF)(ha:a<m)(hb:b<a):Ud c (P1 om.length m ns bits (some (.int a)) (some (.int b))) (XX om m qF)=(.nx,P1 om.length m ns (Qz a (bits,qF) b).1 (some (.int a)) (some (.int b)))\XX om m (Qz a (bits,qF) b).2:=by
 have v1:∀qF:Mx,f2 kEq (f2 YI ?c ?C) ?B (P1 om.length m ns bits (some (.int a)) (some (.int b))) (XX om m qF)=(.bl (decide (bits % 2=1)))\XX om m qF:=λrows=>Zr (Wa (Zb rfl) .(1)) Zp<|XM _ _ _
 have s1:=KQ (om:=om) (m:=m) (i:=a) (jx:=b) (p:=4) (q:=5) (qF:=qF) L.len ha (by rw[L.row a ha];omega) (v1 qF) rfl rfl rfl;have s2:=KQ (om:=om) (m:=m) (i:=b) (jx:=a) (p:=5) (q:=4) (qF:=U2 qF a b (decide (bits % 2=1))) (by rw[Rn,L.len]) .(0) (by rw[VY (by rw[L.len];exact ha),L.row b .(0)];exact ha) (v1 _) rfl rfl rfl;exact Zh s1<|(Zh s2).trans (Zt (i:=2) (Tx (Zb rfl) .(1)))
def lk_row{m a:Nat}{s:Int × Mx}(ns:iK)(L:Lk m s.2)(ha:a<m)(hm:m<=60)(x5:Option Wv):∃y5,Ul c (P1 om.length m ns s.1 (some (.int a)) x5) (XX om m s.2)=(.nx,P1 om.length m ns (HL s a).1 (some (.int a)) y5)\XX om m (HL s a).2:=by
 obtain⟨jc,iu,hf,y,rfl,rfl⟩:=WU (T:=tgN 5) (S:=Ud c) (n:=a) (λb sl iu=>∃y,sl=P1 om.length m ns ((List.range b).foldl (Qz a) s).1 (some (.int a)) y/\iu=XX om m ((List.range b).foldl (Qz a) s).2)
  (sl:=P1 om.length m ns s.1 (some (.int a)) x5) (om:=XX om m s.2) (λb hb sl iu ⟨y,h1,h2⟩=>by
   subst h1 h2;refine⟨_,.nx,_,_,rfl,Aj c ns (Lk.row_to L ha b .(0)) ha hb,.inl rfl,some (.int b),?_,?_⟩
   ·rw[df,dG];rfl
   ·rw[df,dG];rfl) ⟨x5,rfl,rfl⟩
 exact⟨y,YY (sl1:=[]) (RP rfl (by have:=ZT;omega) _) hf⟩
abbrev Yw(r:iO):Wv:=.lst (r.map .bl)
def ET(ns:iK){m:Nat}(hm:m<=60)(om:iV):WN c [Yj ns,.int m] om=(.lst ((TY ns m).map Yw))\om:=by
 have ja:=ZT;have cell:∀(x:Option Wv) (k:Nat),fA (kN 2 (Zq c)) #[?a,fC (.int k)] [some (Yj ns),some (.int m),x,none,none,none] om=(.int (ns.getD k 0))\om:=λx k=>SN c rfl Zp
 have s1:ZC 2 (f2 YI (fA (kN 2 (Zq c)) #[?a,?B]) ?K) [some (Yj ns),some (.int m),none,none,none,none] om=(.nx,[some (Yj ns),some (.int m),some (.int (ns.getD 1 0 % 2097152)),none,none,none])\om:=Zt (i:=2) (Wa (cell none 1) .(1));have t1:fB (f2 kEq (f2 YI (fA (kN 2 (Zq c)) #[?a,?C]) ?D) ?A) [some (Yj ns),some (.int m),some (.int (ns.getD 1 0 % 2097152)),none,none,none] om=_:=N2 (Wa (cell _ 2) .(1))
 have s2:sIf (fB (f2 kEq (f2 YI (fA (kN 2 (Zq c)) #[?a,?C]) ?D) ?A)) (ZC 2 ?L) Yr [some (Yj ns),some (.int m),some (.int (ns.getD 1 0 % 2097152)),none,none,none] om=(.nx,[some (Yj ns),some (.int m),some (.int (Gh ns)),none,none,none])\om:=by
  unfold Gh;by_cases h:ns.getD 2 0 % 3=0
  ·rw[bG h]at t1
   rw[aC h];exact Z9 t1<|Zt (i:=2) Zp
  ·rw[aG h]at t1
   rw[aD h];exact ZM t1
 have hz:om++List.replicate m (Ob.lst (List.replicate m (.bl false)))++[BA om.length m]=XX om m (V9 ns m 0).2:=by
  show _=om++((List.replicate m (List.replicate m false)).map GZ++[BA om.length m]);have e:GZ (List.replicate m false)=Ob.lst (List.replicate m (.bl false)):=by unfold GZ;rw[List.map_replicate]
  rw[bT,List.map_replicate,e]
 have s3:ZC 3 (Yk Wb [1] (λsl=>bnd (?b sl) YF) Xl (Sr c)) [some (Yj ns),some (.int m),some (.int (Gh ns)),none,none,none] om=(.nx,P1 om.length m ns (V9 ns m 0).1 none none)\XX om m (V9 ns m 0).2:=by
  refine Zt (i:=3) (w:=.o (om.length+m)) ?_;refine(XH (ws:=Vj m) (qH:=om) (RP rfl .(0) om) (by rw[WQ];omega) (NT (x:=.lst (List.replicate m (.bl false))) (λw _ om=>mk_rep (i:=1) hm _ om rfl))).trans ?_;rw[WQ,← hz];unfold Wb;rw[aC (by rw[aB,cB];omega)];unfold newO;rw[aV,dX]
 obtain⟨jc,iu,hf,y4,y5,rfl,rfl⟩:=WU (T:=tgN 4) (S:=Ul c) (n:=m) (λa sl iu=>∃y4 y5,sl=P1 om.length m ns (V9 ns m a).1 y4 y5/\iu=XX om m (V9 ns m a).2)
  (sl:=P1 om.length m ns (V9 ns m 0).1 none none) (om:=XX om m (V9 ns m 0).2) (λa ha sl iu ⟨y4,y5,h1,h2⟩=>by
   subst h1 h2;obtain⟨z5,e⟩:=lk_row c (om:=om) ns (Lk.to ns m a .(0)) ha hm y5;have e2:V9 ns m (a+1)=HL (V9 ns m a) a:=by unfold V9;rw[df,dG];rfl
   exact⟨_,.nx,_,_,rfl,e,.inl rfl,_,z5,by rw[e2],by rw[e2]⟩) ⟨none,none,rfl,rfl⟩
 have e4:=YY (sl1:=[]) (fi:=λsl=>bnd (?b sl) YF) (sl:=P1 om.length m ns (V9 ns m 0).1 none none) (RP rfl .(0) _) hf;have hg:UP c [Yj ns,.int m] om=(.o (om.length+m))\XX om m (TY ns m):=ZD (Zh s1<|(Zh s2).trans (Zh s3<|(Zh e4).trans (Zw (Zb rfl))));have L:=Oa ns m;generalize TY ns m=qF at hg L ⊢;have ho:=JP (om:=om) L.len;have hrow:∀i,i<m->(XX om m qF)[om.length+i]?=some (GZ (qF.getD i [])):=λi hi=>KW (by rw[L.len];exact hi)
 have hrows:qF.map Yw=(List.range m).map λi=>Yw (qF.getD i []):=by
  refine de λi=>?_
  rw[bB,bB];by_cases h:i<m
  ·rw[dm h,aK (by rw[L.len];exact h)]
   simp[aT,aK (show i<qF.length by rw[L.len];exact h)]
  ·rw[bP (by rw[L.len];omega),bP .(6)]
   rfl
 have pl:∀r:iO,smalls om.length (r.map Wv.bl):=λr=>by
  induction r with
  |nil=>trivial
  |cons b r ih=>exact⟨trivial,ih⟩
 refine tidyG_ok hg (.own (eT _ _) ho ?_) ?_
 ·rw[hrows]
  have key:∀l:iL,(∀i∈l,i<m)->FzWs (XX om m qF) om.length (l.map λi=>.o (om.length+i)) (l.map λi=>Yw (qF.getD i [])):=λl=>by
   induction l with
   |nil=>exact λ_=>.nil
   |cons i l ih=>exact λh=>.cons (.own (eT _ _) (hrow i (h i (.head _))) (FzWs.of_smalls (pl _))) (ih λj hj=>h j (.tail _ hj))
  exact key _ λi hi=>bR.mp hi
 ·refine(HP (k:=3) (eT _ _) ho).trans ?_
  rw[bA,hrows];refine cE Wv.lst (cP λi hi=>?_);refine(HP (k:=2) (eT _ _) (hrow i (bR.mp hi))).trans ?_;refine cE Wv.lst ?_;rw[bA];exact cP λb _=>fzW_bl _ _ _ b
end
def XT(l:iL):iR:=l.map λ(k:Nat)=>Wv.int k
def UG(qF:Mx)(n k:Nat):iL:=(List.range n).filter λb=>X2 qF k b
def HW(qF:Mx)(f:iF)(k je h:Nat):Bool:=!decide (h=k)&&((at' f h).isSome&&(decide (h=je) || X2 qF h je))
def Rm(qF:Mx)(f:iF)(n k je:Nat):iL:=(List.range n).filter (HW qF f k je)
def S5(l:iL)(i:Int):Nat:=l.getD (i % l.length).toNat 0
def UR(w:Int)(k:Nat)(qF:Mx)(f:iF):Option Od:=
 bif (at' f k).isNone then none
 else bif (UG qF f.length k).isEmpty || decide (w % 4=0) then some .stand
 else bif decide (w % 4<3) then some (.move (S5 (UG qF f.length k) (w / 4)))
 else bif (Rm qF f f.length k (S5 (UG qF f.length k) (w / 4))).isEmpty then some .stand
 else some (.help (S5 (Rm qF f f.length k (S5 (UG qF f.length k) (w / 4))) (w / 28)) (S5 (UG qF f.length k) (w / 4)))
def Fq(qF:Mx)(f:iF)(k:Nat):Option Od->Prop
 |none=>at' f k=none
 |some .stand=>(at' f k).isSome=true
 |some (.move g)=>(at' f k).isSome=true/\g<f.length/\X2 qF k g=true
 |some (.help h g)=>(at' f k).isSome=true/\h<f.length/\g<f.length/\h≠k/\(at' f h).isSome=true/\X2 qF k g=true/\(h=g\/X2 qF h g=true)
def Oj{l:iL}(i:Int)(h:l.isEmpty=false):S5 l i∈l:=by
 have hl:0<l.length:=by cases l with|nil=>cases h|cons _ _=>simp
 have h1:0<=i % (l.length:Int):=eF _ .(0);have h2:i % (l.length:Int)<l.length:=dw _ .(0);have h3:(i % (l.length:Int)).toNat<l.length:=by omega
 unfold S5;rw[aT,aK h3];exact du _
def Ia(w:Int)(k:Nat)(qF:Mx)(f:iF):Fq qF f k (UR w k qF f):=by
 unfold UR;cases h0:(at' f k).isNone with
 |true=>exact Option.isNone_iff_eq_none.mp h0
 |false=>
  have hs:(at' f k).isSome=true:=by cases h:at' f k with|none=>rw[h]at h0;cases h0|some _=>rfl
  show Fq qF f k (bif (UG qF f.length k).isEmpty || decide (w % 4=0) then some .stand else _);cases h1:((UG qF f.length k).isEmpty || decide (w % 4=0)) with
  |true=>exact hs
  |false=>
   have hn:(UG qF f.length k).isEmpty=false:=(Bool.or_eq_false_iff.mp h1).1;have hm:S5 (UG qF f.length k) (w / 4)∈List.range f.length/\X2 qF k (S5 (UG qF f.length k) (w / 4))=true:=aQ.mp (Oj (w / 4) hn);show Fq qF f k (bif decide (w % 4<3) then _ else _);generalize S5 (UG qF f.length k) (w / 4)=g at hm ⊢;cases h2:decide (w % 4<3) with
   |true=>exact⟨hs,bR.mp hm.1,hm.2⟩
   |false=>
    show Fq qF f k (bif (Rm qF f f.length k g).isEmpty then _ else _);cases h3:(Rm qF f f.length k g).isEmpty with
    |true=>exact hs
    |false=>
     have ha:S5 (Rm qF f f.length k g) (w / 28)∈List.range f.length/\HW qF f k g (S5 (Rm qF f f.length k g) (w / 28))=true:=aQ.mp (Oj (w / 28) h3);generalize S5 (Rm qF f f.length k g) (w / 28)=h at ha ⊢;have hb:=ha.2;simp only[HW,bW,eO,decide_eq_false_iff_not,dS,decide_eq_true_eq]at hb;exact⟨hs,bR.mp ha.1,bR.mp hm.1,hb.1,hb.2.1,hm.2,hb.2.2⟩
section
variable(c:CA){om:iV}
def Uv{cT:FT}{f:FE}{mk:Wv->Sl}{om:iV}{n:Nat}(p:Nat->Bool)(g:Nat->Wv)(hc:∀k,k<n->cT (mk (.int (k:Nat))) om=(p k)\om)(hf:∀k,k<n->p k=true->f (mk (.int (k:Nat))) om=(g k)\om):Xk cT f mk (Vj n) om=(((List.range n).filter p).map g)\om:=by
 rw[SJ (λw=>match w with|.int i=>p i.toNat|_=>false) (λw=>match w with|.int i=>g i.toNat|_=>.non)]
 ·rw[Jg,bA]
  have e:((List.range n).filter λk=>(match Wv.int (k:Nat) with|.int i=>p i.toNat|_=>false))=(List.range n).filter p:=fM λk _=>by
   show p ((k:Nat):Int).toNat=_;rw[cu]
  rw[e];refine cE (λl=>some (Except.ok l,om)) (cP λk _=>?_);show g ((k:Nat):Int).toNat=_;rw[cu]
 ·intro w hw
  obtain⟨k,hk,rfl⟩:=KO hw;show _=some (Except.ok (p ((k:Nat):Int).toNat),om);rw[cu];exact hc k hk
 ·intro w hw hp
  obtain⟨k,hk,rfl⟩:=KO hw;have hp:p ((k:Nat):Int).toNat=true:=hp;rw[cu]at hp;show _=some (Except.ok (g ((k:Nat):Int).toNat),om);rw[cu];exact hf k hk hp
def D8{sl:Sl}{m a b p q r:Nat}{qF:Mx}(L:Lk m qF)(ha:a<m)(hb:b<m)(hp:sl[p]?=↑(.lst (qF.map Yw)))(hq:sl[q]?=↑(.int a))(hr:sl[r]?=↑(.int b)):f2 kIx (f2 kIx (Za p) (Za q)) (Za r) sl om=(.bl (X2 qF a b))\om:=
 (Zr (v2 hp hq<|Q4 (xs:=qF) rfl (by rw[L.len];exact ha) []) (Zb hr)).trans (Q4 (f:=Wv.bl) (xs:=qF.getD a []) rfl (by rw[L.row a ha];exact hb) false)
def HK{sl:Sl}{i:Nat}{ws:iR}(h:sl[i]?=↑(.lst ws)):Xm (Za i) sl om=(!ws.isEmpty)\om:=by
 unfold Xm;rw[Zm (Zb h)];rfl
def Go{sl:Sl}{i:Nat}{l:iL}{fa:FE}{q w:Int}(h:sl[i]?=↑(.lst (XT l)))(hl:l.isEmpty=false)(ha:fa sl om=(.int w)\om):f2 kIx (Za i) (f2 YI fa (fA Ws #[Za i])) sl om=(.int (S5 l w))\om:=by
 have h0:0<l.length:=by cases l with|nil=>cases hl|cons _ _=>simp
 have iZ:fA Ws #[Za i] sl om=(.int l.length)\om:=ZB (Ze (Zb h) Zj)<|(TD rfl).trans (by simp[XT]);have h1:0<=w % (l.length:Int):=eF _ .(0);have h2:w % (l.length:Int)<l.length:=dw _ .(0);have hm:f2 YI fa (fA Ws #[Za i]) sl om=(.int (((w % l.length).toNat:Nat):Int))\om:=Zr ha iZ<|(by rw[Int.toNat_of_nonneg h1];simp[kIc,L2.ret,show 0<l.length from h0]);refine(Zr (Zb h) hm).trans ?_;exact Q4 (f:=λ(k:Nat)=>Wv.int k) (xs:=l) (k:=(w % l.length).toNat) rfl .(0) 0
def Jt(w:Int){k:Nat}{qF:Mx}{f:iF}(L:Lk f.length qF)(hk:k<f.length)(hn:f.length<=60)(om:iV){sw:Wv}(hw:Y4 om sw=some (f.map ZK):=by rfl):Y1 c [.int w,.int k,.lst (qF.map Yw),sw] om=(odW (UR w k qF f))\om:=by
 have ja:=ZT;have iZ:(f.map ZK).length<=lim:=by rw[aB];omega
 generalize hNear:UG qF f.length k=near;have hnl:near.length<=60:=by rw[← hNear];exact bL (aI _ _) (by simpa using hn)
 have s1:ZC 4 (Yk ZL [1,2] (λsl=>bnd ((fA Ws #[?d]) sl) YF) (Uw c) (UH c)) [some (.int w),some (.int k),some (.lst (qF.map Yw)),some sw,none,none,none] om=(.nx,[some (.int w),some (.int k),some (.lst (qF.map Yw)),some sw,some (.lst (XT near)),none,none])\om:=by
  refine Zt (i:=4) (w:=.lst (XT near)) ?_;refine(XH (ws:=Vj (f.map ZK).length) (qH:=om) (M0 rfl hw iZ) (by rw[WQ];exact iZ) (Uv (λb=>X2 qF k b) (λb=>.int (b:Nat)) (λb hb=>Y3 (D8 (p:=2) (q:=1) (r:=0) L hk (by rw[aB]at hb;exact hb) rfl rfl rfl)) (λb hb _=>Zb rfl))).trans ?_;rw[aB];show ZL (XT (UG qF f.length k)) om=_;rw[hNear];unfold ZL;rw[aC (by simp[XT];omega)];rfl
 have sk:=Q4 (k:=k) hw hk none;have t2:fB (f1 VA (f2 kIx ?d ?b)) [some (.int w),some (.int k),some (.lst (qF.map Yw)),some sw,some (.lst (XT near)),none,none] om=(at' f k).isNone\om:=ZQ (XU (v2 rfl rfl<|sk)<|Tv _ _);unfold UR;rw[hNear];generalize (at' f k).isNone=b2 at t2 ⊢;cases b2 with
 |true=>exact ZD (Zh s1<|Ys (Z9 t2<|Zw Zp))
 |false=>
  have t3:fOr (JA (Xm ?e)) (fB (f2 kEq (f2 YI ?a ?E) ?A)) [some (.int w),some (.int k),some (.lst (qF.map Yw)),some sw,some (.lst (XT near)),none,none] om=(near.isEmpty || decide (w % 4=0))\om:=by
   refine fOr_b (LZ (HK rfl)<|(by simp[XT])) λ_=>N2 (Wa (Zb rfl) .(1))
  show Y1 c _ om=(odW (bif near.isEmpty || decide (w % 4=0) then some .stand else _))\om;cases h3:(near.isEmpty || decide (w % 4=0)) with
  |true=>
   rw[h3]at t3;exact ZD (Zh s1<|(Zh (ZM t2)).trans (Ys (Z9 t3<|Zw (ZB (Ze Zp Zj)<|YX .(2)))))
  |false=>
   rw[h3]at t3;have jw:near.isEmpty=false:=(Bool.or_eq_false_iff.mp h3).1;have kX:=Oj (w / 4) jw;rw[← hNear]at kX;have j0:=bR.mp (aQ.mp kX).1;rw[hNear]at j0;have s4:ZC 5 (f2 kIx ?e (f2 YI (f2 Ue ?a ?E) (fA Ws #[?e]))) [some (.int w),some (.int k),some (.lst (qF.map Yw)),some sw,some (.lst (XT near)),none,none] om=_:=Zt (i:=5) (Go (q:=0) rfl jw (Tx (Zb rfl) .(1)));generalize S5 near (w / 4)=g at s4 j0 ⊢;have t5:fB (f2 kLt (f2 YI ?a ?E) ?D) [some (.int w),some (.int k),some (.lst (qF.map Yw)),some sw,some (.lst (XT near)),some (.int g),none] om=(decide (w % 4<3))\om:=ZQ (Zr (Wa (Zb rfl) .(1)) Zp<|(by simp[kI,L2.ret]));have pre:=λ{r:Option (Except qJ (Fl × Sl) × iV)} {S:FS} (h:S [some (.int w),some (.int k),some (.lst (qF.map Yw)),some sw,some (.lst (XT near)),some (.int g),none] om=r)=>Zh s1<|(Zh (ZM (S1:=Ye (fC .non)) t2)).trans (Zh (ZM (S1:=Ye (fA YU #[fC (.str "stand")])) t3)<|(Zh s4).trans h)
   show Y1 c _ om=(odW (bif decide (w % 4<3) then some (.move g) else _))\om;cases h5:decide (w % 4<3) with
   |true=>
    rw[h5]at t5;exact ZD (pre (Ys (Z9 t5<|Zw (ZB (Ze Zp (Ze (Zb rfl) Zj))<|YX .(2)))))
   |false=>
    rw[h5]at t5;generalize hAble:Rm qF f f.length k g=able;have hal:able.length<=60:=by rw[← hAble];exact bL (aI _ _) (by simpa using hn)
    have s6:ZC 6 (Yk ZL [1,2,3,5] (λsl=>bnd ((fA Ws #[?d]) sl) YF) (UB c) (Ux c)) [some (.int w),some (.int k),some (.lst (qF.map Yw)),some sw,some (.lst (XT near)),some (.int g),none] om=(.nx,[some (.int w),some (.int k),some (.lst (qF.map Yw)),some sw,some (.lst (XT near)),some (.int g),some (.lst (XT able))])\om:=by
     refine Zt (i:=6) (w:=.lst (XT able)) ?_;refine(XH (ws:=Vj (f.map ZK).length) (qH:=om) (M0 rfl hw iZ) (by rw[WQ];exact iZ) (Uv (HW qF f k g) (λb=>.int (b:Nat)) (λb hb=>?_) (λb hb _=>Zb rfl))).trans ?_
     ·rw[aB]at hb
      refine Up (ZQ (v2 rfl rfl<|D0 _ _ _)) λ_=>Up (ZQ (XU (v2 (i:=3) (j:=0) rfl rfl<|Q4 (k:=b) hw hb none)<|Mh _ _)) λ_=>?_
      exact fOr_b (ZQ (v2 rfl rfl<|eq_nat _ _ _)) λ_=>Y3 (D8 (p:=2) (q:=0) (r:=4) L hb j0 rfl rfl rfl)
     ·rw[aB]
      show ZL (XT (Rm qF f f.length k g)) om=_;rw[hAble];unfold ZL;rw[aC (by simp[XT];omega)];rfl
    have t7:JA (Xm ?g) [some (.int w),some (.int k),some (.lst (qF.map Yw)),some sw,some (.lst (XT near)),some (.int g),some (.lst (XT able))] om=able.isEmpty\om:=LZ (HK rfl)<|(by simp[XT]);show Y1 c _ om=(odW (bif able.isEmpty then some .stand else _))\om;cases h7:able.isEmpty with
    |true=>
     rw[h7]at t7;exact ZD (pre (Zh (ZM t5)<|(Zh s6).trans (Ys (Z9 t7<|Zw (ZB (Ze Zp Zj)<|YX .(2))))))
    |false=>
     rw[h7]at t7;exact ZD (pre (Zh (ZM t5)<|(Zh s6).trans (Zh (ZM t7)<|Zw (ZB (Ze Zp (Ze (Go (q:=0) rfl h7 (Tx (Zb rfl) .(1))) (Ze (Zb rfl) Zj)))<|YX .(2)))))
end
structure Givn(qF:Mx)(f:iF)(qD:iW):Prop where
 lk:Lk f.length qF
 len:qD.length=f.length
 few:f.length<=60
 ok:∀k,k<f.length->Fq qF f k (at' qD k)
def UU{α:Type}{l:List (Option α)}{k:Nat}(h:¬ k<l.length):at' l k=none:=by
 unfold at';rw[aT,bP .(0)];rfl
def Givn.okT{qF:Mx}{f:iF}{qD:iW}(G:Givn qF f qD):OkT qD f:=by
 have dg:∀k g,X2 qF k g=true->g≠k:=λk g h z=>by subst z;rw[G.lk.dg]at h;cases h
 have inr:∀k o,at' qD k=some o->k<f.length:=λk o e=>by
  by_cases h:k<qD.length
  ·rw[← G.len];exact h
  ·rw[UU h]at e;cases e
 refine⟨G.len,by rw[G.len];exact G.few,λk hk=>?_,λk g e=>?_,λk h g e=>?_⟩
 ·have o:=G.ok k (G.len ▸ hk)
  match e:at' qD k,o with
  |none,o=>have o:at' f k=none:=o;rw[o];simp
  |some .stand,o=>exact⟨λ_=>o,λ_=>rfl⟩
  |some (.move g),o=>exact⟨λ_=>o.1,λ_=>rfl⟩
  |some (.help h g),o=>exact⟨λ_=>o.1,λ_=>rfl⟩
 ·have o:=G.ok k (inr k _ e)
  rw[e]at o;exact⟨by rw[G.len];exact o.2.1,dg k g o.2.2⟩
 ·have o:=G.ok k (inr k _ e)
  rw[e]at o;exact⟨by rw[G.len];exact o.2.1,by rw[G.len];exact o.2.2.1,o.2.2.2.1,dg k g o.2.2.2.2.2.1,o.2.2.2.2.1⟩
def VG(qE:Nat)(ns:iK)(qF:Mx)(f:iF):iW:=(List.range f.length).map λk=>UR (ns.getD (qE+k) 0) k qF f
def Ft{qE:Nat}{ns:iK}{qF:Mx}{f:iF}{k:Nat}(h:k<f.length):at' (VG qE ns qF f) k=UR (ns.getD (qE+k) 0) k qF f:=by
 unfold at' VG;rw[aT,bB,dm h];rfl
def Fs(qE:Nat)(ns:iK){qF:Mx}{f:iF}(L:Lk f.length qF)(hf:f.length<=60):Givn qF f (VG qE ns qF f):=
 ⟨L,by simp[VG],hf,λk hk=>by rw[Ft hk];exact Ia ..⟩
end MP
namespace MP
noncomputable section
open PySem L2
def O4(c:CA):FS:=
 (Zx (Xs c.Map "size" ?b ?a)
  (Xs c.Map "links" (λ_=>newO (.dt [])) ?a))
def VC(c:CA):iR->Mw Wv:=Yc 2 (O4 c)
def R9(c:CA):FS:=
 (sIf (fOr (fB (f2 kLt ?b ?A)) (fB (f2 kGe ?b (f1 (ZG c.Map "size") ?a)))) (XR c.NoPlace (Sm ?b SU)) Yr)
def ZA(c:CA):iR->Mw Wv:=Yc 2 (R9 c)
def Hg(c:CA):FS:=
 (Zx (ZR (Zn c.Map "need_place" 2 (ZA c) ?a #[?b]))
  (Zx (ZR (Zn c.Map "need_place" 2 (ZA c) ?a #[?c]))
  (Zx (sIf (fB (f2 kEq ?b ?c)) (XR c.OutOfReach (Sm ?b SU)) Yr)
  (Zx (YW (fC (.bl true)) (f1 (ZG c.Map "links") ?a) (fA YU #[?b,?c]))
  (YW (fC (.bl true)) (f1 (ZG c.Map "links") ?a) (fA YU #[?c,?b]))))))
def SL(c:CA):iR->Mw Wv:=Yc 3 (Hg c)
def LS(c:CA):FS:=
 (Zx (ZR (Zn c.Map "need_place" 2 (ZA c) ?a #[?b]))
  (Zx (ZR (Zn c.Map "need_place" 2 (ZA c) ?a #[?c]))
  (Ye (f2 (Wz false) (fA YU #[?b,?c]) (f1 (ZG c.Map "links") ?a)))))
def U4(c:CA):iR->Mw Wv:=Yc 3 (LS c)
def JT(c:CA):FT:=
 (fB (f2 (Wz false) (fA YU #[?c,?a]) (f1 (ZG c.Map "links") ?b)))
def J6(c:CA):FE:=
 ?a
def Ht(c:CA):FS:=
 (Zx (ZR (Zn c.Map "need_place" 2 (ZA c) ?a #[?b]))
  (Ye (Yk ZL [0,1] (λsl=>bnd ((f1 (ZG c.Map "size") ?a) sl) YF) (JT c) (J6 c))))
def VD(c:CA):iR->Mw Wv:=Yc 2 (Ht c)
def Rq(c:CA):FS:=
 (Zx (Xs c.Board "chart" ?b ?a)
  (Xs c.Board "units" (λ_=>newO (.dk [])) ?a))
def Xh(c:CA):iR->Mw Wv:=Yc 2 (Rq c)
def Lb(c:CA):FS:=
 (Zx (ZR (Zn c.Map "need_place" 2 (ZA c) (f1 (ZG c.Board "chart") ?a) #[?b]))
  (Zx (sIf (fOr (fB (f2 kLt ?c ?A)) (fB (f2 kGt ?c ?F))) (XR c.NoSide (Sm ?c SU)) Yr)
  (Zx (sIf (fB (f2 (Wz false) ?b (f1 (ZG c.Board "units") ?a))) (XR c.Crowded (Sm ?b SU)) Yr)
  (YW ?c (f1 (ZG c.Board "units") ?a) ?b))))
def Vi(c:CA):iR->Mw Wv:=Yc 3 (Lb c)
def Q5(c:CA):FS:=
 (Zx (ZR (Zn c.Map "need_place" 2 (ZA c) (f1 (ZG c.Board "chart") ?a) #[?b]))
  (Ye (J5 (f1 (ZG c.Board "units") ?a) ?b)))
def Zz(c:CA):iR->Mw Wv:=Yc 2 (Q5 c)
def Rr(c:CA):FS:=
 (sIf (fB (f1 VA (Zn c.Board "side_at" 2 (Zz c) ?a #[?b]))) (XR c.NoUnit (Sm ?b SU)) Yr)
def Yg(c:CA):iR->Mw Wv:=Yc 2 (Rr c)
def MZ(c:CA):FS:=
 (Ye (RO ZL (f1 (ZG c.Board "units") ?a)))
def ZJ(c:CA):iR->Mw Wv:=Yc 1 (MZ c)
def Uh(c:CA):FS:=
 (sIf (Xm (f2 kIx (f2 kIx ?b ?d) ?e)) (ZR (Zn c.Map "link" 3 (SL c) ?c #[f2 WD (f2 kIx ?a ?B) ?d,f2 WD (f2 kIx ?a ?B) ?e])) Yr)
def Sw(c:CA):FS:=
 (Wf (λsl=>bnd (?d sl) YF) (tgN 4) (Uh c))
def Ly(c:CA):FS:=
 (Zx (ZC 2 (fA (XS c.Map 2 (VC c)) #[f2 kIx ?a ?C]))
  (Zx (Wf (λsl=>bnd ((f2 kIx ?a ?A) sl) YF) (tgN 3) (Sw c))
  (Ye ?c)))
def Ve(c:CA):iR->Mw Wv:=Yc 5 (Ly c)
def SG(c:CA):FS:=
 (sIf (fB (f1 U6 (f2 kIx ?c ?e))) (ZR (Zn c.Board "post" 3 (Vi c) ?d #[f2 WD (f2 kIx ?a ?B) ?e,f2 kIx ?c ?e])) Yr)
def Ll(c:CA):FS:=
 (Zx (ZC 3 (fA (XS c.Board 2 (Xh c)) #[fA (kN 2 (Ve c)) #[?a,?b]]))
  (Zx (Wf (λsl=>bnd ((f2 kIx ?a ?A) sl) YF) (tgN 4) (SG c))
  (Ye ?d)))
def Vk(c:CA):iR->Mw Wv:=Yc 5 (Ll c)
end
open PySem L2
def pk(a b:Int):List Key:=[.inl a,.inl b]
def MI{a b x y:Int}:pk a b=pk x y ↔ a=x/\b=y:=by
 unfold pk;constructor
 ·intro h;injection h with h1 h2;injection h2 with h2 _;exact⟨gz h1,gz h2⟩
 ·rintro⟨rfl,rfl⟩;rfl
def MQ{κ:Type}[DecidableEq κ](kvs:List (κ × Wv))(k k':κ)(v:Wv):(kvs.map (λkv=>if kv.1=k then (kv.1,v) else kv)).find? (λkv=>decide (kv.1=k'))=(kvs.find? λkv=>decide (kv.1=k')).map (λkv=>if kv.1=k then (kv.1,v) else kv):=by
 induction kvs with
 |nil=>rfl
 |cons p kvs ih=>
  rw[aS,cH,cH];have e:(if p.1=k then (p.1,v) else p).1=p.1:=by split <;> rfl
  rw[e];cases h:decide (p.1=k') with
  |true=>rfl
  |false=>exact ih
def JD{κ:Type}[DecidableEq κ](kvs:List (κ × Wv))(k k':κ)(v:Wv):UD (Vf kvs k v) k'=if k'=k then some v else UD kvs k':=by
 unfold Vf;by_cases ha:(kvs.any λkv=>decide (kv.1=k))=true
 ·rw[aC ha]
  unfold UD;rw[MQ];by_cases h:k'=k
  ·subst h
   rw[aC rfl];obtain⟨p,hp,e⟩:=eU.mp ha;cases hf:kvs.find? λkv=>decide (kv.1=k') with
   |none=>exact absurd e (fF.mp hf p hp)
   |some q=>
    have hq:=ii hf;have hq:q.1=k':=bC hq;simp[hq]
  ·rw[aD h]
   cases hf:kvs.find? λkv=>decide (kv.1=k') with
   |none=>rfl
   |some q=>
    have hq:=ii hf;have hq:q.1=k':=bC hq;simp[show ¬ q.1=k from λz=>h (hq ▸ z)]
 ·rw[aD ha]
  unfold UD;rw[List.find?_append];have hn:(kvs.find? λkv=>decide (kv.1=k))=none:=fF.mpr λp hp z=>ha (eU.mpr ⟨p,hp,z⟩)
  by_cases h:k'=k
  ·subst h
   rw[aC rfl,hn];simp
  ·rw[aD h]
   cases hf:kvs.find? λkv=>decide (kv.1=k') with
   |none=>simp[show ¬ k=k' from λz=>h z.symm]
   |some q=>rfl
def Nb{κ:Type}[DecidableEq κ](kvs:List (κ × Wv))(k:κ)(v:Wv):(Vf kvs k v).length<=kvs.length+1:=by
 unfold Vf;split
 ·simp
 ·simp
abbrev YT(c:CA)(size:Int)(hl:Nat):Ob:=.ins c.Map [("size",.int size),("links",.o hl)]
abbrev YM(c:CA)(hm hu:Nat):Ob:=.ins c.Board [("chart",.o hm),("units",.o hu)]
section
variable(c:CA){om:iV}{h hl:Nat}{size:Int}
def Yd{C:qJ}{n:Str}{fs:iS}{w:Wv}{sl:Sl}{i:Nat}(hv:sl[i]?=↑(.o h))(hm:om[h]?=some (.ins C fs))(hw:fs.lookup n=some w):f1 (ZG C n) (Za i) sl om=w\om:=by
 refine(XU (Zb hv)).trans ?_;simp[ZG,SC,hm,hw]
def Qu(size:Int)(hl:Nat):List.lookup (Str.ofString "size") [(Str.ofString "size",Wv.int size),(Str.ofString "links",Wv.o hl)]=some (.int size):=by simp[aH,YQ]
def O6(size:Int)(hl:Nat):List.lookup (Str.ofString "links") [(Str.ofString "size",Wv.int size),(Str.ofString "links",Wv.o hl)]=some (.o hl):=by simp[aH,YQ]
def Xa(m:String)(size:Int)(hl:Nat)(h1:m≠"size")(h2:m≠"links"):List.lookup (Str.ofString m) [(Str.ofString "size",Wv.int size),(Str.ofString "links",Wv.o hl)]=none:=by simp[aH,YQ,h1,h2]
def Wx(hm hu:Nat):List.lookup (Str.ofString "chart") [(Str.ofString "chart",Wv.o hm),(Str.ofString "units",Wv.o hu)]=some (.o hm):=by simp[aH,YQ]
def UX(hm hu:Nat):List.lookup (Str.ofString "units") [(Str.ofString "chart",Wv.o hm),(Str.ofString "units",Wv.o hu)]=some (.o hu):=by simp[aH,YQ]
def Z1(m:String)(hm hu:Nat)(h1:m≠"chart")(h2:m≠"units"):List.lookup (Str.ofString m) [(Str.ofString "chart",Wv.o hm),(Str.ofString "units",Wv.o hu)]=none:=by simp[aH,YQ,h1,h2]
def Zu{C:qJ}{fs:iS}(hm:om[h]?=some (.ins C fs)):SC om (.o h)=some (C,fs):=by simp[SC,hm]
def TV(hm:om[h]?=some (YT c size hl)){a:Int}(h0:0<=a)(h1:a<size):ZA c [.o h,.int a] om=.non\om:=by
 have t:fOr (fB (f2 kLt ?b ?A)) (fB (f2 kGe ?b (f1 (ZG c.Map "size") ?a))) [some (.o h),some (.int a)] om=false\om:=by
  refine(GA (ZQ (Zr (Zb rfl) Zp<|show kLt (.int a) (.int 0) om=((.bl false)\om) by simp[kI,L2.ret,show ¬ a<0 by omega]))).trans ?_;exact ZQ (Zr (Zb rfl) (Yd rfl hm (Qu ..))<|(by simp[kI,L2.ret];omega))
 exact Wi (ZM t)
def JO(hm:om[h]?=some (YT c size hl)){a:Int}(hn:¬ (0<=a/\a<size))(hs:a.natAbs<1000000000000):ZA c [.o h,.int a] om=c.NoPlace∩om:=by
 have r:XR c.NoPlace (Sm ?b SU) [some (.o h),some (.int a)] om=c.NoPlace∩om:=by
  simp[XR,Sm,SU,Au,Za,bnd,L2.ret,L2.KS,chk,hs]
 by_cases h0:a<0
 ·have t:fOr (fB (f2 kLt ?b ?A)) (fB (f2 kGe ?b (f1 (ZG c.Map "size") ?a))) [some (.o h),some (.int a)] om=true\om:=
   fOr_t (ZQ (Zr (Zb rfl) Zp<|(by simp[kI,L2.ret,h0])))
  exact W5 (Z9 t<|r)
 ·have t:fOr (fB (f2 kLt ?b ?A)) (fB (f2 kGe ?b (f1 (ZG c.Map "size") ?a))) [some (.o h),some (.int a)] om=true\om:=by
   refine(GA (ZQ (Zr (Zb rfl) Zp<|(show kLt (.int a) (.int 0) om=((.bl false)\om) by simp[kI,L2.ret];omega)))).trans ?_;exact ZQ (Zr (Zb rfl) (Yd rfl hm (Qu ..))<|(by simp[kI,L2.ret];omega))
  exact W5 (Z9 t<|r)
end
section
variable(c:CA){om:iV}{h hl:Nat}{size:Int}{kvs:iT}
def Qr(kvs:iT)(a b:Int):iT:=Vf (Vf kvs (pk a b) (.bl true)) (pk b a) (.bl true)
def Ut(kvs:iT)(a b:Int):Bool:=(UD kvs (pk a b)).isSome
def Ei(kvs:iT)(a b x y:Int):Ut (Qr kvs a b) x y=(decide (x=a/\y=b) || (decide (x=b/\y=a) || Ut kvs x y)):=by
 unfold Ut Qr;rw[JD,JD];by_cases h1:pk x y=pk b a
 ·rw[aC h1];simp[MI.mp h1]
 ·rw[aD h1]
  have jV:¬ (x=b/\y=a):=λz=>h1 (MI.mpr z)
  by_cases h2:pk x y=pk a b
  ·rw[aC h2];simp[MI.mp h2]
  ·rw[aD h2]
   have jB:¬ (x=a/\y=b):=λz=>h2 (MI.mpr z)
   rw[aG jV,aG jB];simp
def IH(kvs:iT)(a b:Int):(Qr kvs a b).length<=kvs.length+2:=by
 unfold Qr;have h1:=Nb kvs (pk a b) (.bl true);have h2:=Nb (Vf kvs (pk a b) (.bl true)) (pk b a) (.bl true);omega
def ER{sl:Sl}{i j k:Nat}{x y:Int}(hh:h≠hl)(hv:sl[i]?=↑(.o h))(hm:om[h]?=some (YT c size hl))(hk:om[hl]?=some (.dt kvs))(hx:sl[j]?=↑(.int x))(hy:sl[k]?=↑(.int y))(iZ:kvs.length<lim):YW (fC (.bl true)) (f1 (ZG c.Map "links") (Za i)) (fA YU #[Za j,Za k]) sl om=(.nx,sl)\om.set hl (.dt (Vf kvs (pk x y) (.bl true))):=by
 unfold YW;rw[Zm Zp,Zm (Yd hv hm (O6 ..)),Zm (ZB (Ze (Zb hx) (Ze (Zb hy) Zj))<|YX .(2))];refine Zm (a:=()) (qH:=om.set hl (.dt (Vf kvs (pk x y) (.bl true)))) ?_<|rfl;simp[Om,Ng,hk,Vn,Y6,iZ,pk]
def AQ(hh:h≠hl)(hm:om[h]?=some (YT c size hl))(hk:om[hl]?=some (.dt kvs)){a b:Int}(ha:0<=a/\a<size)(hb:0<=b/\b<size)(jw:a≠b)(iZ:kvs.length+1<lim):SL c [.o h,.int a,.int b] om=.non\om.set hl (.dt (Qr kvs a b)):=by
 have n1:ZR (Zn c.Map "need_place" 2 (ZA c) ?a #[?b]) [some (.o h),some (.int a),some (.int b)] om=_:=ZW (Zv (Zb rfl) (Zu hm) (Xa _ _ _ .(1) .(1)) (Ze (Zb rfl) Zj) rfl<|TV c hm ha.1 ha.2);have n2:ZR (Zn c.Map "need_place" 2 (ZA c) ?a #[?c]) [some (.o h),some (.int a),some (.int b)] om=_:=ZW (Zv (Zb rfl) (Zu hm) (Xa _ _ _ .(1) .(1)) (Ze (Zb rfl) Zj) rfl<|TV c hm hb.1 hb.2);have t:fB (f2 kEq ?b ?c) [some (.o h),some (.int a),some (.int b)] om=false\om:=ZQ (v2 rfl rfl<|(XM _ _ _).trans (by rw[aG jw]));have jg:hl<om.length:=(aJ.mp hk).1;have p1:=ER c (sl:=[some (.o h),some (.int a),some (.int b)]) (i:=0) (j:=1) (k:=2) hh rfl hm hk rfl rfl .(0);have jZ:(om.set hl (.dt (Vf kvs (pk a b) (.bl true))))[h]?=some (YT c size hl):=by rw[bJ (cI hh)];exact hm
 have ki:(om.set hl (.dt (Vf kvs (pk a b) (.bl true))))[hl]?=some (.dt (Vf kvs (pk a b) (.bl true))):=by rw[bQ jg]
 have p2:=ER c (sl:=[some (.o h),some (.int a),some (.int b)]) (i:=0) (j:=2) (k:=1) hh rfl jZ ki rfl rfl (by have:=Nb kvs (pk a b) (.bl true);omega);rw[fr]at p2;exact Wi (Zh n1<|(Zh n2).trans (Zh (ZM t)<|(Zh p1).trans p2))
def F6(om:iV):XS c.Map 2 (VC c) [.int size] om=(.o om.length)\(om++[YT c size (om.length+1),.dt []]):=by
 simp[VC,O4,XS,bnd,kN,chk,L2.ret,Yc,Zx,Xs,Za,W6,N7,Wm,Fm,newO,WJ,Hv]
def Q1(om:iV)(hm:Nat):XS c.Board 2 (Xh c) [.o hm] om=(.o om.length)\(om++[YM c hm (om.length+1),.dk []]):=by
 simp[Xh,Rq,XS,bnd,kN,chk,L2.ret,Yc,Zx,Xs,Za,W6,N7,Wm,Fm,newO,WJ,Hv]
end
abbrev ZH(qG qE size:Nat):Wv:=.tup [.int qG,.int qE,.int size]
def dn(a b i j:Nat):Prop:=(j<i/\(i<a\/(i=a/\j<b)))\/(i<j/\(j<a\/(j=a/\i<b)))
structure Laid(qF:Mx)(qE a b:Nat)(kvs:iT):Prop where
 has:∀x y:Int,Ut kvs x y=true ↔ ∃i j:Nat,x=qE+i/\y=qE+j/\X2 qF i j=true/\dn a b i j
 few:kvs.length<=20 * a+2 * b
def Laid.zero(qF:Mx)(qE:Nat):Laid qF qE 0 0 []:=by
 refine⟨λx y=>Iff.intro (λh=>(by cases h)) (λh=>?_),.(2)⟩;obtain⟨i,j,_,_,_,h⟩:=h;unfold dn at h;omega
def Laid.on{qF:Mx}{qE a b m:Nat}{kvs:iT}(L:Laid qF qE a b kvs)(lk:Lk m qF)(h:X2 qF a b=true)(hb:b<a):Laid qF qE a (b+1) (Qr kvs ((qE:Int)+a) ((qE:Int)+b)):=by
 refine⟨λx y=>?_,by have:=IH kvs ((qE:Int)+a) ((qE:Int)+b);have:=L.few;omega⟩;rw[Ei,dS,dS,bY,bY,L.has];constructor
 ·rintro(⟨h1,h2⟩|⟨h1,h2⟩|⟨i,j,h1,h2,h3,h4⟩)
  ·exact⟨a,b,h1,h2,h,by unfold dn;omega⟩
  ·exact⟨b,a,h1,h2,lk.sym b a<|h,by unfold dn;omega⟩
  ·exact⟨i,j,h1,h2,h3,by unfold dn at *;omega⟩
 ·rintro⟨i,j,h1,h2,h3,h4⟩
  by_cases e1:i=a/\j=b
  ·exact .inl ⟨by rw[h1,e1.1],by rw[h2,e1.2]⟩
  ·by_cases e2:i=b/\j=a
   ·exact .inr (.inl ⟨by rw[h1,e2.1],by rw[h2,e2.2]⟩)
   ·exact .inr (.inr ⟨i,j,h1,h2,h3,by unfold dn at *;omega⟩)
def Laid.off'{qF:Mx}{qE a b m:Nat}{kvs:iT}(L:Laid qF qE a b kvs)(lk:Lk m qF)(h:X2 qF a b=false)(hb:b<a):Laid qF qE a (b+1) kvs:=by
 refine⟨λx y=>?_,by have:=L.few;omega⟩;rw[L.has];constructor
 ·rintro⟨i,j,h1,h2,h3,h4⟩
  exact⟨i,j,h1,h2,h3,by unfold dn at *;omega⟩
 ·rintro⟨i,j,h1,h2,h3,h4⟩
  refine⟨i,j,h1,h2,h3,?_⟩;by_cases e1:i=a/\j=b
  ·rw[e1.1,e1.2,h]at h3;cases h3
  ·by_cases e2:i=b/\j=a
   ·rw[e2.1,e2.2,lk.sym,h]at h3;cases h3
   ·unfold dn at *;omega
def Laid.next{qF:Mx}{qE a:Nat}{kvs:iT}(L:Laid qF qE a a kvs)(ha:a<=7):Laid qF qE (a+1) 0 kvs:=by
 refine⟨λx y=>?_,by have:=L.few;omega⟩;rw[L.has];constructor
 ·rintro⟨i,j,h1,h2,h3,h4⟩
  exact⟨i,j,h1,h2,h3,by unfold dn at *;omega⟩
 ·rintro⟨i,j,h1,h2,h3,h4⟩
  exact⟨i,j,h1,h2,h3,by unfold dn at *;omega⟩
def Lk.inr{m:Nat}{qF:Mx}(L:Lk m qF){i j:Nat}(h:X2 qF i j=true):i<m/\j<m/\i≠j:=by
 have hi:i<m:=by
  by_cases hi:i<m
  ·exact hi
  ·unfold X2 at h
   rw[aT (l:=qF),bP (by rw[L.len];omega)]at h;simp at h
 refine⟨hi,?_,λz=>by subst z;rw[L.dg]at h;cases h⟩;by_cases hj:j<m
 ·exact hj
 ·unfold X2 at h
  rw[aT,bP (by rw[L.row i hi];omega)]at h;cases h
def NU(qF:Mx)(qE:Nat)(kvs:iT):Prop:=∀x y:Int,Ut kvs x y=true ↔ ∃i j:Nat,x=qE+i/\y=qE+j/\X2 qF i j=true
def Laid.done{qF:Mx}{qE m:Nat}{kvs:iT}(L:Laid qF qE m 0 kvs)(lk:Lk m qF):NU qF qE kvs:=λx y=>by
 rw[L.has];constructor
 ·rintro⟨i,j,h1,h2,h3,_⟩;exact⟨i,j,h1,h2,h3⟩
 ·rintro⟨i,j,h1,h2,h3⟩
  have:=lk.inr h3;exact⟨i,j,h1,h2,h3,by unfold dn;omega⟩
section
variable(c:CA){om:iV}{qG qE size:Nat}{qF:Mx}
abbrev Pz(om:iV)(size:Nat)(kvs:iT):iV:=om++[YT c size (om.length+1),.dt kvs]
abbrev LX(n qG qE size:Nat)(qF:Mx)(x3 x4:Option Wv):Sl:=[some (ZH qG qE size),some (.lst (qF.map Yw)),some (.o n),x3,x4]
def DF(kvs jM:iT):(Pz c om size kvs).set (om.length+1) (.dt jM)=Pz c om size jM:=by
 unfold Pz;rw[cx _ _ .(0),show om.length+1-om.length=1 by omega];rfl
def BN(lk:Lk qG qF)(h1:qE+qG<=size)(hm:qG<=7){a b:Nat}(ha:a<qG)(hb:b<a){kvs:iT}(L:Laid qF qE a b kvs):∃jM,Uh c (LX om.length qG qE size qF (some (.int a)) (some (.int b))) (Pz c om size kvs)=(.nx,LX om.length qG qE size qF (some (.int a)) (some (.int b)))\Pz c om size jM/\Laid qF qE a (b+1) jM:=by
 have ja:=ZT;have t:Xm (f2 kIx (f2 kIx ?b ?d) ?e) (LX om.length qG qE size qF (some (.int a)) (some (.int b))) (Pz c om size kvs)=_:=Y3 (D8 (p:=1) (q:=3) (r:=4) lk ha .(0) rfl rfl rfl);cases hv:X2 qF a b with
 |false=>
  rw[hv]at t;exact⟨kvs,ZM t,L.off' lk hv hb⟩
 |true=>
  rw[hv]at t;refine⟨_,Z9 t<|ZW (w:=.non) (Zv (Zb rfl) (Zu (fs:=[("size",.int (size:Int)),("links",.o (om.length+1))]) .(2)) (Xa _ _ _ .(1) .(1)) (Ze (Zr (Zr (Zb rfl) Zp<|ZP (k:=1) (v:=.int qE) rfl rfl) (Zb rfl)<|rfl) (Ze (Zr (Zr (Zb rfl) Zp<|ZP (k:=1) (v:=.int qE) rfl rfl) (Zb rfl)<|rfl) Zj)) rfl<|(AQ c (h:=om.length) (hl:=om.length+1) (size:=size) (kvs:=kvs) .(0) .(2) .(2) ⟨.(0),.(0)⟩ ⟨.(0),.(0)⟩ .(0) (by have:=L.few;omega)).trans ?_),L.on lk hv hb⟩;rw[DF]
def D4(lk:Lk qG qF)(h1:qE+qG<=size)(hm:qG<=7)(om:iV):∃kvs,Ve c [ZH qG qE size,.lst (qF.map Yw)] om=(.o om.length)\(om++[YT c size (om.length+1),.dt kvs])/\NU qF qE kvs/\kvs.length<=140:=by
 have ja:=ZT;have s1:ZC 2 (fA (XS c.Map 2 (VC c)) #[f2 kIx ?a ?C]) [some (ZH qG qE size),some (.lst (qF.map Yw)),none,none,none] om=(.nx,LX om.length qG qE size qF none none)\Pz c om size []:=Zt (i:=2) (ZB (Ze (Zr (Zb rfl) Zp<|ZP (k:=2) (v:=.int size) rfl rfl) Zj)<|F6 c om)
 obtain⟨jc,iu,hf,kvs,x3,x4,rfl,rfl,L⟩:=WU (T:=tgN 3) (S:=Sw c) (n:=qG) (λa sl iu=>∃kvs x3 x4,sl=LX om.length qG qE size qF x3 x4/\iu=Pz c om size kvs/\Laid qF qE a 0 kvs)
  (sl:=LX om.length qG qE size qF none none) (om:=Pz c om size []) (λa ha sl iu ⟨kvs,x3,x4,e1,e2,L⟩=>by
   subst e1 e2
   obtain⟨jd,om2,oF,nI,y4,rfl,rfl,L2⟩:=WU (T:=tgN 4) (S:=Uh c) (n:=a) (λb sl iu=>∃kvs y4,sl=LX om.length qG qE size qF (some (.int a)) y4/\iu=Pz c om size kvs/\Laid qF qE a b kvs)
    (sl:=LX om.length qG qE size qF (some (.int a)) x4) (om:=Pz c om size kvs) (λb hb sl iu ⟨kvs,y4,e1,e2,L⟩=>by
     subst e1 e2;obtain⟨jM,e,L'⟩:=BN c (om:=om) lk h1 hm ha hb L;exact⟨_,.nx,_,_,rfl,e,.inl rfl,jM,_,rfl,rfl,L'⟩) ⟨kvs,x4,rfl,rfl,L⟩
   exact⟨_,.nx,_,_,rfl,YY (sl1:=[]) (RP (i:=3) (m:=a) rfl .(0) _) oF,.inl rfl,nI,_,_,rfl,rfl,L2.next .(0)⟩) ⟨[],none,none,rfl,rfl,Laid.zero qF qE⟩
 have e4:=YY (sl1:=[]) (fi:=λsl=>bnd ((f2 kIx ?a ?A) sl) YF) (sl:=LX om.length qG qE size qF none none) (Zm (Zr (Zb rfl) Zp<|ZP (k:=0) (v:=.int qG) rfl rfl)<|Wc _ _ .(0)) hf;exact⟨kvs,ZD (Zh s1<|(Zh e4).trans (Zw (Zb rfl))),L.done lk,by have:=L.few;omega⟩
end
def Xf(qE:Nat)(f:iF)(n:Nat):iG:=(List.range n).filterMap λk=>(at' f k).map λs=>((qE:Int)+k,s)
def NN(qE:Nat)(f:iF)(n:Nat):Xf qE f (n+1)=Xf qE f n++(match at' f n with|some s=>[((qE:Int)+n,s)]|none=>[]):=by
 unfold Xf;rw[df,gw]
 congr 1
 rw[cJ,List.filterMap_nil];cases at' f n <;> rfl
def Km(qE:Nat)(f:iF)(n:Nat):(Xf qE f n).length<=n:=by
 unfold Xf;exact bL (List.length_filterMap_le _ _) .(2)
def Qm(qE:Nat)(f:iF)(n:Nat)(x:Int):(Xf qE f n).lookup x=if 0<=x-qE/\x-qE<n then at' f (x-qE).toNat else none:=by
 induction n with
 |zero=>rw[aD .(0)];rfl
 |succ n ih=>
  rw[NN,List.lookup_append,ih];by_cases h:0<=x-qE/\x-qE<n
  ·rw[aC h,aC .(0)]
   cases ha:at' f (x-qE).toNat with
   |some s=>rfl
   |none=>
    cases hb:at' f n with
    |none=>rfl
    |some s=>
     have:(x == (qE:Int)+n)=false:=aU.mpr .(0);simp[aH,this]
  ·rw[aD h]
   by_cases h2:x=(qE:Int)+n
   ·rw[aC .(0),show(x-qE).toNat=n by omega]
    cases hb:at' f n with
    |none=>rfl
    |some s=>simp[aH,h2]
   ·rw[aD .(0)]
    cases hb:at' f n with
    |none=>rfl
    |some s=>
     have:(x == (qE:Int)+n)=false:=aU.mpr h2;simp[aH,this]
section
variable(c:CA){om:iV}{hb hm hu hl:Nat}{size:Int}{us:iG}
def Lg{C:qJ}{n:Str}{fs:iS}{w:Wv}{sl:Sl}{fe:FE}{h:Nat}(hv:fe sl om=(.o h)\om)(hm:om[h]?=some (.ins C fs))(hw:fs.lookup n=some w):f1 (ZG C n) fe sl om=w\om:=by
 refine(XU hv).trans ?_;simp[ZG,SC,hm,hw]
def KK(h1:om[hb]?=some (YM c hm hu))(h2:om[hm]?=some (YT c size hl)){a:Int}(ha:0<=a/\a<size){sl:Sl}(s0:sl[0]?=↑(.o hb))(s1:sl[1]?=↑(.int a)):ZR (Zn c.Map "need_place" 2 (ZA c) (f1 (ZG c.Board "chart") ?a) #[?b]) sl om=(.nx,sl)\om:=
 ZW (Zv (Yd s0 h1 (Wx ..)) (Zu h2) (Xa _ _ _ .(1) .(1)) (Ze (Zb s1) Zj) rfl<|TV c h2 ha.1 ha.2)
def Gf(h1:om[hb]?=some (YM c hm hu))(h2:om[hm]?=some (YT c size hl))(h3:om[hu]?=some (.dk (ZE us))){a s:Int}(ha:0<=a/\a<size)(hs:0<=s/\s<=7)(hn:us.lookup a=none)(iZ:us.length<lim):Vi c [.o hb,.int a,.int s] om=.non\om.set hu (.dk (ZE (us++[(a,s)]))):=by
 have n1:=KK c (sl:=[some (.o hb),some (.int a),some (.int s)]) h1 h2 ha rfl rfl
 have t1:fOr (fB (f2 kLt ?c ?A)) (fB (f2 kGt ?c ?F)) [some (.o hb),some (.int a),some (.int s)] om=false\om:=by
  refine(GA (ZQ (Zr (Zb rfl) Zp<|(show kLt (.int s) (.int 0) om=((.bl false)\om) by simp[kI,L2.ret];omega)))).trans ?_;exact ZQ (Zr (Zb rfl) Zp<|(by simp[kI,L2.ret];omega))
 have t2:fB (f2 (Wz false) ?b (f1 (ZG c.Board "units") ?a)) [some (.o hb),some (.int a),some (.int s)] om=false\om:=by
  refine ZQ ((Zr (Zb rfl) (Yd rfl h1 (UX ..))).trans ?_);simp[Wz,WB,h3,Y6,Sg,hn]
 have p:YW ?c (f1 (ZG c.Board "units") ?a) ?b [some (.o hb),some (.int a),some (.int s)] om=(.nx,[some (.o hb),some (.int a),some (.int s)])\om.set hu (.dk (ZE (us++[(a,s)]))):=by
  unfold YW;rw[Zm (Zb rfl),Zm (Yd rfl h1 (UX ..)),Zm (Zb rfl)];refine Zm (a:=()) (qH:=om.set hu (.dk (ZE (us++[(a,s)])))) ?_<|rfl;simp[Om,Ng,h3,Y6,NE,iZ,HE s hn]
 exact Wi (Zh n1<|(Zh (ZM t1)).trans (Zh (ZM t2)<|p))
def Pt(h1:om[hb]?=some (YM c hm hu))(h2:om[hm]?=some (YT c size hl))(h3:om[hu]?=some (.dk (ZE us))){a:Int}(ha:0<=a/\a<size):Zz c [.o hb,.int a] om=(ZK (us.lookup a))\om:=by
 have n1:=KK c (sl:=[some (.o hb),some (.int a)]) h1 h2 ha rfl rfl
 have p:J5 (f1 (ZG c.Board "units") ?a) ?b [some (.o hb),some (.int a)] om=(ZK (us.lookup a))\om:=by
  have e:=Yd (sl:=[some (.o hb),some (.int a)]) (i:=0) rfl h1 (UX hm hu);cases hq:us.lookup a with
  |none=>simp[J5,bnd,e,Nl,isD,h3,Za,Gb,WB,Y6,Sg,hq,L2.ret,ZK]
  |some s=>simp[J5,bnd,e,Nl,isD,h3,Za,Gb,WB,Y6,Sg,hq,L2.ret,ZK]
 exact ZD (Zh n1<|Zw p)
abbrev Wq(om:iV)(size:Nat)(kvs:iT)(us:iG):iV:=om++[YT c size (om.length+1),.dt kvs,YM c om.length (om.length+3),.dk (ZE us)]
def CZ{qG qE size:Nat}{qF:Mx}{f:iF}(lk:Lk qG qF)(hf:f.length=qG)(h1:qE+qG<=size)(hm:qG<=7)(hs:∀k s,at' f k=some s->0<=s/\s<=7)(om:iV){sw:Wv}(hw:∀iu,(∀j,j<om.length->iu[j]?=om[j]?)->Y4 iu sw=some (f.map ZK):=by intro _ _;rfl):∃kvs,Vk c [ZH qG qE size,.lst (qF.map Yw),sw] om=(.o (om.length+2))\Wq c om size kvs (Xf qE f qG)/\NU qF qE kvs/\kvs.length<=140:=by
 have ja:=ZT;obtain⟨kvs,ec,mo,hk⟩:=D4 c lk h1 hm om;refine⟨kvs,?_,mo,hk⟩
 have s1:ZC 3 (fA (XS c.Board 2 (Xh c)) #[fA (kN 2 (Ve c)) #[?a,?b]]) [some (ZH qG qE size),some (.lst (qF.map Yw)),some sw,none,none] om=(.nx,[some (ZH qG qE size),some (.lst (qF.map Yw)),some sw,some (.o (om.length+2)),none])\Wq c om size kvs (Xf qE f 0):=by
  refine Zt (i:=3) (w:=.o (om.length+2)) (ZB (Ze (ZB (Ze (Zb rfl) (Ze (Zb rfl) Zj))<|(Yz rfl).trans ec) Zj)<|(Q1 c _ _).trans ?_);rw[aV,bT];rfl
 obtain⟨jc,iu,nJ,x,rfl,rfl⟩:=WU (T:=tgN 4) (S:=SG c) (n:=qG) (λk sl iu=>∃x,sl=[some (ZH qG qE size),some (.lst (qF.map Yw)),some sw,some (.o (om.length+2)),x]/\iu=Wq c om size kvs (Xf qE f k))
  (sl:=[some (ZH qG qE size),some (.lst (qF.map Yw)),some sw,some (.o (om.length+2)),none]) (om:=Wq c om size kvs (Xf qE f 0)) (λk hk sl iu ⟨x,e1,e2⟩=>by
   subst e1 e2;have ki:k<f.length:=by omega
   have sk:f2 kIx ?c ?e [some (ZH qG qE size),some (.lst (qF.map Yw)),some sw,some (.o (om.length+2)),some (.int k)] (Wq c om size kvs (Xf qE f k))=_:=v2 rfl rfl<|Q4 (k:=k) (hw _ λj hj=>by unfold Wq;rw[aZ hj]) ki none;have t:fB (f1 U6 (f2 kIx ?c ?e)) [some (ZH qG qE size),some (.lst (qF.map Yw)),some sw,some (.o (om.length+2)),some (.int k)] (Wq c om size kvs (Xf qE f k))=(at' f k).isSome\Wq c om size kvs (Xf qE f k):=ZQ (XU sk<|Mh _ _);refine⟨[some (ZH qG qE size),some (.lst (qF.map Yw)),some sw,some (.o (om.length+2)),some (.int k)],.nx,_,Wq c om size kvs (Xf qE f (k+1)),rfl,?_,.inl rfl,some (.int k),rfl,rfl⟩;rw[NN];cases hq:at' f k with
   |none=>
    rw[hq]at t;rw[bF];exact ZM t
   |some s=>
    rw[hq]at t;rw[show f.getD k none=some s from hq]at sk;refine Z9 t<|ZW (w:=.non) (Zv (Zb rfl) (Zu (fs:=[("chart",.o om.length),("units",.o (om.length+3))]) .(2)) (Z1 _ _ _ .(1) .(1)) (Ze (Zr (Zr (Zb rfl) Zp<|ZP (k:=1) (v:=.int qE) rfl rfl) (Zb rfl)<|rfl) (Ze sk Zj)) rfl<|(Gf c (hb:=om.length+2) (hm:=om.length) (hu:=om.length+3) (hl:=om.length+1) (size:=size) (us:=Xf qE f k) .(2) .(2) .(2) ⟨.(0),.(0)⟩ (hs k s hq) (by rw[Qm,aD .(0)]) (by have:=Km qE f k;omega)).trans ?_);unfold Wq;rw[cx _ _ .(0),show om.length+3-om.length=3 by omega];rfl) ⟨none,rfl,rfl⟩
 have e4:=YY (sl1:=[]) (fi:=λsl=>bnd ((f2 kIx ?a ?A) sl) YF) (sl:=[some (ZH qG qE size),some (.lst (qF.map Yw)),some sw,some (.o (om.length+2)),none]) (Zm (Zr (Zb rfl) Zp<|ZP (k:=0) (v:=.int qG) rfl rfl)<|Wc _ _ .(0)) nJ;exact ZD (Zh s1<|(Zh e4).trans (Zw (Zb rfl)))
end
def QM(qE:Nat)(f:iF)(n:Nat):(Xf qE f n).Pairwise (λx y=>x.1<y.1):=by
 unfold Xf;refine List.Pairwise.filterMap (R:=(· < ·)) _ (λa b jQ x hx y hy=>?_) f8;obtain⟨s,_,rfl⟩:=cW.mp hx;obtain⟨t,_,rfl⟩:=cW.mp hy;show(qE:Int)+a<qE+b;omega
def Lv{us:iG}(nd:(us.map (·.1)).Nodup):(Y7 us).Pairwise (λx y=>x.1<y.1):=by
 have hp:=YN us;have hn:((Y7 us).map (·.1)).Nodup:=(hp.map _).nodup_iff.mpr nd;refine((UF us).and (cp.mp hn)).imp λ{x y} h=>?_
 have a:¬ _:=λw'=>absurd (V1.mpr w') (by rw[h.1];exact aF)
 have b:=h.2;omega
def J9{us vs:iG}(nd:(us.map (·.1)).Nodup)(hv:vs.Pairwise (λx y=>x.1<y.1))(h:∀p,p∈us ↔ p∈vs):Y7 us=vs:=
 QZ (Lv nd) hv λp=>by rw[(YN us).mem_iff,h]
def L3{us:iG}(h:us.Pairwise (λx y=>x.1<y.1)):(us.map (·.1)).Nodup:=by
 refine cp.mpr (h.imp λ{x y} mI z=>?_);have mI:x.1<y.1:=mI;have z:x.1=y.1:=z;omega
def IZ{us:iG}(h:us.Pairwise (λx y=>x.1<y.1)):Y7 us=us:=J9 (L3 h) h λ_=>Iff.rfl
section
variable(c:CA){om:iV}{hb hm hu hl:Nat}{size:Int}{us:iG}{kvs:iT}
def HR(h1:om[hb]?=some (YM c hm hu))(h3:om[hu]?=some (.dk (ZE us)))(hn:us.length<64):ZJ c [.o hb] om=(.lst ((Y7 us).map prW))\om:=by
 have h2:(Y7 us).length=us.length:=(YN us).length_eq;have ja:=ZT;refine ZD (Zw ?_);unfold RO;refine(Zm (Yd (sl:=[some (.o hb)]) (i:=0) rfl h1 (UX ..))).trans ?_;refine(Zm (a:=(Y7 us).map prW) (qH:=om) ?_).trans ?_
 ·simp[Po,h3,O0,hn]
 ·unfold ZL
  rw[aC .(3)];rfl
def Je(h1:om[hb]?=some (YM c hm hu))(h2:om[hm]?=some (YT c size hl)){a:Int}(ha:¬ (0<=a/\a<size))(hs:a.natAbs<1000000000000):Zz c [.o hb,.int a] om=c.NoPlace∩om:=by
 have e:ZR (Zn c.Map "need_place" 2 (ZA c) (f1 (ZG c.Board "chart") ?a) #[?b]) [some (.o hb),some (.int a)] om=c.NoPlace∩om:=by
  have:=Zv (Yd (sl:=[some (.o hb),some (.int a)]) (i:=0) rfl h1 (Wx hm hu)) (Zu h2) (Xa "need_place" _ _ .(1) .(1)) (Ze (Zb (i:=1) rfl) Zj) rfl<|JO c h2 ha hs;exact Wl this
 exact W5 (UN e)
def Ou(h2:om[hm]?=some (YT c size hl)){a:Int}(ha:0<=a/\a<size){sl:Sl}{i j:Nat}(s0:sl[i]?=↑(.o hm))(s1:sl[j]?=↑(.int a)):ZR (Zn c.Map "need_place" 2 (ZA c) (Za i) #[Za j]) sl om=(.nx,sl)\om:=
 ZW (Zv (Zb s0) (Zu h2) (Xa _ _ _ .(1) .(1)) (Ze (Zb s1) Zj) rfl<|TV c h2 ha.1 ha.2)
def has_e{sl:Sl}{i j k:Nat}{x y:Int}(h2:om[hm]?=some (YT c size hl))(h3:om[hl]?=some (.dt kvs))(hi:sl[i]?=↑(.int x))(hj:sl[j]?=↑(.int y))(hk:sl[k]?=↑(.o hm)):f2 (Wz false) (fA YU #[Za i,Za j]) (f1 (ZG c.Map "links") (Za k)) sl om=(.bl (Ut kvs x y))\om:=by
 refine(Zr (ZB (Ze (Zb hi) (Ze (Zb hj) Zj))<|YX .(2)) (Yd hk h2 (O6 ..))).trans ?_;simp[Wz,WB,h3,Vn,Y6,Ut,pk]
def Fw(h2:om[hm]?=some (YT c size hl))(h3:om[hl]?=some (.dt kvs)){a b:Int}(ha:0<=a/\a<size)(hb:0<=b/\b<size):U4 c [.o hm,.int a,.int b] om=(.bl (Ut kvs a b))\om:=by
 have n1:=Ou c (sl:=[some (.o hm),some (.int a),some (.int b)]) (i:=0) (j:=1) h2 ha rfl rfl;have n2:=Ou c (sl:=[some (.o hm),some (.int a),some (.int b)]) (i:=0) (j:=2) h2 hb rfl rfl;exact ZD (Zh n1<|(Zh n2).trans (Zw (has_e c (i:=1) (j:=2) (k:=0) h2 h3 rfl rfl rfl)))
def A6{n:Nat}(h2:om[hm]?=some (YT c (n:Nat) hl))(h3:om[hl]?=some (.dt kvs))(hn:n<=60){a:Int}(ha:0<=a/\a<n):VD c [.o hm,.int a] om=(.lst (((List.range n).filter λb=>Ut kvs a (b:Nat)).map λ(b:Nat)=>Wv.int b))\om:=by
 have ja:=ZT;have n1:=Ou c (sl:=[some (.o hm),some (.int a)]) (i:=0) (j:=1) h2 ha rfl rfl;refine ZD (Zh n1<|Zw ((XH (ws:=Vj n) (qH:=om) (Zm (Yd rfl h2 (Qu ..))<|Wc _ _ .(0)) (by rw[WQ];omega) (Uv (λb=>Ut kvs a (b:Nat)) (λ(b:Nat)=>Wv.int b) (λb hb=>ZQ (has_e c (i:=2) (j:=0) (k:=1) h2 h3 rfl rfl rfl)) (λb hb _=>Zb rfl))).trans ?_));unfold ZL;rw[aC (by rw[aB];exact bL (aI _ _) .(6))];rfl
end
end MP
namespace MP
noncomputable section
open PySem L2
def Ss(c:CA):FS:=
 (Zx (Xs c.Orders "board" ?b ?a)
  (Xs c.Orders "given" (λ_=>newO (.dk [])) ?a))
def XV(c:CA):iR->Mw Wv:=Yc 2 (Ss c)
def PR(c:CA):FS:=
 (Zx (ZR (Zn c.Board "need_unit" 2 (Yg c) (f1 (ZG c.Orders "board") ?a) #[?b]))
  (YW (fC (.g c.STAND)) (f1 (ZG c.Orders "given") ?a) ?b))
def Vo(c:CA):iR->Mw Wv:=Yc 2 (PR c)
def X4(c:CA):FS:=
 (ZR (Zn c.Map "need_place" 2 (ZA c) (f1 (ZG c.Board "chart") (f1 (ZG c.Orders "board") ?a)) #[?d]))
def X5(c:CA):FS:=
 (ZR (Zn c.Board "need_unit" 2 (Yg c) (f1 (ZG c.Orders "board") ?a) #[?d]))
def RC(c:CA):FS:=
 (Zx (Wf (λsl=>bnd (?b sl) ZO) (tgN 3) (X4 c))
  (Wf (λsl=>bnd (?c sl) ZO) (tgN 3) (X5 c)))
def YJ(c:CA):iR->Mw Wv:=Yc 4 (RC c)
def Tp(c:CA):FS:=
 (sIf (JA (Xm (Zn c.Map "beside" 3 (U4 c) (f1 (ZG c.Board "chart") (f1 (ZG c.Orders "board") ?a)) #[?b,?c]))) (XR c.OutOfReach (Sm ?c (Sm ?b SU))) Yr)
def Z7(c:CA):iR->Mw Wv:=Yc 3 (Tp c)
def Ni(c:CA):FS:=
 (Zx (ZR (Zn c.Orders "need_all" 3 (YJ c) ?a #[fA ZL #[?b,?c],fA ZL #[?b]]))
  (Zx (ZR (Zn c.Orders "need_beside" 3 (Z7 c) ?a #[?b,?c]))
  (YW (fA YU #[fC (.str "move"),?c]) (f1 (ZG c.Orders "given") ?a) ?b)))
def Ug(c:CA):iR->Mw Wv:=Yc 3 (Ni c)
def Lh(c:CA):FS:=
 (Zx (ZR (Zn c.Orders "need_all" 3 (YJ c) ?a #[fA ZL #[?b,?c,?d],fA ZL #[?b,?c]]))
  (Zx (sIf (fB (f2 kEq ?c ?b)) (XR c.OutOfReach (Sm ?b SU)) Yr)
  (Zx (ZR (Zn c.Orders "need_beside" 3 (Z7 c) ?a #[?b,?d]))
  (Zx (sIf (fB (f2 kNe ?d ?c)) (ZR (Zn c.Orders "need_beside" 3 (Z7 c) ?a #[?c,?d])) Yr)
  (YW (fA YU #[fC (.str "help"),?c,?d]) (f1 (ZG c.Orders "given") ?a) ?b)))))
def UJ(c:CA):iR->Mw Wv:=Yc 4 (Lh c)
def Ny(c:CA):FS:=
 (Zx (ZR (Zn c.Board "need_unit" 2 (Yg c) (f1 (ZG c.Orders "board") ?a) #[?b]))
  (Ye (Oq (f1 (ZG c.Orders "given") ?a) ?b (fC (.g c.STAND)))))
def Z6(c:CA):iR->Mw Wv:=Yc 2 (Ny c)
def R0(c:CA):FS:=
 (Zx (ZC 2 (Oq (f1 (ZG c.Orders "given") ?a) ?b (fC (.g c.STAND))))
  (Zx (sIf (fB (f2 kEq (f2 (Uc c.STAND) ?c ?A) (fC (.str "move")))) (Ye (f2 (Uc c.STAND) ?c ?B)) Yr)
  (Ye (fC .non))))
def Zo(c:CA):iR->Mw Wv:=Yc 3 (R0 c)
def QA(c:CA):FT:=
 (fB (f1 U6 (Zn c.Orders "goal_of" 2 (Zo c) ?b #[?a])))
def Qo(c:CA):FE:=
 ?a
def Pe(c:CA):FS:=
 (Ye (fA (Vl ZL) #[VP ZL [0] (f1 (ZG c.Orders "given") ?a) (QA c) (Qo c)]))
def ZV(c:CA):iR->Mw Wv:=Yc 1 (Pe c)
def RB(c:CA):FT:=
 (fB (f1 U6 (Zn c.Orders "goal_of" 2 (Zo c) ?b #[?a])))
def RJ(c:CA):FE:=
 ?a
def Qp(c:CA):FS:=
 (Ye (fA (Vl Wb) #[VP ZL [0] (f1 (ZG c.Orders "given") ?a) (RB c) (RJ c)]))
def Qc(c:CA):iR->Mw Wv:=Yc 1 (Qp c)
def Ta(c:CA):FE:=
 (fA (kN 4 (Y1 c)) #[fA (kN 2 (Zq c)) #[?b,f2 WD (fC (.int 10)) ?a],?a,?c,?d])
def PB(c:CA):FS:=
 (Ye (Yk Wb [0,1,2] (λsl=>bnd ((fA Ws #[?c]) sl) YF) Xl (Ta c)))
def Wp(c:CA):iR->Mw Wv:=Yc 3 (PB c)
def K7(c:CA):FS:=
 (Zx (ZC 4 (f2 kIx ?c ?d))
  (Zx (sIf (fB (f1 VA ?e)) sRetN Yr)
  (sIf (fB (f2 kEq (f2 kIx ?e ?A) (fC (.str "stand")))) (ZR (Zn c.Orders "stand" 2 (Vo c) ?a #[f2 WD ?b ?d])) (sIf (fB (f2 kEq (f2 kIx ?e ?A) (fC (.str "move")))) (ZR (Zn c.Orders "move" 3 (Ug c) ?a #[f2 WD ?b ?d,f2 WD ?b (f2 kIx ?e ?B)])) (ZR (Zn c.Orders "aid" 4 (UJ c) ?a #[f2 WD ?b ?d,f2 WD ?b (f2 kIx ?e ?B),f2 WD ?b (f2 kIx ?e ?C)]))))))
def V4(c:CA):iR->Mw Wv:=Yc 5 (K7 c)
def SB(c:CA):FS:=
 (ZR (fA (kN 4 (V4 c)) #[?e,f2 kIx ?a ?B,?d,?f]))
def M9(c:CA):FS:=
 (Zx (ZC 4 (fA (XS c.Orders 2 (XV c)) #[fA (kN 3 (Vk c)) #[?a,?b,?c]]))
  (Zx (Wf (λsl=>bnd ((f2 kIx ?a ?A) sl) YF) (tgN 5) (SB c))
  (Ye ?e)))
def Wj(c:CA):iR->Mw Wv:=Yc 6 (M9 c)
end
open PySem L2
abbrev Y9(c:CA)(hb hg:Nat):Ob:=.ins c.Orders [("board",.o hb),("given",.o hg)]
def B4(hb hg:Nat):List.lookup (Str.ofString "board") [(Str.ofString "board",Wv.o hb),(Str.ofString "given",Wv.o hg)]=some (.o hb):=by simp[aH,YQ]
def Pl(hb hg:Nat):List.lookup (Str.ofString "given") [(Str.ofString "board",Wv.o hb),(Str.ofString "given",Wv.o hg)]=some (.o hg):=by simp[aH,YQ]
def Z8(m:String)(hb hg:Nat)(h1:m≠"board")(h2:m≠"given"):List.lookup (Str.ofString m) [(Str.ofString "board",Wv.o hb),(Str.ofString "given",Wv.o hg)]=none:=by simp[aH,YQ,h1,h2]
def odG(c:CA)(qE:Nat):Od->Wv
 |.stand=>.g c.STAND
 |.move g=>.tup [.str "move",.int ((qE:Int)+g)]
 |.help h g=>.tup [.str "help",.int ((qE:Int)+h),.int ((qE:Int)+g)]
abbrev Gs:=List (Nat × Od)
def Xc(c:CA)(qE:Nat)(gs:Gs):iU:=gs.map λp=>(.inl ((qE:Int)+p.1),odG c qE p.2)
def Qq(gs:Gs)(k:Nat)(o:Od):Gs:=if (gs.any λp=>decide (p.1=k))=true then gs.map (λp=>if p.1=k then (p.1,o) else p) else gs++[(k,o)]
def gv_ne{qE a k:Nat}(h:a≠k):(Sum.inl ((qE:Int)+a):Key)≠Sum.inl ((qE:Int)+k):=λz=>h (by have:=gz z;omega)
def MG(qE a k:Nat):decide ((Sum.inl ((qE:Int)+a):Key)=Sum.inl ((qE:Int)+k))=decide (a=k):=by
 by_cases h:a=k
 ·subst h;simp
 ·rw[aG h,aG (gv_ne h)]
def T4(c:CA)(qE:Nat)(gs:Gs)(k:Nat):UD (Xc c qE gs) (.inl ((qE:Int)+k))=(gs.lookup k).map (odG c qE):=by
 induction gs with
 |nil=>rfl
 |cons p gs ih=>
  obtain⟨j,o⟩:=p;unfold UD Xc at ih ⊢;rw[aS,cH,aH];dsimp only;rw[MG];by_cases h:j=k
  ·subst h;simp
  ·rw[aG h,aU.mpr (cI h)]
   exact ih
def putW_gv(c:CA)(qE:Nat)(gs:Gs)(k:Nat)(o:Od):Vf (Xc c qE gs) (.inl ((qE:Int)+k)) (odG c qE o)=Xc c qE (Qq gs k o):=by
 unfold Vf Qq Xc
 have e:((gs.map λp=>((Sum.inl ((qE:Int)+p.1):Key),odG c qE p.2)).any λkv=>decide (kv.1=Sum.inl ((qE:Int)+k)))=gs.any λp=>decide (p.1=k):=by
  rw[List.any_map];refine cE (List.any gs) (funext λp=>?_);exact MG qE p.1 k
 rw[e];by_cases h:(gs.any λp=>decide (p.1=k))=true
 ·rw[aC h,aC h,bA,bA]
  refine cP λp _=>?_
  show(if (Sum.inl ((qE:Int)+p.1):Key)=Sum.inl ((qE:Int)+k) then (Sum.inl ((qE:Int)+p.1),odG c qE o) else (Sum.inl ((qE:Int)+p.1),odG c qE p.2))=((Sum.inl ((qE:Int)+(if p.1=k then (p.1,o) else p).1):Key),odG c qE (if p.1=k then (p.1,o) else p).2);by_cases hp:p.1=k
  ·rw[aC (by rw[hp]),aC hp]
  ·rw[aD (gv_ne hp),aD hp]
 ·rw[aD h,aD h,bX]
  rfl
def KU(gs:Gs)(k:Nat):(gs.any λp=>decide (p.1=k))=(gs.lookup k).isSome:=by
 induction gs with
 |nil=>rfl
 |cons p gs ih=>
  obtain⟨j,o⟩:=p;rw[dq,aH];dsimp only;by_cases h:j=k
  ·subst h;simp
  ·rw[aG h,aU.mpr (cI h),fQ]
   exact ih
def FZ(gs:Gs)(k j:Nat)(o:Od):(gs.map λp=>if p.1=k then (p.1,o) else p).lookup j=if j=k then (gs.lookup j).map (λ_=>o) else gs.lookup j:=by
 induction gs with
 |nil=>simp
 |cons p gs ih=>
  obtain⟨i,q⟩:=p;rw[aS];dsimp only;by_cases h:i=k
  ·rw[aC h,aH,aH]
   by_cases hj:j=i
   ·subst hj;subst h;simp
   ·rw[aU.mpr hj]
    exact ih
  ·rw[aD h,aH,aH]
   by_cases hj:j=i
   ·subst hj;simp[h]
   ·rw[aU.mpr hj]
    exact ih
def NW(gs:Gs)(k j:Nat)(o:Od):(Qq gs k o).lookup j=if j=k then some o else gs.lookup j:=by
 unfold Qq;by_cases h:(gs.any λp=>decide (p.1=k))=true
 ·rw[aC h,FZ]
  by_cases hj:j=k
  ·subst hj
   rw[aC rfl,aC rfl];rw[KU]at h;obtain⟨x,hx⟩:=aO.mp h;rw[hx];rfl
  ·rw[aD hj,aD hj]
 ·rw[aD h,List.lookup_append]
  rw[KU]at h;by_cases hj:j=k
  ·subst hj
   rw[aC rfl,Option.not_isSome_iff_eq_none.mp h];simp
  ·rw[aD hj,aH,aU.mpr hj]
   simp
def Ie{gs:Gs}(h:(gs.map (·.1)).Nodup)(k:Nat)(o:Od):((Qq gs k o).map (·.1)).Nodup:=by
 unfold Qq;by_cases ha:(gs.any λp=>decide (p.1=k))=true
 ·rw[aC ha,bA]
  have e:(gs.map ((·.1) ∘ λp=>if p.1=k then (p.1,o) else p))=gs.map (·.1):=cP λp _=>by
   show(if p.1=k then (p.1,o) else p).1=p.1;by_cases hp:p.1=k
   ·rw[aC hp]
   ·rw[aD hp]
  rw[e];exact h
 ·rw[aD ha,bX,cq]
  refine⟨h,.(2),λa pG b hb z=>ha ?_⟩;have hb:b=k:=by simpa using hb
  obtain⟨p,hp,rfl⟩:=aY.mp pG;exact eU.mpr ⟨p,hp,bG (z<|hb)⟩
structure Tell(gs:Gs)(T:Nat->Option Od):Prop where
 nd:(gs.map (·.1)).Nodup
 get:∀k o,T k=some o->(gs.lookup k).getD .stand=o
 key:∀k o,gs.lookup k=some o->T k=some o
def Tell.put{gs:Gs}{T:Nat->Option Od}(h:Tell gs T)(k:Nat)(o:Od):Tell (Qq gs k o) (λj=>if j=k then some o else T j):=by
 refine⟨Ie h.nd k o,λj q e=>?_,λj q e=>?_⟩
 ·rw[NW]
  by_cases hj:j=k
  ·rw[aC hj]at e ⊢;cases e;rfl
  ·rw[aD hj]at e ⊢;exact h.get j q e
 ·rw[NW]at e
  by_cases hj:j=k
  ·rw[aC hj]at e;cases e;show(if j=k then some o else T j)=some o;rw[aC hj]
  ·rw[aD hj]at e;show(if j=k then some o else T j)=some q;rw[aD hj];exact h.key j q e
def Tell.start0{T:Nat->Option Od}(h:∀k o,T k=some o->o=.stand):Tell [] T:=⟨.(2),λk o e=>(h k o e).symm,λk o e=>by cases e⟩
def QK{k:Nat}{o:Od}:∀{gs:Gs},gs.lookup k=some o->(k,o)∈gs
 |[],e=>by cases e
 |(j,q)::gs,e=>by
  rw[aH]at e;cases hb:(k == j) with
  |true=>rw[hb]at e;cases e;rw[eq_of_beq hb];exact .head _
  |false=>rw[hb]at e;exact .tail _ (QK e)
def VX{k:Nat}{o:Od}:∀{gs:Gs},(gs.map (·.1)).Nodup->(k,o)∈gs->gs.lookup k=some o
 |[],_,e=>nomatch e
 |(j,q)::gs,nd,e=>by
  rw[aH];rw[aS,cL]at nd;rcases aN.mp e with e|e
  ·cases e;simp
  ·have jw:k≠j:=λz=>nd.1 (aY.mpr ⟨(k,o),e,z⟩)
   rw[aU.mpr jw];exact VX nd.2 e
def Wy{k s:Int}:∀{us:iG},us.lookup k=some s->(k,s)∈us
 |[],e=>by cases e
 |(j,q)::us,e=>by
  rw[aH]at e;cases hb:(k == j) with
  |true=>rw[hb]at e;cases e;rw[eq_of_beq hb];exact .head _
  |false=>rw[hb]at e;exact .tail _ (Wy e)
def Wt{k s:Int}:∀{us:iG},(us.map (·.1)).Nodup->(k,s)∈us->us.lookup k=some s
 |[],_,e=>nomatch e
 |(j,q)::us,nd,e=>by
  rw[aH];rw[aS,cL]at nd;rcases aN.mp e with e|e
  ·cases e;simp
  ·have jw:k≠j:=λz=>nd.1 (aY.mpr ⟨(k,s),e,z⟩)
   rw[aU.mpr jw];exact Wt nd.2 e
def O3{us vs:iG}(p:us.Perm vs)(nd:(vs.map (·.1)).Nodup)(k:Int):us.lookup k=vs.lookup k:=by
 have nd2:(us.map (·.1)).Nodup:=(p.map (·.1)).nodup_iff.mpr nd;cases h:vs.lookup k with
 |some s=>exact Wt nd2 (p.mem_iff.mpr (Wy h))
 |none=>
  cases h2:us.lookup k with
  |none=>rfl
  |some s=>have:=Wt nd (p.mem_iff.mp (Wy h2));rw[h]at this;cases this
def N5(qE:Nat)(f:iF)(n:Nat):((Xf qE f n).map (·.1)).Nodup:=cp.mpr ((QM qE f n).imp λh=>Int.ne_of_lt h)
structure Wd(c:CA)(om:iV)(hb hm hu hl size qE:Nat)(f:iF)(kvs:iT):Prop where
 b:om[hb]?=some (YM c hm hu)
 m:om[hm]?=some (YT c size hl)
 u:∃us:iG,om[hu]?=some (.dk (ZE us))/\us.Perm (Xf qE f f.length)
 l:om[hl]?=some (.dt kvs)
 fit:qE+f.length<=size
 few:size<=60
def Rz{α:Type}{l:List (Option α)}{k:Nat}{x:α}(h:at' l k=some x):k<l.length:=by
 by_cases hk:k<l.length
 ·exact hk
 ·rw[UU hk]at h;cases h
section
variable{c:CA}{om:iV}{ho hb hm hu hl hg size qE:Nat}{f:iF}{kvs:iT}{gs:Gs}
def Wd.set(W:Wd c om hb hm hu hl size qE f kvs){kv:iU}{x:Ob}(h:om[hg]?=some (.dk kv))(hn:hg≠hu):Wd c (om.set hg x) hb hm hu hl size qE f kvs:=by
 have nb:hg≠hb:=λz=>by subst z;rw[W.b]at h;cases h
 have nm:hg≠hm:=λz=>by subst z;rw[W.m]at h;cases h
 have nl:hg≠hl:=λz=>by subst z;rw[W.l]at h;cases h
 exact⟨by rw[bJ nb];exact W.b,by rw[bJ nm];exact W.m,(let ⟨us,e,p⟩:=W.u;⟨us,by rw[bJ hn];exact e,p⟩),by rw[bJ nl];exact W.l,W.fit,W.few⟩
def Wd.grow(W:Wd c om hb hm hu hl size qE f kvs)(l:iV):Wd c (om++l) hb hm hu hl size qE f kvs:=by
 have g:∀{h:Nat} {x:Ob},om[h]?=some x->(om++l)[h]?=some x:=λe=>by rw[aZ (aJ.mp e).1];exact e
 exact⟨g W.b,g W.m,(let ⟨us,e,p⟩:=W.u;⟨us,g e,p⟩),g W.l,W.fit,W.few⟩
def Wd.look(W:Wd c om hb hm hu hl size qE f kvs)(k:Nat):(Xf qE f f.length).lookup ((qE:Int)+k)=at' f k:=by
 rw[Qm];by_cases h:k<f.length
 ·rw[aC .(0),show((qE:Int)+k-qE).toNat=k by omega]
 ·rw[aD .(0),UU h]
def Wd.inn(W:Wd c om hb hm hu hl size qE f kvs){k:Nat}(h:k<f.length):0<=(qE:Int)+k/\(qE:Int)+k<(size:Nat):=by
 have:=W.fit;omega
def MA(W:Wd c om hb hm hu hl size qE f kvs){k:Nat}(h:k<f.length):Zz c [.o hb,.int ((qE:Int)+k)] om=(ZK (at' f k))\om:=by
 obtain⟨us,e,p⟩:=W.u;rw[Pt c W.b W.m e (W.inn h),O3 p (N5 qE f f.length),W.look]
def Hu(W:Wd c om hb hm hu hl size qE f kvs){k:Nat}{s:Int}(h:at' f k=some s):Yg c [.o hb,.int ((qE:Int)+k)] om=.non\om:=by
 have e:fB (f1 VA (Zn c.Board "side_at" 2 (Zz c) ?a #[?b])) [some (.o hb),some (.int ((qE:Int)+k))] om=false\om:=by
  refine ZQ (XU (Zv (Zb rfl) (Zu W.b) (Z1 _ _ _ .(1) .(1)) (Ze (Zb rfl) Zj) rfl<|MA W (Rz h))<|(Tv _ _).trans ?_);rw[h];rfl
 exact Wi (ZM e)
structure Os(c:CA)(om:iV)(ho hb hg qE:Nat)(gs:Gs):Prop where
 o:om[ho]?=some (Y9 c hb hg)
 g:om[hg]?=some (.dk (Xc c qE gs))
def Jh(c:CA)(qE:Nat)(gs:Gs):(Xc c qE gs).length=gs.length:=by simp[Xc]
def Os.grow(S:Os c om ho hb hg qE gs)(l:iV):Os c (om++l) ho hb hg qE gs:=by
 have g:∀{h:Nat} {x:Ob},om[h]?=some x->(om++l)[h]?=some x:=λe=>by rw[aZ (aJ.mp e).1];exact e
 exact⟨g S.o,g S.g⟩
def EW(S:Os c om ho hb hg qE gs){k:Nat}{o:Od}{sl:Sl}{fv:FE}{i j:Nat}(hv:fv sl om=(odG c qE o)\om)(hi:sl[i]?=↑(.o ho))(hj:sl[j]?=↑(.int ((qE:Int)+k)))(hl:gs.length<100):YW fv (f1 (ZG c.Orders "given") (Za i)) (Za j) sl om=(.nx,sl)\om.set hg (.dk (Xc c qE (Qq gs k o))):=by
 have ja:=ZT;unfold YW;rw[Zm hv,Zm (Yd hi S.o (Pl ..)),Zm (Zb hj)];refine Zm (a:=()) (qH:=om.set hg (.dk (Xc c qE (Qq gs k o)))) ?_<|rfl;have h1:(Xc c qE gs).length<lim:=by rw[Jh];omega
 simp[Om,Ng,S.g,Y6,h1,putW_gv]
def X8(S:Os c om ho hb hg qE gs){sl:Sl}{i:Nat}(hi:sl[i]?=↑(.o ho)):f1 (ZG c.Orders "board") (Za i) sl om=(.o hb)\om:=Yd hi S.o (B4 ..)
def DE(W:Wd c om hb hm hu hl size qE f kvs)(S:Os c om ho hb hg qE gs){k:Nat}{s:Int}(h:at' f k=some s)(hl:gs.length<100):Vo c [.o ho,.int ((qE:Int)+k)] om=.non\om.set hg (.dk (Xc c qE (Qq gs k .stand))):=by
 have e1:ZR (Zn c.Board "need_unit" 2 (Yg c) (f1 (ZG c.Orders "board") ?a) #[?b]) [some (.o ho),some (.int ((qE:Int)+k))] om=(.nx,[some (.o ho),some (.int ((qE:Int)+k))])\om:=
  ZW (Zv (X8 S rfl) (Zu W.b) (Z1 _ _ _ .(1) .(1)) (Ze (Zb rfl) Zj) rfl<|Hu W h)
 exact Wi (Zh e1<|EW S (o:=.stand) Zp rfl rfl hl)
def Hz(W:Wd c om hb hm hu hl size qE f kvs)(S:Os c om ho hb hg qE gs){k:Nat}{s:Int}(h:at' f k=some s):Z6 c [.o ho,.int ((qE:Int)+k)] om=(odG c qE ((gs.lookup k).getD .stand))\om:=by
 have e1:ZR (Zn c.Board "need_unit" 2 (Yg c) (f1 (ZG c.Orders "board") ?a) #[?b]) [some (.o ho),some (.int ((qE:Int)+k))] om=(.nx,[some (.o ho),some (.int ((qE:Int)+k))])\om:=
  ZW (Zv (X8 S rfl) (Zu W.b) (Z1 _ _ _ .(1) .(1)) (Ze (Zb rfl) Zj) rfl<|Hu W h)
 have e2:Oq (f1 (ZG c.Orders "given") ?a) ?b (fC (.g c.STAND)) [some (.o ho),some (.int ((qE:Int)+k))] om=(odG c qE ((gs.lookup k).getD .stand))\om:=by
  unfold Oq;rw[Zm (Yd rfl S.o (Pl ..))];refine(Zm (a:=()) (qH:=om) (by simp[Nl,isD,S.g])).trans ?_;rw[Zm (Zb rfl),Zm Zp];cases hq:gs.lookup k with
  |none=>simp[Q2,WB,S.g,Y6,T4,hq,odG]
  |some o=>simp[Q2,WB,S.g,Y6,T4,hq]
 exact ZD (Zh e1<|Zw e2)
def TM(qE:Nat):Od->Wv
 |.move g=>.int ((qE:Int)+g)
 |_=>.non
def K3(jh:om[ho]?=some (Y9 c hb hg))(hd:om[hg]?=some (.dk (Xc c qE gs))\/om[hg]?=some (.dz (Xc c qE gs)))(k:Nat):Zo c [.o ho,.int ((qE:Int)+k)] om=(TM qE ((gs.lookup k).getD .stand))\om:=by
 generalize ls:(gs.lookup k).getD .stand=o
 have e1:ZC 2 (Oq (f1 (ZG c.Orders "given") ?a) ?b (fC (.g c.STAND))) [some (.o ho),some (.int ((qE:Int)+k)),none] om=(.nx,[some (.o ho),some (.int ((qE:Int)+k)),some (odG c qE o)])\om:=by
  refine Zt (i:=2) (w:=odG c qE o) ?_;unfold Oq;rw[Zm (Yd rfl jh (Pl ..))];rw[← ls];rcases hd with hd|hd
  ·refine(Zm (a:=()) (qH:=om) (by simp[Nl,isD,hd])).trans ?_
   rw[Zm (Zb rfl),Zm Zp];cases hq:gs.lookup k with
   |none=>simp[Q2,WB,hd,Y6,T4,hq,odG]
   |some o=>simp[Q2,WB,hd,Y6,T4,hq]
  ·refine(Zm (a:=()) (qH:=om) (by simp[Nl,isD,hd])).trans ?_
   rw[Zm (Zb rfl),Zm Zp];cases hq:gs.lookup k with
   |none=>simp[Q2,WB,hd,Y6,T4,hq,odG]
   |some o=>simp[Q2,WB,hd,Y6,T4,hq]
 have e2:fB (f2 kEq (f2 (Uc c.STAND) ?c ?A) (fC (.str "move"))) [some (.o ho),some (.int ((qE:Int)+k)),some (odG c qE o)] om=(decide (odN o="move"))\om:=by
  refine ZQ (Zr (x:=.str (odN o)) (qH:=om) ((Zr (Zb rfl) Zp).trans ?_) Zp<|O5 _ _ (NQ o) Lu _);unfold Uc;cases o with
  |stand=>rw[show odG c qE .stand=.g c.STAND from rfl,EO];exact ZP (k:=0) rfl rfl
  |move g=>exact ZP (k:=0) rfl rfl
  |help h g=>exact ZP (k:=0) rfl rfl
 refine ZD (sl1:=[some (.o ho),some (.int ((qE:Int)+k)),some (odG c qE o)]) ((Zh e1).trans ?_);cases o with
 |stand=>exact Zh (ZM e2)<|Zw Zp
 |help h g=>exact Zh (ZM e2)<|Zw Zp
 |move g=>exact Ys (Z9 e2<|Zw (Zr (Zb rfl) Zp<|ZP (k:=1) rfl rfl))
def BC(S:Os c om ho hb hg qE gs)(k:Nat):Zo c [.o ho,.int ((qE:Int)+k)] om=(TM qE ((gs.lookup k).getD .stand))\om:=K3 S.o (.inl S.g) k
end
def OV{S:FS}{i:Nat}{om:iV}{sl:Sl}(hi:i<sl.length):∀{l:iR} (x:Option Wv),(∀w∈l,S (sl.set i (some w)) om=(.nx,sl.set i (some w))\om)->∃y,WS (tgN i) S l (sl.set i x) om=(.nx,sl.set i y)\om
 |[],x,_=>⟨x,rfl⟩
 |w::l,x,h=>by
  obtain⟨y,e⟩:=OV hi (l:=l) (some w) λu hu=>h u (.tail _ hu)
  refine⟨y,?_⟩;show(match tgN i w (sl.set i x) with|none=>W0|some sl1=>bnd (S sl1) (Qe λjd=>WS (tgN i) S l jd)) om=_;have e1:tgN i w (sl.set i x)=some (sl.set i (some w)):=by unfold tgN;rw[fr]
  rw[e1];dsimp only;rw[Zm (h w (.head _))];exact e
section
variable{c:CA}{om:iV}{ho hb hm hu hl hg size qE:Nat}{f:iF}{kvs:iT}{gs:Gs}
def QE(W:Wd c om hb hm hu hl size qE f kvs)(S:Os c om ho hb hg qE gs)(ps us:iL)(hp:∀k∈ps,k<f.length)(pH:∀k∈us,(at' f k).isSome=true):YJ c [.o ho,.lst (ps.map λ(k:Nat)=>.int ((qE:Int)+k)),.lst (us.map λ(k:Nat)=>.int ((qE:Int)+k))] om=.non\om:=by
 generalize hA:Wv.lst (ps.map λ(k:Nat)=>.int ((qE:Int)+k))=A;generalize hB:Wv.lst (us.map λ(k:Nat)=>.int ((qE:Int)+k))=B
 obtain⟨y,e1⟩:=OV (S:=X4 c) (i:=3) (om:=om) (sl:=[some (.o ho),some A,some B,none]) .(2) (l:=ps.map λ(k:Nat)=>.int ((qE:Int)+k)) none (λw hw=>by
  obtain⟨k,hk,rfl⟩:=aY.mp hw;have hk:=W.inn (hp k hk);exact ZW (Zv (Lg (X8 S rfl) W.b (Wx ..)) (Zu W.m) (Xa _ _ _ .(1) .(1)) (Ze (Zb rfl) Zj) rfl<|TV c W.m hk.1 hk.2))
 obtain⟨z,e2⟩:=OV (S:=X5 c) (i:=3) (om:=om) (sl:=[some (.o ho),some A,some B,y]) .(2) (l:=us.map λ(k:Nat)=>.int ((qE:Int)+k)) y (λw hw=>by
  obtain⟨k,hk,rfl⟩:=aY.mp hw;obtain⟨s,hs⟩:=aO.mp (pH k hk);exact ZW (Zv (X8 S rfl) (Zu W.b) (Z1 _ _ _ .(1) .(1)) (Ze (Zb rfl) Zj) rfl<|Hu W hs))
 have f1:Wf (λsl=>bnd (?b sl) ZO) (tgN 3) (X4 c) [some (.o ho),some A,some B,none] om=_:=YY (sl1:=[]) (Zm (Zb rfl)<|(by rw[← hA];rfl)) e1;have f2:Wf (λsl=>bnd (?c sl) ZO) (tgN 3) (X5 c) [some (.o ho),some A,some B,y] om=_:=YY (sl1:=[]) (Zm (Zb rfl)<|(by rw[← hB];rfl)) e2;exact Wi (Zh f1<|f2)
def VH(W:Wd c om hb hm hu hl size qE f kvs)(S:Os c om ho hb hg qE gs){a b:Nat}(ha:a<f.length)(m9:b<f.length)(hk:Ut kvs ((qE:Int)+a) ((qE:Int)+b)=true):Z7 c [.o ho,.int ((qE:Int)+a),.int ((qE:Int)+b)] om=.non\om:=by
 refine Wi (ZM (LZ (b:=true) (Y3 (Zv (Lg (X8 S rfl) W.b (Wx ..)) (Zu W.m) (Xa _ _ _ .(1) .(1)) (Ze (Zb rfl) (Ze (Zb rfl) Zj)) rfl<|(Fw c W.m W.l (W.inn ha) (W.inn m9)).trans ?_))));rw[hk]
def OD{ws:iR}{om:iV}(h:ws.length<=8):ZL ws om=(.lst ws)\om:=by
 have:=ZT;unfold ZL;rw[aC .(0)];rfl
def Av(W:Wd c om hb hm hu hl size qE f kvs)(S:Os c om ho hb hg qE gs){k g:Nat}{s:Int}(h:at' f k=some s)(j0:g<f.length)(hk:Ut kvs ((qE:Int)+k) ((qE:Int)+g)=true)(iZ:gs.length<100):Ug c [.o ho,.int ((qE:Int)+k),.int ((qE:Int)+g)] om=.non\om.set hg (.dk (Xc c qE (Qq gs k (.move g)))):=by
 have e1:ZR (Zn c.Orders "need_all" 3 (YJ c) ?a #[fA ZL #[?b,?c],fA ZL #[?b]]) [some (.o ho),some (.int ((qE:Int)+k)),some (.int ((qE:Int)+g))] om=(.nx,[some (.o ho),some (.int ((qE:Int)+k)),some (.int ((qE:Int)+g))])\om:=
  ZW ((Zv (Zb rfl) (Zu S.o) (Z8 _ _ _ .(1) .(1)) (Ze (ZB (Ze (Zb rfl) (Ze (Zb rfl) Zj))<|OD .(2)) (Ze (ZB (Ze (Zb rfl) Zj)<|OD .(2)) Zj)) rfl).trans
   (QE W S [k,g] [k] (by intro j hj;simp at hj;rcases hj with rfl|rfl;exact Rz h;exact j0) (by intro j hj;simp at hj;subst hj;rw[h];rfl)))
 have e2:ZR (Zn c.Orders "need_beside" 3 (Z7 c) ?a #[?b,?c]) [some (.o ho),some (.int ((qE:Int)+k)),some (.int ((qE:Int)+g))] om=(.nx,[some (.o ho),some (.int ((qE:Int)+k)),some (.int ((qE:Int)+g))])\om:=
  ZW (Zv (Zb rfl) (Zu S.o) (Z8 _ _ _ .(1) .(1)) (Ze (Zb rfl) (Ze (Zb rfl) Zj)) rfl<|VH W S (Rz h) j0 hk)
 exact Wi (Zh e1<|(Zh e2).trans (EW S (o:=.move g) (ZB (Ze Zp (Ze (Zb rfl) Zj))<|YX .(2)) rfl rfl iZ))
def aid_in(W:Wd c om hb hm hu hl size qE f kvs)(S:Os c om ho hb hg qE gs){k h g:Nat}{s t:Int}(hs:at' f k=some s)(ht:at' f h=some t)(j0:g<f.length)(jw:h≠k)(hk:Ut kvs ((qE:Int)+k) ((qE:Int)+g)=true)(hh:h=g\/Ut kvs ((qE:Int)+h) ((qE:Int)+g)=true)(iZ:gs.length<100):UJ c [.o ho,.int ((qE:Int)+k),.int ((qE:Int)+h),.int ((qE:Int)+g)] om=.non\om.set hg (.dk (Xc c qE (Qq gs k (.help h g)))):=by
 generalize kL:([some (.o ho),some (.int ((qE:Int)+k)),some (.int ((qE:Int)+h)),some (.int ((qE:Int)+g))]:Sl)=sl;have s0:sl[0]?=↑(.o ho):=by rw[← kL];rfl
 have s1:sl[1]?=↑(.int ((qE:Int)+k)):=by rw[← kL];rfl
 have s2:sl[2]?=↑(.int ((qE:Int)+h)):=by rw[← kL];rfl
 have s3:sl[3]?=↑(.int ((qE:Int)+g)):=by rw[← kL];rfl
 have e1:ZR (Zn c.Orders "need_all" 3 (YJ c) ?a #[fA ZL #[?b,?c,?d],fA ZL #[?b,?c]]) sl om=(.nx,sl)\om:=
  ZW ((Zv (Zb s0) (Zu S.o) (Z8 _ _ _ .(1) .(1)) (Ze (ZB (Ze (Zb s1) (Ze (Zb s2) (Ze (Zb s3) Zj)))<|OD .(2)) (Ze (ZB (Ze (Zb s1) (Ze (Zb s2) Zj))<|OD .(2)) Zj)) rfl).trans
   (QE W S [k,h,g] [k,h] (by intro j hj;simp at hj;rcases hj with rfl|rfl|rfl;exact Rz hs;exact Rz ht;exact j0) (by intro j hj;simp at hj;rcases hj with rfl|rfl;rw[hs];rfl;rw[ht];rfl)))
 have e2:fB (f2 kEq ?c ?b) sl om=false\om:=ZQ (v2 s2 s1<|(XM _ _ _).trans (by rw[aG .(0)]))
 have e3:ZR (Zn c.Orders "need_beside" 3 (Z7 c) ?a #[?b,?d]) sl om=(.nx,sl)\om:=
  ZW (Zv (Zb s0) (Zu S.o) (Z8 _ _ _ .(1) .(1)) (Ze (Zb s1) (Ze (Zb s3) Zj)) rfl<|VH W S (Rz hs) j0 hk)
 have e4:sIf (fB (f2 kNe ?d ?c)) (ZR (Zn c.Orders "need_beside" 3 (Z7 c) ?a #[?c,?d])) Yr sl om=(.nx,sl)\om:=by
  have t:fB (f2 kNe ?d ?c) sl om=(!decide ((qE:Int)+g=(qE:Int)+h))\om:=ZQ (v2 s3 s2<|Tw _ _ _);by_cases hq:h=g
  ·rw[bG .(0)]at t
   exact ZM t
  ·rw[aG .(0)]at t
   refine Z9 t<|ZW (Zv (Zb s0) (Zu S.o) (Z8 _ _ _ .(1) .(1)) (Ze (Zb s2) (Ze (Zb s3) Zj)) rfl<|VH W S (Rz ht) j0 (hh.resolve_left hq))
 refine Wi (sl1:=sl) ?_;show _=_;have st:W6 4 [.o ho,.int ((qE:Int)+k),.int ((qE:Int)+h),.int ((qE:Int)+g)]=sl:=by rw[← kL];rfl
 rw[st];exact Zh e1<|(Zh (ZM e2)).trans (Zh e3<|(Zh e4).trans (EW S (o:=.help h g) (ZB (Ze Zp (Ze (Zb s2) (Ze (Zb s3) Zj)))<|YX .(2)) s0 s1 iZ))
def mvG(gs:Gs)(k:Nat):Bool:=Wg (some ((gs.lookup k).getD .stand))
def RQ:∀{l m:iK},l.Pairwise (· < ·)->m.Pairwise (· < ·)->(∀p,p∈l ↔ p∈m)->l=m
 |[],[],_,_,_=>rfl
 |[],y::m,_,_,h=>absurd ((h y).mpr (.head _)) .(2)
 |x::l,[],_,_,h=>absurd ((h x).mp (.head _)) .(2)
 |x::l,y::m,h1,h2,h=>by
  have jV:=bU.mp h1;have jB:=bU.mp h2
  have e:x=y:=by
   rcases aN.mp ((h x).mp (.head _)) with hx|hx
   ·exact hx
   ·rcases aN.mp ((h y).mpr (.head _)) with hy|hy
    ·exact hy.symm
    ·have a:=jV.1 y hy
     have b:=jB.1 x hx;omega
  subst e;rw[RQ jV.2 jB.2 λp=>⟨λhp=>?_,λhp=>?_⟩]
  ·rcases aN.mp ((h p).mp (.tail _ hp)) with z|z
   ·have:=jV.1 p hp;omega
   ·exact z
  ·rcases aN.mp ((h p).mpr (.tail _ hp)) with z|z
   ·have:=jB.1 p hp;omega
   ·exact z
def LK{l:iK}(nd:l.Nodup):(XI l).Pairwise (· < ·):=by
 have hn:(XI l).Nodup:=(YD l).nodup_iff.mpr nd
 exact((UI l).and hn).imp λ{x y} h=>by
  have:=h.1;have:=h.2;omega
def WM(qE:Nat)(T:Nat->Option Od)(n:Nat):iK:=((List.range n).filter λk=>Wg (T k)).map λ(k:Nat)=>(qE:Int)+k
def O8(qE:Nat)(T:Nat->Option Od)(n:Nat):(WM qE T n).Pairwise (· < ·):=by
 unfold WM;refine cp.mpr ((List.Pairwise.filter _ f8).imp λ{a b} h=>?_);show(qE:Int)+a<qE+b;omega
def Jo{gs:Gs}{T:Nat->Option Od}(h:Tell gs T)(qE n:Nat)(hn:∀k o,T k=some o->k<n):XI ((gs.filter λp=>Wg (some p.2)).map λp=>(qE:Int)+p.1)=WM qE T n:=by
 refine RQ (LK ?_) (O8 qE T n) λp=>?_
 ·have nd:((gs.filter λp=>Wg (some p.2)).map (·.1)).Nodup:=h.nd.sublist (List.Sublist.map _ (bZ ..))
  refine cp.mpr ((cp.mp nd).imp λ{a b} jQ z=>jQ ?_);have z:(qE:Int)+a.1=qE+b.1:=z;omega
 ·rw[(YD _).mem_iff]
  unfold WM;constructor
  ·intro hp
   obtain⟨q,hq,rfl⟩:=aY.mp hp;obtain⟨pI,pJ⟩:=aQ.mp hq;have hk:=h.key q.1 q.2 (VX h.nd pI);exact aY.mpr ⟨q.1,aQ.mpr ⟨bR.mpr (hn _ _ hk),by rw[hk];exact pJ⟩,rfl⟩
  ·intro hp
   obtain⟨k,hk,rfl⟩:=aY.mp hp;obtain⟨_,ki⟩:=aQ.mp hk
   match hT:T k with
   |none=>rw[hT]at ki;cases ki
   |some o=>
    rw[hT]at ki;have hg:=h.get k o hT;cases hl:gs.lookup k with
    |none=>
     rw[hl]at hg;have hg:Od.stand=o:=hg;subst hg;cases ki
    |some q=>
     rw[hl]at hg;have hg:q=o:=hg;subst hg;exact aY.mpr ⟨(k,q),aQ.mpr ⟨QK hl,ki⟩,rfl⟩
def VL:∀ns:iK,Xv (ns.map Wv.int)=some ns
 |[]=>rfl
 |n::r=>by
  show(match Xv (r.map Wv.int) with|some is=>some (n::is)|none=>none)=_;rw[VL r]
def KA(qE:Nat)(o:Od)(om:iV):U6 (TM qE o) om=(.bl (Wg (some o)))\om:=by
 cases o <;> rfl
def Gu(c:CA)(qE:Nat)(gs:Gs):((Xc c qE gs).map λp=>SO p.1)=(gs.map λp=>(qE:Int)+p.1).map Wv.int:=by
 unfold Xc;rw[bA,bA];rfl
def QS{k:iR->Mw Wv}{cT:FT}{fE:FE}(pK:∀iu (w:Wv),∀j:Nat,w=.int ((qE:Int)+j)->iu[ho]?=some (Y9 c hb hg)->iu[hg]?=some (.dz (Xc c qE gs))->cT [some w,some (.o ho)] iu=(mvG gs j)\iu)(pL:∀w iu,fE [some w,some (.o ho)] iu=w\iu)(S:Os c om ho hb hg qE gs)(nd:(gs.map (·.1)).Nodup)(iZ:gs.length<100):VP k [0] (f1 (ZG c.Orders "given") ?a) cT fE [some (.o ho)] om=k (((gs.filter λp=>Wg (some p.2)).map λp=>(qE:Int)+p.1).map Wv.int) om:=by
 have ja:=ZT;have nb:hg≠ho:=λz=>by have h:=S.g;subst z;rw[S.o]at h;cases h
 have jg:hg<om.length:=(aJ.mp S.g).1;have a1:(om.set hg (.dz (Xc c qE gs)))[ho]?=some (Y9 c hb hg):=by rw[bJ nb];exact S.o
 have a2:(om.set hg (.dz (Xc c qE gs)))[hg]?=some (.dz (Xc c qE gs)):=by rw[bQ jg]
 unfold VP;rw[Zm (Yd rfl S.o (Pl ..))];refine(Zm (a:=(true,hg,(Xc c qE gs).map λp=>SO p.1)) (qH:=om.set hg (.dz (Xc c qE gs))) ?_).trans ?_
 ·have h1:(Xc c qE gs).length<=lim:=by rw[Jh];omega
  simp[Iw,S.g,h1]
 dsimp only;have pj:∀j:Nat,((qE:Int)+j-qE).toNat=j:=λj=>by omega
 have e:=SJ (c:=cT) (f:=fE) (mk:=λw=>XN [0] w [some (.o ho)]) (om:=om.set hg (.dz (Xc c qE gs))) (λw=>match w with|.int i=>mvG gs (i-qE).toNat|_=>false) (λw=>w) (l:=(Xc c qE gs).map λp=>SO p.1)
  (λw hw=>by
   rw[Gu]at hw;obtain⟨i,hi,rfl⟩:=aY.mp hw;obtain⟨p,hp,rfl⟩:=aY.mp hi;show cT [some (.int ((qE:Int)+p.1)),some (.o ho)] _=(mvG gs ((qE:Int)+p.1-qE).toNat)\_;rw[pj];exact pK _ _ p.1 rfl a1 a2) (λw hw _=>pL w _)
 rw[Zm e];refine(Zm (a:=()) (qH:=om) ?_).trans ?_
 ·have:(om.set hg (.dz (Xc c qE gs))).set hg (.dk (Xc c qE gs))=om:=by
   rw[fr]
   exact de λi=>by
    by_cases h:hg=i
    ·subst h;rw[bQ jg,S.g]
    ·rw[bJ h]
  simp only[Hk,a2,this,if_true]
 ·refine cE (λl=>k l om) ?_
  rw[List.map_id',Gu,bA];clear e a1 a2 jg nb
  have key:∀l:Gs,(∀p∈l,gs.lookup p.1=some p.2)->(l.map (Wv.int ∘ λp=>(qE:Int)+p.1)).filter (λw=>match w with|.int i=>mvG gs (i-qE).toNat|_=>false)=((l.filter λp=>Wg (some p.2)).map λp=>(qE:Int)+p.1).map Wv.int:=by
   intro l
   induction l with
   |nil=>intro _;rfl
   |cons p l ih=>
    intro hp;have h1:=hp p (.head _)
    have e1:mvG gs ((qE:Int)+p.1-qE).toNat=Wg (some p.2):=by
     rw[pj];unfold mvG;rw[h1];rfl
    rw[aS,cN,cN];show(if mvG gs ((qE:Int)+p.1-qE).toNat=true then _ else _)=_;rw[e1,ih λq hq=>hp q (.tail _ hq)];cases Wg (some p.2) <;> rfl
  exact key gs λp hp=>VX nd hp
def G7{T:Nat->Option Od}{n:Nat}(S:Os c om ho hb hg qE gs)(t:Tell gs T)(hn:∀k o,T k=some o->k<n)(iZ:gs.length<=60):ZV c [.o ho] om=(.lst ((WM qE T n).map Wv.int))\om/\Qc c [.o ho] om=(.o om.length)\(om++[.lst ((WM qE T n).map Wv.int)]):=by
 have ja:=ZT;have hE:∀(w:Wv) (iu:iV),?a [some w,some (.o ho)] iu=w\iu:=λw iu=>Zb rfl
 have hT:∀(iu:iV) (w:Wv),∀j:Nat,w=.int ((qE:Int)+j)->iu[ho]?=some (Y9 c hb hg)->iu[hg]?=some (.dz (Xc c qE gs))->(fB (f1 U6 (Zn c.Orders "goal_of" 2 (Zo c) ?b #[?a]))) [some w,some (.o ho)] iu=(mvG gs j)\iu:=λiu w j hw h1 h2=>by
  subst hw;exact ZQ (XU (Zv (Zb rfl) (Zu h1) (Z8 _ _ _ .(1) .(1)) (Ze (Zb rfl) Zj) rfl<|K3 h1 (.inr h2) j)<|KA _ _ _)
 generalize hL:((gs.filter λp=>Wg (some p.2)).map λp=>(qE:Int)+p.1)=L;have hLl:L.length<=gs.length:=by rw[← hL,aB];exact aI _ _
 have es:XI L=WM qE T n:=by rw[← hL];exact Jo t qE n hn
 have hml:((WM qE T n).map Wv.int).length<=gs.length:=by rw[aB,← es,(YD L).length_eq];exact hLl
 have srt:∀k:iR->Mw Wv,Vl k [.lst (L.map Wv.int)] om=k ((WM qE T n).map Wv.int) om:=λk=>by
  show(match Xv (L.map Wv.int) with|some ns=>if ns.length<64 then k ((XI ns).map Wv.int) om else none|none=>none)=_;rw[VL];show(if L.length<64 then k ((XI L).map Wv.int) om else none)=_;rw[aC .(0),es]
 have lay:ZL (L.map Wv.int) om=(.lst (L.map Wv.int))\om:=by
  unfold ZL;rw[aC .(3)];rfl
 refine⟨ZD (Zw (ZB (Ze (QS hT hE S t.nd .(0)<|(by rw[hL];exact lay)) Zj)<|(srt ZL).trans ?_)),ZD (Zw (ZB (Ze (QS hT hE S t.nd .(0)<|(by rw[hL];exact lay)) Zj)<|(srt Wb).trans ?_))⟩
 ·unfold ZL
  rw[aC .(0)];rfl
 ·unfold Wb
  rw[aC .(0)];rfl
end
def D7:∀(n:Nat) (l:iL),l.Nodup->(∀x∈l,x<n)->l.length<=n
 |0,[],_,_=>aM _
 |0,x::_,_,h=>absurd (h x (.head _)) .(0)
 |n+1,l,nd,h=>by
  have h1:=D7 n (l.erase n) (nd.erase n) λx hx=>by
   have q:=(List.Nodup.mem_erase_iff nd).mp hx;have:=h x q.2;have:=q.1;omega
  have h2:l.length<=(l.erase n).length+1:=by rw[List.length_erase];split <;> omega
  omega
def Tell.len{gs:Gs}{T:Nat->Option Od}{n:Nat}(h:Tell gs T)(hn:∀k o,T k=some o->k<n):gs.length<=n:=by
 rw[← aB (f:=(·.1))];refine D7 n _ h.nd λx hx=>?_
 obtain⟨p,hp,rfl⟩:=aY.mp hx;exact hn _ _ (h.key p.1 p.2 (VX h.nd hp))
def KH{om:iV}{i:Nat}{x:Ob}(h:om[i]?=some x):om.set i x=om:=de λj=>by
 by_cases e:i=j
 ·subst e;rw[bQ (aJ.mp h).1,h]
 ·rw[bJ e]
section
variable{c:CA}{om:iV}{ho hb hm hu hl hg size qE:Nat}{f:iF}{kvs:iT}{gs:Gs}{qF:Mx}
def Os.at(S:Os c om ho hb hg qE gs)(j4:Gs):Os c (om.set hg (.dk (Xc c qE j4))) ho hb hg qE j4:=by
 have nb:hg≠ho:=λz=>by have h:=S.g;subst z;rw[S.o]at h;cases h
 exact⟨by rw[bJ nb];exact S.o,by rw[bQ (aJ.mp S.g).1]⟩
def gvn(gs:Gs)(k:Nat):Option Od->Gs
 |none=>gs
 |some o=>Qq gs k o
def CU(o:Od)(om:iV):Wk false (.str (odN o)) (.str "stand") om=(.bl (decide (odN o="stand")))\om:=O5 _ _ (NQ o) KP _
def A9{tw:Wv}{qD:iW}(W:Wd c om hb hm hu hl size qE f kvs)(S:Os c om ho hb hg qE gs)(mo:NU qF qE kvs)(G:Givn qF f qD)(ht:Y4 om tw=some (qD.map odW)){k:Nat}(hk:k<f.length)(iZ:gs.length<100):V4 c [.o ho,.int qE,tw,.int k] om=.non\om.set hg (.dk (Xc c qE (gvn gs k (at' qD k)))):=by
 have hkt:k<qD.length:=by rw[G.len];exact hk
 have ok:=G.ok k hk
 have e0:∀{o:Option Od},at' qD k=o->ZC 4 (f2 kIx ?c ?d) [some (.o ho),some (.int qE),some tw,some (.int k),none] om=(.nx,[some (.o ho),some (.int qE),some tw,some (.int k),some (odW o)])\om:=λ{o} ho=>by
  have e:=Q4 (k:=k) ht hkt none;rw[show qD.getD k none=o from ho]at e;exact Zt (i:=4) (v2 rfl rfl<|e)
 have hl2:∀{i j:Nat},X2 qF i j=true->Ut kvs ((qE:Int)+i) ((qE:Int)+j)=true:=λ{i j} h=>(mo _ _).mpr ⟨i,j,rfl,rfl,h⟩
 match ls:at' qD k,ok with
 |none,ok=>
  have t:fB (f1 VA ?e) [some (.o ho),some (.int qE),some tw,some (.int k),some (odW none)] om=true\om:=ZQ (XU (Zb rfl)<|rfl);rw[show gvn gs k none=gs from rfl,KH S.g];exact ZD (Zh (e0 ls)<|Ys (Z9 t<|rfl))
 |some o,ok=>
  have t:fB (f1 VA ?e) [some (.o ho),some (.int qE),some tw,some (.int k),some (odW (some o))] om=false\om:=ZQ (XU (Zb rfl)<|isN_od _ _);have t1:fB (f2 kEq (f2 kIx ?e ?A) (fC (.str "stand"))) [some (.o ho),some (.int qE),some tw,some (.int k),some (odW (some o))] om=(decide (odN o="stand"))\om:=ZQ (Zr (Zr (Zb rfl) Zp<|od_0 o _) Zp<|CU _ _);have t2:fB (f2 kEq (f2 kIx ?e ?A) (fC (.str "move"))) [some (.o ho),some (.int qE),some tw,some (.int k),some (odW (some o))] om=(decide (odN o="move"))\om:=ZQ (Zr (Zr (Zb rfl) Zp<|od_0 o _) Zp<|O5 _ _ (NQ o) Lu _);have ak:f2 WD ?b ?d [some (.o ho),some (.int qE),some tw,some (.int k),some (odW (some o))] om=(.int ((qE:Int)+k))\om:=v2 rfl rfl<|rfl;refine Wi (sl1:=[some (.o ho),some (.int qE),some tw,some (.int k),some (odW (some o))]) (Zh (e0 ls)<|(Zh (ZM t)).trans ?_)
  match o,ok with
  |.stand,ok=>
   obtain⟨s,hs⟩:=aO.mp ok;exact Z9 t1<|ZW (Zv (Zb rfl) (Zu S.o) (Z8 _ _ _ .(1) .(1)) (Ze ak Zj) rfl<|DE W S hs iZ)
  |.move g,ok=>
   obtain⟨s,hs⟩:=aO.mp ok.1;have ag:f2 WD ?b (f2 kIx ?e ?B) [some (.o ho),some (.int qE),some tw,some (.int k),some (odW (some (.move g)))] om=(.int ((qE:Int)+g))\om:=Zr (Zb rfl) (Zr (Zb rfl) Zp<|od_m g _)<|rfl;exact VT t1<|(Z9 t2).trans (ZW (Zv (Zb rfl) (Zu S.o) (Z8 _ _ _ .(1) .(1)) (Ze ak (Ze ag Zj)) rfl<|Av W S hs ok.2.1 (hl2 ok.2.2) iZ))
  |.help h g,ok=>
   obtain⟨s,hs⟩:=aO.mp ok.1;obtain⟨_,hh,j0,jw,kC,l1,l2⟩:=ok;obtain⟨s2,lP⟩:=aO.mp kC;have ah:f2 WD ?b (f2 kIx ?e ?B) [some (.o ho),some (.int qE),some tw,some (.int k),some (odW (some (.help h g)))] om=(.int ((qE:Int)+h))\om:=Zr (Zb rfl) (Zr (Zb rfl) Zp<|od_h h g _)<|rfl;have ag:f2 WD ?b (f2 kIx ?e ?C) [some (.o ho),some (.int qE),some tw,some (.int k),some (odW (some (.help h g)))] om=(.int ((qE:Int)+g))\om:=Zr (Zb rfl) (Zr (Zb rfl) Zp<|od_g h g _)<|rfl;exact VT t1<|(VT t2).trans (ZW (Zv (Zb rfl) (Zu S.o) (Z8 _ _ _ .(1) .(1)) (Ze ak (Ze ah (Ze ag Zj))) rfl<|aid_in W S hs lP j0 jw (hl2 l1) (l2.imp id hl2) iZ))
def SI(qD:iW)(T:Nat->Option Od)(k j:Nat):Option Od:=if j<k then at' qD j else T j
def Fz(qD:iW)(T:Nat->Option Od):SI qD T 0=T:=by funext j;unfold SI;rw[aD .(0)]
def Ez(qD:iW)(T:Nat->Option Od)(k:Nat):SI qD T (k+1)=λj=>if j=k then at' qD k else SI qD T k j:=by
 funext j;unfold SI;by_cases h:j=k
 ·subst h;rw[aC .(0),aC rfl]
 ·rw[aD h]
  by_cases h2:j<k
  ·rw[aC h2,aC .(0)]
  ·rw[aD h2,aD .(0)]
def Same'(f:iF)(T:Nat->Option Od):Prop:=∀j,(T j).isSome=(at' f j).isSome
def Givn.same{qD:iW}(G:Givn qF f qD):Same' f (at' qD):=λj=>by
 by_cases h:j<f.length
 ·have:=G.okT.both j (by rw[G.len];exact h)
  exact dU.mpr this
 ·rw[UU h,UU (by rw[G.len];exact h)];rfl
def Same'.lt{T:Nat->Option Od}(h:Same' f T):∀k o,T k=some o->k<f.length:=λk o e=>by
 have q:=h k;rw[e]at q;obtain⟨s,hs⟩:=aO.mp q.symm;exact Rz hs
def Same'.mix{qD:iW}{T:Nat->Option Od}(G:Givn qF f qD)(h:Same' f T)(k:Nat):Same' f (SI qD T k):=λj=>by
 unfold SI;by_cases hj:j<k
 ·rw[aC hj];exact G.same j
 ·rw[aD hj];exact h j
def Tell.give{qD:iW}{T:Nat->Option Od}{k:Nat}(G:Givn qF f qD)(hs:Same' f T)(t:Tell gs (SI qD T k)):Tell (gvn gs k (at' qD k)) (SI qD T (k+1)):=by
 rw[Ez]
 match h:at' qD k with
 |none=>
  have e:(λj=>if j=k then (none:Option Od) else SI qD T k j)=SI qD T k:=by
   funext j;by_cases hj:j=k
   ·subst hj
    rw[aC rfl];have a:=G.same j;have b:=hs j;unfold SI;rw[aD .(0)];rw[h]at a;rw[← a]at b;cases q:T j with
    |none=>rfl
    |some o=>rw[q]at b;cases b
   ·rw[aD hj]
  rw[e];exact t
 |some o=>exact t.put k o
def G8{tw:Wv}{qD:iW}{T:Nat->Option Od}{B:FS}{i:Nat}{sl:Sl}(W:Wd c om hb hm hu hl size qE f kvs)(S:Os c om ho hb hg qE gs)(jw:hg≠hu)(mo:NU qF qE kvs)(G:Givn qF f qD)(t:Tell gs T)(hs:Same' f T)(ht:∀iu,(∀j,j≠hg->iu[j]?=om[j]?)->Y4 iu tw=some (qD.map odW)) (hB:∀(k:Nat) qH om2,V4 c [.o ho,.int qE,tw,.int k] qH=.non\om2->(∀j,j≠hg->qH[j]?=om[j]?)->B (sl.set i (some (.int k))) qH=(.nx,sl.set i (some (.int k)))\om2):∃j4 x,WS (tgN i) B (Vj f.length) sl om=(.nx,sl.set i x)\om.set hg (.dk (Xc c qE j4))/\Tell j4 (at' qD):=by
 have kL:∀l:Sl,l=l.set i ((l[i]?).getD none):=λl=>de λj=>by
  by_cases h:i=j
  ·subst h
   by_cases jg:i<l.length
   ·rw[bQ jg];simp[jg]
   ·rw[bP .(0),bP .(6)]
  ·rw[bJ h]
 obtain⟨jc,iu,hf,j4,x,rfl,rfl,t'⟩:=WU (T:=tgN i) (S:=B) (n:=f.length) (λk jc iu=>∃j4 x,jc=sl.set i x/\iu=om.set hg (.dk (Xc c qE j4))/\Tell j4 (SI qD T k)) (sl:=sl) (om:=om) (λk hk jc iu ⟨j4,x,e1,e2,t'⟩=>by
  subst e1 e2;have hg1:j4.length<=f.length:=t'.len (Same'.mix G hs k).lt;have hf:=W.few;have oF:=W.fit;have oth:∀j,j≠hg->(om.set hg (.dk (Xc c qE j4)))[j]?=om[j]?:=λj hj=>by rw[bJ (cI hj)]
  have e:=A9 (W.set (x:=.dk (Xc c qE j4)) S.g jw) (S.at j4) mo G (ht _ oth) hk .(0);rw[fr]at e;refine⟨sl.set i (some (.int k)),.nx,_,_,?_,hB k _ _ e oth,.inl rfl,_,_,rfl,rfl,t'.give G hs⟩;unfold tgN;rw[fr]) ⟨gs,(sl[i]?).getD none,kL sl,(KH S.g).symm,by rw[Fz];exact t⟩
 refine⟨j4,x,hf,?_⟩
 have e:SI qD T f.length=at' qD:=by
  funext j;unfold SI;by_cases h:j<f.length
  ·rw[aC h]
  ·rw[aD h,UU (by rw[G.len];exact h)]
   have:=hs j;rw[UU h]at this;cases q:T j with
   |none=>rfl
   |some o=>rw[q]at this;cases this
 rw[← e];exact t'
def Lj(c:CA)(om:iV)(hb:Nat):XS c.Orders 2 (XV c) [.o hb] om=(.o om.length)\(om++[Y9 c hb (om.length+1),.dk []]):=by
 simp[XV,Ss,XS,bnd,kN,chk,L2.ret,Yc,Zx,Xs,Za,W6,N7,Wm,Fm,newO,WJ,Hv]
def new_Os(c:CA)(om:iV)(hb qE:Nat):Os c (om++[Y9 c hb (om.length+1),.dk []]) om.length hb (om.length+1) qE []:=⟨.(2),by simp[Xc]⟩
def bd_Wd{qG:Nat}(hf:f.length=qG)(h1:qE+qG<=size)(h2:size<=60):Wd c (Wq c om size kvs (Xf qE f qG)) (om.length+2) om.length (om.length+3) (om.length+1) size qE f kvs:=by
 subst hf;exact⟨by simp[Wq],by simp[Wq],⟨_,by simp[Wq],.refl _⟩,by simp[Wq],h1,h2⟩
end
end MP
namespace MP
noncomputable section
open PySem L2
def NS(c:CA):FT:=
 (VS (fB (f2 kEq (Zn c.Orders "goal_of" 2 (Zo c) ?b #[?a]) ?c)) (fB (f2 kNe (Zn c.Board "side_at" 2 (Zz c) (f1 (ZG c.Orders "board") ?b) #[?a]) ?d)))
def NV(c:CA):FE:=
 ?a
def Qs(c:CA):FE:=
 (f2 kNe ?a (f2 (Uc c.STAND) ?b ?C))
def D9(c:CA):FS:=
 (Zx (ZC 2 (Zn c.Orders "told" 2 (Z6 c) ?a #[?b]))
  (Zx (sIf (fB (f2 kNe (f2 (Uc c.STAND) ?c ?A) (fC (.str "help")))) (Ye (fC (.bl false))) Yr)
  (Zx (ZC 3 (Zn c.Board "side_at" 2 (Zz c) (f1 (ZG c.Orders "board") ?a) #[?b]))
  (Zx (ZC 4 (Yk ZL [0,1,3] (λsl=>bnd ((Zn c.Orders "movers" 1 (ZV c) ?a Zi) sl) ZO) (NS c) (NV c)))
  (Ye (fA Bs #[Yk ZL [2] (λsl=>bnd (?e sl) ZO) Xl (Qs c)]))))))
def Oz(c:CA):iR->Mw Wv:=Yc 5 (D9 c)
def S_fits(c:CA):FS:=
 (Zx (sIf (fB (f2 kEq ?c ?b)) (Ye (f1 VA (Zn c.Orders "goal_of" 2 (Zo c) ?a #[?b]))) Yr)
  (Ye (f2 kEq (Zn c.Orders "goal_of" 2 (Zo c) ?a #[?b]) ?c)))
def Hq(c:CA):iR->Mw Wv:=Yc 3 (S_fits c)
def Cq(c:CA):FS:=
 (Zx (ZC 2 (Zn c.Orders "told" 2 (Z6 c) ?a #[?b]))
  (Ye (UE (f2 kEq (f2 (Uc c.STAND) ?c ?A) (fC (.str "help"))) (UE (fA (kN 3 (Hq c)) #[?a,f2 (Uc c.STAND) ?c ?B,f2 (Uc c.STAND) ?c ?C]) (f1 Ma (fA (kN 2 (Oz c)) #[?a,?b]))))))
def Nf(c:CA):iR->Mw Wv:=Yc 3 (Cq c)
def BH(c:CA):FS:=
 (Zx (ZC 3 (Zn c.Orders "told" 2 (Z6 c) ?a #[?b]))
  (Ye (UE (f2 kEq (f2 (Uc c.STAND) ?d ?A) (fC (.str "help"))) (UE (f2 kEq (f2 (Uc c.STAND) ?d ?B) ?c) (fA (kN 2 (Nf c)) #[?a,?b])))))
def Le(c:CA):iR->Mw Wv:=Yc 4 (BH c)
def IB(c:CA):FT:=
 (Xm (fA (kN 3 (Le c)) #[?c,?a,?d]))
def Hr(c:CA):FE:=
 ?b
def FL(c:CA):FS:=
 (Ye (Xy ZL 2 [0,1] (λsl=>bnd ((Zn c.Board "roll" 1 (ZJ c) (f1 (ZG c.Orders "board") ?a) Zi) sl) ZO) (IB c) (Hr c)))
def Uz(c:CA):iR->Mw Wv:=Yc 2 (FL c)
def AT(c:CA):FS:=
 (Zx (sIf (fB (f1 VA (Zn c.Orders "goal_of" 2 (Zo c) ?a #[?b]))) (Ye ?A) Yr)
  (Ye (f2 WD ?B (fA Ws #[fA (kN 2 (Uz c)) #[?a,?b]]))))
def L1(c:CA):iR->Mw Wv:=Yc 2 (AT c)
def RX(c:CA):FT:=
 (fB (f2 kNe ?a ?b))
def Qw(c:CA):FE:=
 ?a
def Pd(c:CA):FS:=
 (Zx (sIf (fB (f1 VA (Zn c.Orders "goal_of" 2 (Zo c) ?a #[?b]))) (Ye ?A) Yr)
  (Ye (f2 WD ?B (fA Ws #[Yk ZL [2] (λsl=>bnd ((fA (kN 2 (Uz c)) #[?a,?b]) sl) ZO) (RX c) (Qw c)]))))
def W4(c:CA):iR->Mw Wv:=Yc 3 (Pd c)
def IM(c:CA):FS:=
 (Zx (sIf (fB (f1 U6 (Zn c.Orders "goal_of" 2 (Zo c) ?a #[?b]))) (Ye ?B) Yr)
  (Ye (f2 WD ?B (fA Ws #[fA (kN 2 (Uz c)) #[?a,?b]]))))
def UM(c:CA):iR->Mw Wv:=Yc 2 (IM c)
end
open PySem L2
def Yi{α:Type}{cT:FT}{f:FE}{mk:Wv->Sl}{om:iV}(φ:α->Wv)(p:α->Bool)(g:α->Wv):∀{l:List α},(∀a∈l,cT (mk (φ a)) om=(p a)\om)->(∀a∈l,p a=true->f (mk (φ a)) om=(g a)\om)->Xk cT f mk (l.map φ) om=((l.filter p).map g)\om
 |[],_,_=>rfl
 |a::l,h1,h2=>by
  have ih:=Yi φ p g (l:=l) (λb hb=>h1 b (.tail _ hb)) (λb hb=>h2 b (.tail _ hb));have c1:Z0 (cT (mk (φ a))) om=(p a)\om:=by simp[Z0,h1 a (.head _)]
  rw[aS];show bnd (Z0 (cT (mk (φ a)))) (MB (Xk cT f mk (l.map φ)) (f (mk (φ a)))) om=_;rw[Zm c1,cN];cases hp:p a with
  |false=>exact ih
  |true=>
   have c2:Z0 (f (mk (φ a))) om=(g a)\om:=by simp[Z0,h2 a (.head _) hp]
   show bnd (Z0 (f (mk (φ a)))) (λx=>bnd (Xk cT f mk (l.map φ)) λxs=>L2.ret (x::xs)) om=_;rw[Zm c2,Zm ih];rfl
def S4{α:Type}(b:α->Bool):∀l:List α,Ub (l.map λa=>Wv.bl (b a))=some (l.map b)
 |[]=>rfl
 |a::l=>by
  show(match Ub (l.map λa=>Wv.bl (b a)) with|some bs=>some (b a::bs)|none=>none)=_;rw[S4 b l];rfl
def E8(c:CA)(qE:Nat)(o:Od)(om:iV):Uc c.STAND (odG c qE o) (.int 0) om=(.str (odN o))\om:=by
 unfold Uc;cases o with
 |stand=>rw[show odG c qE .stand=.g c.STAND from rfl,EO];exact ZP (k:=0) rfl rfl
 |move g=>exact ZP (k:=0) rfl rfl
 |help h g=>exact ZP (k:=0) rfl rfl
def odG_1(c:CA)(qE h g:Nat)(om:iV):Uc c.STAND (odG c qE (.help h g)) (.int 1) om=(.int ((qE:Int)+h))\om:=ZP (k:=1) rfl rfl
def odG_2(c:CA)(qE h g:Nat)(om:iV):Uc c.STAND (odG c qE (.help h g)) (.int 2) om=(.int ((qE:Int)+g))\om:=ZP (k:=2) rfl rfl
def RU{fa fb:FE}{sl:Sl}{om qH:iV}(h:fa sl om=(.bl false)\qH):UE fa fb sl om=(.bl false)\qH:=by simp[UE,bnd,h,kB,L2.ret]
def Pr{fa fb:FE}{sl:Sl}{om:iV}{a b:Bool}(h:fa sl om=(.bl a)\om)(h2:a=true->fb sl om=(.bl b)\om):UE fa fb sl om=(.bl (a&&b))\om:=by
 cases a with
 |false=>exact RU h
 |true=>exact Lq h<|h2 rfl
def OP(qE a b:Nat):decide ((qE:Int)+a=(qE:Int)+b)=decide (a=b):=by
 by_cases h:a=b
 ·rw[bG h,bG .(0)]
 ·rw[aG h,aG .(0)]
def Pj(qE:Nat)(o:Od)(g:Nat)(om:iV):Wk false (TM qE o) (.int ((qE:Int)+g)) om=(.bl (decide (o=.move g)))\om:=by
 cases o with
 |stand=>simp[TM,Wk,Xz,XJ,VI,PyData.canLay0,PyData.depth,PyData.eqv]
 |help a b=>simp[TM,Wk,Xz,XJ,VI,PyData.canLay0,PyData.depth,PyData.eqv]
 |move a=>
  refine(XM _ _ _).trans ?_;rw[OP];by_cases h:a=g
  ·subst h;simp
  ·rw[aG h,aG (λz=>h (Od.move.inj z))]
def P3(qE:Nat)(o:Od)(om:iV):VA (TM qE o) om=(.bl (!Wg (some o)))\om:=by cases o <;> rfl
section
variable{c:CA}{om:iV}{ho hb hm hu hl hg size qE:Nat}{f:iF}{kvs:iT}{gs:Gs}{qF:Mx}{qD:iW}
def A8(qD:iW)(f:iF)(k:Nat):Bool:=match at' qD k with
 |some (.help _ g)=>IU qD f k g
 |_=>false
def Ha(W:Wd c om hb hm hu hl size qE f kvs)(S:Os c om ho hb hg qE gs)(G:Givn qF f qD)(t:Tell gs (at' qD)){k:Nat}{o:Od}(h:at' qD k=some o):Z6 c [.o ho,.int ((qE:Int)+k)] om=(odG c qE o)\om:=by
 have hs:=G.same k;rw[h]at hs;obtain⟨s,e⟩:=aO.mp hs.symm;rw[Hz W S e,t.get k o h]
def LB(S:Os c om ho hb hg qE gs)(t:Tell gs (at' qD)){k:Nat}{o:Od}(h:at' qD k=some o):Zo c [.o ho,.int ((qE:Int)+k)] om=(TM qE o)\om:=by
 rw[BC S k,t.get k o h]
def J0(W:Wd c om hb hm hu hl size qE f kvs)(S:Os c om ho hb hg qE gs)(G:Givn qF f qD)(t:Tell gs (at' qD)):ZV c [.o ho] om=(.lst (((List.range f.length).filter λk=>Wg (at' qD k)).map λ(k:Nat)=>Wv.int ((qE:Int)+k)))\om:=by
 have h1:=t.len G.same.lt;have h2:=W.fit;have h3:=W.few;rw[(G7 (n:=f.length) S t G.same.lt .(0)).1];unfold WM;rw[bA];rfl
def cut_any(G:Givn qF f qD)(k g:Nat):(((List.range f.length).filter λm=>Wg (at' qD m)).filter λm=>decide (at' qD m=some (.move k))&&!decide (at' f m=at' f k)).any (λm=>!decide (m=g))=IU qD f k g:=by
 unfold IU;rw[G.len];refine dU.mpr ?_;rw[eU,eU];constructor
 ·rintro⟨m,hm,h⟩
  obtain⟨lW,jZ⟩:=aQ.mp hm;obtain⟨pM,_⟩:=aQ.mp lW;obtain⟨a,b⟩:=bO.mp jZ;exact⟨m,pM,by rw[a,h,b];rfl⟩
 ·rintro⟨m,hm,h⟩
  obtain⟨a,h2⟩:=bO.mp h;obtain⟨b,d⟩:=bO.mp h2;refine⟨m,aQ.mpr ⟨aQ.mpr ⟨hm,?_⟩,by rw[a,d];rfl⟩,b⟩;rw[bC a];rfl
def Eg(W:Wd c om hb hm hu hl size qE f kvs)(S:Os c om ho hb hg qE gs)(G:Givn qF f qD)(t:Tell gs (at' qD)){k:Nat}{o:Od}(h:at' qD k=some o):Oz c [.o ho,.int ((qE:Int)+k)] om=(.bl (A8 qD f k))\om:=by
 have ja:=ZT;have hk:k<f.length:=G.same.lt k o h;have h2:=W.fit;have h3:=W.few
 have e1:ZC 2 (Zn c.Orders "told" 2 (Z6 c) ?a #[?b]) [some (.o ho),some (.int ((qE:Int)+k)),none,none,none] om=(.nx,[some (.o ho),some (.int ((qE:Int)+k)),some (odG c qE o),none,none])\om:=
  Zt (i:=2) (Zv (Zb rfl) (Zu S.o) (Z8 _ _ _ .(1) .(1)) (Ze (Zb rfl) Zj) rfl<|Ha W S G t h)
 have t1:fB (f2 kNe (f2 (Uc c.STAND) ?c ?A) (fC (.str "help"))) [some (.o ho),some (.int ((qE:Int)+k)),some (odG c qE o),none,none] om=(!decide (odN o="help"))\om:=ZQ (Zr (Zr (Zb rfl) Zp<|E8 c qE o _) Zp<|ne_str _ _ (NQ o) Pg _);unfold A8;rw[h]
 match o,h with
 |.stand,h=>exact ZD (Zh e1<|Ys (Z9 t1<|Zw Zp))
 |.move g,h=>exact ZD (Zh e1<|Ys (Z9 t1<|Zw Zp))
 |.help q g,h=>
  have e3:ZC 3 (Zn c.Board "side_at" 2 (Zz c) (f1 (ZG c.Orders "board") ?a) #[?b]) [some (.o ho),some (.int ((qE:Int)+k)),some (odG c qE (.help q g)),none,none] om=(.nx,[some (.o ho),some (.int ((qE:Int)+k)),some (odG c qE (.help q g)),some (ZK (at' f k)),none])\om:=
   Zt (i:=3) (Zv (X8 S rfl) (Zu W.b) (Z1 _ _ _ .(1) .(1)) (Ze (Zb rfl) Zj) rfl<|MA W hk)
  generalize hA:((List.range f.length).filter λm=>Wg (at' qD m))=A
  have hAm:∀m∈A,m<f.length/\∃g',at' qD m=some (.move g'):=λm hm=>by
   rw[← hA]at hm;obtain⟨a,b⟩:=aQ.mp hm;refine⟨bR.mp a,?_⟩
   match e:at' qD m,b with
   |some (.move g'),_=>exact⟨g',rfl⟩
  have hAl:A.length<=f.length:=by rw[← hA];exact bL (aI _ _) .(2)
  have mv:=J0 W S G t;rw[hA]at mv;generalize hp:(λm=>decide (at' qD m=some (.move k))&&!decide (at' f m=at' f k))=p
  have e4:ZC 4 (Yk ZL [0,1,3] (λsl=>bnd ((Zn c.Orders "movers" 1 (ZV c) ?a Zi) sl) ZO) (NS c) (NV c)) [some (.o ho),some (.int ((qE:Int)+k)),some (odG c qE (.help q g)),some (ZK (at' f k)),none] om=(.nx,[some (.o ho),some (.int ((qE:Int)+k)),some (odG c qE (.help q g)),some (ZK (at' f k)),some (.lst ((A.filter p).map λ(m:Nat)=>Wv.int ((qE:Int)+m)))])\om:=by
   refine Zt (i:=4) ((XH (ws:=A.map λ(m:Nat)=>Wv.int ((qE:Int)+m)) (qH:=om) (Zm (Zv (Zb rfl) (Zu S.o) (Z8 _ _ _ .(1) .(1)) Zj rfl<|mv)<|rfl) .(3) (Yi (λ(m:Nat)=>Wv.int ((qE:Int)+m)) p (λ(m:Nat)=>Wv.int ((qE:Int)+m)) (λm hm=>?_) (λm hm _=>Zb rfl))).trans ?_)
   ·obtain⟨lW,g',jZ⟩:=hAm m hm
    rw[← hp];refine Up (ZQ (Zr (Zv (Zb rfl) (Zu S.o) (Z8 _ _ _ .(1) .(1)) (Ze (Zb rfl) Zj) rfl<|LB S t jZ) (Zb rfl)<|(Pj _ _ _ _).trans ?_)) λ_=>?_
    ·rw[jZ]
     simp
    ·exact ZQ (Zr (Zv (X8 S rfl) (Zu W.b) (Z1 _ _ _ .(1) .(1)) (Ze (Zb rfl) Zj) rfl<|MA W lW) (Zb rfl)<|Kl _ _ _)
   ·unfold ZL
    have:=aI p A;rw[aC .(3)];rfl
  have hfl:=aI p A
  have e5:fA Bs #[Yk ZL [2] (λsl=>bnd (?e sl) ZO) Xl (Qs c)] [some (.o ho),some (.int ((qE:Int)+k)),some (odG c qE (.help q g)),some (ZK (at' f k)),some (.lst ((A.filter p).map λ(m:Nat)=>Wv.int ((qE:Int)+m)))] om=(.bl (IU qD f k g))\om:=by
   have c1:Yk ZL [2] (λsl=>bnd (?e sl) ZO) Xl (Qs c) [some (.o ho),some (.int ((qE:Int)+k)),some (odG c qE (.help q g)),some (ZK (at' f k)),some (.lst ((A.filter p).map λ(m:Nat)=>Wv.int ((qE:Int)+m)))] om=(.lst ((A.filter p).map λm=>Wv.bl (!decide (m=g))))\om:=by
    refine(XH (ws:=(A.filter p).map λ(m:Nat)=>Wv.int ((qE:Int)+m)) (qH:=om) (Zm (a:=.lst ((A.filter p).map λ(m:Nat)=>Wv.int ((qE:Int)+m))) (qH:=om) (Zb rfl)<|rfl) .(3) (Yi (λ(m:Nat)=>Wv.int ((qE:Int)+m)) (λ_=>true) (λm=>Wv.bl (!decide (m=g))) (λm hm=>rfl) (λm hm _=>?_))).trans ?_
    ·refine(Zr (Zb rfl) (Zr (Zb rfl) Zp<|odG_2 c qE q g _)<|Tw _ _ _).trans ?_
     rw[OP]
    ·rw[bV.mpr (λ_ _=>rfl)]
     unfold ZL;rw[aC .(3)];rfl
   refine(ZB (Ze c1 Zj)).trans ?_;show(match Ub ((A.filter p).map λm=>Wv.bl (!decide (m=g))) with|some bs=>some (Except.ok (Wv.bl (bs.any id)),om)|none=>none)=_;rw[S4];show some (Except.ok (Wv.bl (((A.filter p).map λm=>!decide (m=g)).any id)),om)=_;rw[List.any_map,← cut_any G k g,hA,hp];rfl
  exact ZD (Zh e1<|(Zh (ZM t1)).trans (Zh e3<|(Zh e4).trans (Zw e5)))
def fits_in(S:Os c om ho hb hg qE gs)(t:Tell gs (at' qD)){h g:Nat}{o:Od}(e:at' qD h=some o):Hq c [.o ho,.int ((qE:Int)+h),.int ((qE:Int)+g)] om=(.bl (if h=g then !Wg (at' qD h) else decide (at' qD h=some (.move g))))\om:=by
 have t1:fB (f2 kEq ?c ?b) [some (.o ho),some (.int ((qE:Int)+h)),some (.int ((qE:Int)+g))] om=(decide (g=h))\om:=ZQ (v2 rfl rfl<|(XM _ _ _).trans (by rw[OP]));have gl:Zn c.Orders "goal_of" 2 (Zo c) ?a #[?b] [some (.o ho),some (.int ((qE:Int)+h)),some (.int ((qE:Int)+g))] om=(TM qE o)\om:=Zv (Zb rfl) (Zu S.o) (Z8 _ _ _ .(1) .(1)) (Ze (Zb rfl) Zj) rfl<|LB S t e;rw[e];by_cases hq:h=g
 ·rw[bG hq.symm]at t1
  rw[aC hq];exact ZD (Ys (Z9 t1<|Zw (XU gl<|P3 _ _ _)))
 ·rw[aG (cI hq)]at t1
  rw[aD hq];refine ZD (Zh (ZM t1)<|Zw (Zr gl (Zb rfl)<|(Pj _ _ _ _).trans ?_));simp
def G5(W:Wd c om hb hm hu hl size qE f kvs)(S:Os c om ho hb hg qE gs)(G:Givn qF f qD)(t:Tell gs (at' qD)){k:Nat}{o:Od}(h:at' qD k=some o):Nf c [.o ho,.int ((qE:Int)+k)] om=(.bl (WK qD f k))\om:=by
 have e1:ZC 2 (Zn c.Orders "told" 2 (Z6 c) ?a #[?b]) [some (.o ho),some (.int ((qE:Int)+k)),none] om=(.nx,[some (.o ho),some (.int ((qE:Int)+k)),some (odG c qE o)])\om:=
  Zt (i:=2) (Zv (Zb rfl) (Zu S.o) (Z8 _ _ _ .(1) .(1)) (Ze (Zb rfl) Zj) rfl<|Ha W S G t h)
 have t1:f2 kEq (f2 (Uc c.STAND) ?c ?A) (fC (.str "help")) [some (.o ho),some (.int ((qE:Int)+k)),some (odG c qE o)] om=(.bl (decide (odN o="help")))\om:=Zr (Zr (Zb rfl) Zp<|E8 c qE o _) Zp<|O5 _ _ (NQ o) Pg _;refine ZD (Zh e1<|Zw ?_) (sl1:=[some (.o ho),some (.int ((qE:Int)+k)),some (odG c qE o)]);unfold WK;rw[h]
 match o,h with
 |.stand,h=>exact RU t1
 |.move g,h=>exact RU t1
 |.help q g,h=>
  have hq:=(G.okT.hl k q g h);obtain⟨o2,e2⟩:=aO.mp (G.same q<|hq.2.2.2.2);have ic:=Eg W S G t h;have ei:A8 qD f k=IU qD f k g:=by unfold A8;rw[h]
  rw[ei]at ic;refine(Lq t1<|Pr (a:=if q=g then !Wg (at' qD q) else decide (at' qD q=some (.move g))) (b:=!IU qD f k g) (ZB (Ze (Zb rfl) (Ze (Zr (Zb rfl) Zp<|odG_1 c qE q g _) (Ze (Zr (Zb rfl) Zp<|odG_2 c qE q g _) Zj)))<|(Yz rfl).trans (fits_in S t e2)) λ_=>?_).trans ?_
  ·refine(XU (ZB (Ze (Zb rfl) (Ze (Zb rfl) Zj))<|(Yz rfl).trans ic)).trans ?_
   rfl
  ·rw[Bool.and_comm]
end
def V7(qD:iW)(f:iF)(h k:Nat):Bool:=match at' qD h with
 |some (.help q _)=>decide (q=k)&&WK qD f h
 |_=>false
def ZY(f:iF)(n:Nat):iL:=(List.range n).filter λh=>(at' f h).isSome
def JG(qE:Nat)(f:iF)(n:Nat):Xf qE f n=(ZY f n).map λ(h:Nat)=>((qE:Int)+h,(at' f h).getD 0):=by
 unfold Xf ZY;generalize List.range n=l
 induction l with
 |nil=>rfl
 |cons h l ih=>
  rw[cJ,cN];cases hh:at' f h with
  |none=>simpa using ih
  |some s=>
   simp only[fh,gM,if_true,aS,hh,g8];rw[ih]
def QX{α:Type}(p:α->Bool):∀(l:List α) (a:Int),l.foldl (λa h=>bif p h then a+1 else a) a=a+(l.filter p).length
 |[],a=>by simp
 |h::l,a=>by
  rw[ig,QX p l,cN];cases p h with
  |false=>simp
  |true=>simp;omega
section
variable{c:CA}{om:iV}{ho hb hm hu hl hg size qE:Nat}{f:iF}{kvs:iT}{gs:Gs}{qF:Mx}{qD:iW}
def SE(qD:iW)(f:iF)(k:Nat):iL:=(ZY f f.length).filter λh=>V7 qD f h k
def Ev(G:Givn qF f qD){h k:Nat}(e:V7 qD f h k=true):∃s,at' f h=some s:=by
 unfold V7 at e;have q:=G.same h
 match ls:at' qD h,e with
 |some (.help a b),_=>rw[ls]at q;exact aO.mp q.symm
def Jz(G:Givn qF f qD)(k:Nat):SE qD f k=(List.range f.length).filter λh=>V7 qD f h k:=by
 unfold SE ZY;rw[gS];refine fM λh _=>?_
 cases e:V7 qD f h k with
 |false=>simp
 |true=>
  obtain⟨s,hs⟩:=Ev G e;rw[hs];rfl
def Gj(h k je:Nat)(e:at' qD k=some (.move je)):V7 qD f h k=(decide (at' qD h=some (.help k je))&&WK qD f h):=by
 unfold V7 WK
 match e2:at' qD h with
 |none=>simp
 |some .stand=>simp
 |some (.move g)=>simp
 |some (.help q g)=>
  dsimp only;by_cases hq:q=k
  ·subst hq
   rw[e];by_cases hg:q=g
   ·subst hg
    simp[Wg]
   ·by_cases hgg:je=g
    ·subst hgg;simp[hg]
    ·rw[aD hg]
     have:¬ (some (Od.move je)=some (Od.move g)):=λz=>hgg (by cases z;rfl)
     rw[aG this];simp
  ·have h1:¬ (some (Od.help q g)=some (Od.help k je)):=λz=>hq (by cases z;rfl)
   rw[aG hq,aG h1]
def BG(h k:Nat)(e:Wg (at' qD k)=false):V7 qD f h k=(decide (at' qD h=some (.help k k))&&WK qD f h):=by
 unfold V7 WK
 match e2:at' qD h with
 |none=>simp
 |some .stand=>simp
 |some (.move g)=>simp
 |some (.help q g)=>
  dsimp only;by_cases hq:q=k
  ·subst hq
   by_cases hg:q=g
   ·subst hg;simp
   ·rw[aD hg]
    have h2:¬ (at' qD q=some (.move g)):=λz=>by rw[z]at e;cases e
    have h1:¬ (some (Od.help q g)=some (Od.help q q)):=λz=>hg (by cases z;rfl)
    rw[aG h1,aG h2];simp
  ·have h1:¬ (some (Od.help q g)=some (Od.help k k)):=λz=>hq (by cases z;rfl)
   rw[aG hq,aG h1]
def Ow(G:Givn qF f qD)(k je:Nat)(sd:Option Int)(p:Nat->Bool)(hp:∀h,h<f.length->Ac qD f k je sd h=p h):Va qD f k je sd=1+((List.range f.length).filter p).length:=by
 unfold Va;rw[QX,G.len]
 congr 3
 exact fM λh hh=>hp h (bR.mp hh)
def QR(G:Givn qF f qD)(mw:∀k s,at' f k=some s->0<=s/\s<=7){k je:Nat}(hb:∀h,V7 qD f h k=(decide (at' qD h=some (.help k je))&&WK qD f h)):Va qD f k je (some (-1))=1+(SE qD f k).length:=by
 rw[Jz G];refine Ow G k je _ _ λh hh=>?_
 rw[hb h];unfold Ac;cases e:decide (at' qD h=some (.help k je)) with
 |false=>rfl
 |true=>
  have e:=bC e;have q:=G.same h;rw[e]at q;obtain⟨s,hs⟩:=aO.mp q.symm;have:=mw h s hs;rw[hs,aG (λz=>by cases z;omega)];simp
def Jf(G:Givn qF f qD){k je:Nat}(sd:Int)(hb:∀h,V7 qD f h k=(decide (at' qD h=some (.help k je))&&WK qD f h)):Va qD f k je (some sd)=1+((SE qD f k).filter λh=>!decide ((at' f h).getD 0=sd)).length:=by
 rw[Jz G,gS];refine Ow G k je _ _ λh hh=>?_
 rw[hb h];unfold Ac;cases e:decide (at' qD h=some (.help k je)) with
 |false=>simp
 |true=>
  have e:=bC e;have q:=G.same h;rw[e]at q;obtain⟨s,hs⟩:=aO.mp q.symm;rw[hs];by_cases hh:s=sd
  ·subst hh;simp
  ·rw[aG (λz=>hh (by cases z;rfl))]
   simp[hh]
def DB(W:Wd c om hb hm hu hl size qE f kvs)(S:Os c om ho hb hg qE gs)(G:Givn qF f qD)(t:Tell gs (at' qD)){h k:Nat}{o:Od}(e:at' qD h=some o):Le c [.o ho,.int ((qE:Int)+h),.int ((qE:Int)+k)] om=(.bl (V7 qD f h k))\om:=by
 have e1:ZC 3 (Zn c.Orders "told" 2 (Z6 c) ?a #[?b]) [some (.o ho),some (.int ((qE:Int)+h)),some (.int ((qE:Int)+k)),none] om=(.nx,[some (.o ho),some (.int ((qE:Int)+h)),some (.int ((qE:Int)+k)),some (odG c qE o)])\om:=
  Zt (i:=3) (Zv (Zb rfl) (Zu S.o) (Z8 _ _ _ .(1) .(1)) (Ze (Zb rfl) Zj) rfl<|Ha W S G t e)
 have t1:f2 kEq (f2 (Uc c.STAND) ?d ?A) (fC (.str "help")) [some (.o ho),some (.int ((qE:Int)+h)),some (.int ((qE:Int)+k)),some (odG c qE o)] om=(.bl (decide (odN o="help")))\om:=Zr (Zr (Zb rfl) Zp<|E8 c qE o _) Zp<|O5 _ _ (NQ o) Pg _;refine ZD (Zh e1<|Zw ?_) (sl1:=[some (.o ho),some (.int ((qE:Int)+h)),some (.int ((qE:Int)+k)),some (odG c qE o)]);unfold V7;rw[e]
 match o,e with
 |.stand,e=>exact RU t1
 |.move g,e=>exact RU t1
 |.help q g,e=>
  refine Lq t1<|Pr (a:=decide (q=k)) ?_ λ_=>ZB (Ze (Zb rfl) (Ze (Zb rfl) Zj))<|(Yz rfl).trans (G5 W S G t e);refine(Zr (Zr (Zb rfl) Zp<|odG_1 c qE q g _) (Zb rfl)<|XM _ _ _).trans ?_;rw[OP]
def Iu(W:Wd c om hb hm hu hl size qE f kvs):ZJ c [.o hb] om=(.lst ((ZY f f.length).map λ(h:Nat)=>Wv.tup [.int ((qE:Int)+h),.int ((at' f h).getD 0)]))\om:=by
 have h1:=W.fit;have h2:=W.few;have h3:=Km qE f f.length;obtain⟨us,eu,pu⟩:=W.u;have h4:=pu.length_eq;rw[HR c W.b eu .(0),Qh (YN us<|pu.trans (YN _).symm) (UF us) (UF _),IZ (QM qE f f.length),JG,bA];rfl
def X7(f:iF)(n:Nat):(ZY f n).length<=n:=by
 unfold ZY;exact bL (aI _ _) .(2)
def SH(W:Wd c om hb hm hu hl size qE f kvs)(S:Os c om ho hb hg qE gs)(G:Givn qF f qD)(t:Tell gs (at' qD))(k:Nat):Uz c [.o ho,.int ((qE:Int)+k)] om=(.lst ((SE qD f k).map λ(h:Nat)=>Wv.int ((at' f h).getD 0)))\om:=by
 have ja:=ZT;have h1:=W.fit;have h2:=W.few;have h3:=X7 f f.length;have hfl:(SE qD f k).length<=(ZY f f.length).length:=aI _ _;refine ZD (Zw ?_);unfold Xy;refine(Zm (a:=(ZY f f.length).map λ(h:Nat)=>Wv.tup [.int ((qE:Int)+h),.int ((at' f h).getD 0)]) (qH:=om) (Zm (Zv (X8 S rfl) (Zu W.b) (Z1 _ _ _ .(1) .(1)) Zj rfl<|Iu W)<|rfl)).trans ?_;refine(Zm (a:=()) (qH:=om) (Lo ?_)).trans ?_
 ·rw[bG .(3)]
  simp[Ek]
 refine(Zm (Yi (λ(h:Nat)=>Wv.tup [.int ((qE:Int)+h),.int ((at' f h).getD 0)]) (λh=>V7 qD f h k) (λ(h:Nat)=>Wv.int ((at' f h).getD 0)) (λh hh=>?_) (λh hh _=>Zb rfl))).trans ?_
 ·have kC:=(aQ.mp hh).2
  obtain⟨o,ls⟩:=aO.mp (G.same h<|kC);exact Y3 (ZB (Ze (Zb rfl) (Ze (Zb rfl) (Ze (Zb rfl) Zj)))<|(Yz rfl).trans (DB W S G t ls))
 ·show ZL ((SE qD f k).map λ(h:Nat)=>Wv.int ((at' f h).getD 0)) om=_
  unfold ZL;rw[aC .(3)];rfl
def Ik{α:Type}{φ:α->Wv}{l:List α}{fe:FE}{sl:Sl}(h:fe sl om=(.lst (l.map φ))\om):f2 WD ?B (fA Ws #[fe]) sl om=(.int (1+l.length))\om:=by
 refine(Zr Zp (ZB (Ze h Zj)<|TD rfl)).trans ?_;rw[aB];rfl
def SR(qD:iW)(f:iF)(k:Nat)(sd:Int):Int:=match at' qD k with
 |some (.move g)=>Va qD f k g (some sd)
 |_=>0
def He(S:Os c om ho hb hg qE gs)(t:Tell gs (at' qD)){k:Nat}{o:Od}(e:at' qD k=some o){sl:Sl}(s0:sl[0]?=↑(.o ho))(s1:sl[1]?=↑(.int ((qE:Int)+k))):Zn c.Orders "goal_of" 2 (Zo c) ?a #[?b] sl om=(TM qE o)\om:=Zv (Zb s0) (Zu S.o) (Z8 _ _ _ .(1) .(1)) (Ze (Zb s1) Zj) rfl<|LB S t e
def CM(W:Wd c om hb hm hu hl size qE f kvs)(S:Os c om ho hb hg qE gs)(G:Givn qF f qD)(t:Tell gs (at' qD))(mw:∀k s,at' f k=some s->0<=s/\s<=7){k:Nat}{o:Od}(e:at' qD k=some o):L1 c [.o ho,.int ((qE:Int)+k)] om=(.int (SR qD f k (-1)))\om:=by
 have t1:fB (f1 VA (Zn c.Orders "goal_of" 2 (Zo c) ?a #[?b])) [some (.o ho),some (.int ((qE:Int)+k))] om=(!Wg (some o))\om:=ZQ (XU (He S t e rfl rfl)<|P3 _ _ _);unfold SR;rw[e]
 match o,e with
 |.stand,e=>exact ZD (Ys (Z9 t1<|Zw Zp))
 |.help a b,e=>exact ZD (Ys (Z9 t1<|Zw Zp))
 |.move g,e=>
  dsimp only;rw[QR G mw (λh=>Gj h k g e)];exact ZD (Zh (ZM t1)<|Zw (Ik (ZB (Ze (Zb rfl) (Ze (Zb rfl) Zj))<|(Yz rfl).trans (SH W S G t k))))
def IJ(W:Wd c om hb hm hu hl size qE f kvs)(S:Os c om ho hb hg qE gs)(G:Givn qF f qD)(t:Tell gs (at' qD)){k:Nat}{o:Od}(e:at' qD k=some o)(sd:Int):W4 c [.o ho,.int ((qE:Int)+k),.int sd] om=(.int (SR qD f k sd))\om:=by
 have ja:=ZT;have h1:=W.fit;have h2:=W.few;have h3:=X7 f f.length;have hfl:(SE qD f k).length<=(ZY f f.length).length:=aI _ _;have t1:fB (f1 VA (Zn c.Orders "goal_of" 2 (Zo c) ?a #[?b])) [some (.o ho),some (.int ((qE:Int)+k)),some (.int sd)] om=(!Wg (some o))\om:=ZQ (XU (He S t e rfl rfl)<|P3 _ _ _);unfold SR;rw[e]
 match o,e with
 |.stand,e=>exact ZD (Ys (Z9 t1<|Zw Zp))
 |.help a b,e=>exact ZD (Ys (Z9 t1<|Zw Zp))
 |.move g,e=>
  dsimp only;rw[Jf G sd (λh=>Gj h k g e)];have hfl2:=aI (λh=>!decide ((at' f h).getD 0=sd)) (SE qD f k);refine ZD (Zh (ZM t1)<|Zw (Ik (φ:=λ(h:Nat)=>Wv.int ((at' f h).getD 0)) ((XH (ws:=(SE qD f k).map λ(h:Nat)=>Wv.int ((at' f h).getD 0)) (qH:=om) (Zm (ZB (Ze (Zb rfl) (Ze (Zb rfl) Zj))<|(Yz rfl).trans (SH W S G t k))<|rfl) .(3) (Yi (λ(h:Nat)=>Wv.int ((at' f h).getD 0)) (λh=>!decide ((at' f h).getD 0=sd)) (λ(h:Nat)=>Wv.int ((at' f h).getD 0)) (λh hh=>ZQ (v2 rfl rfl<|Tw _ _ _)) (λh hh _=>Zb rfl))).trans ?_)));unfold ZL;rw[aC .(3)];rfl
def Js(W:Wd c om hb hm hu hl size qE f kvs)(S:Os c om ho hb hg qE gs)(G:Givn qF f qD)(t:Tell gs (at' qD))(mw:∀k s,at' f k=some s->0<=s/\s<=7){k:Nat}{o:Od}(e:at' qD k=some o):UM c [.o ho,.int ((qE:Int)+k)] om=(.int (E4 qD f k))\om:=by
 have t1:fB (f1 U6 (Zn c.Orders "goal_of" 2 (Zo c) ?a #[?b])) [some (.o ho),some (.int ((qE:Int)+k))] om=(Wg (some o))\om:=ZQ (XU (He S t e rfl rfl)<|KA _ _ _);unfold E4;rw[e];cases hmv:Wg (some o) with
 |true=>
  rw[hmv]at t1;exact ZD (Ys (Z9 t1<|Zw Zp))
 |false=>
  rw[hmv]at t1;have hmv2:Wg (at' qD k)=false:=by rw[e];exact hmv
  show _=some (Except.ok (Wv.int (Va qD f k k (some (-1)))),om);rw[QR G mw (λh=>BG h k hmv2)];exact ZD (Zh (ZM t1)<|Zw (Ik (ZB (Ze (Zb rfl) (Ze (Zb rfl) Zj))<|(Yz rfl).trans (SH W S G t k))))
end
section
variable{c:CA}{om:iV}{ho hb hm hu hl hg size qE:Nat}{f:iF}{kvs:iT}{gs:Gs}{qF:Mx}{qD:iW}
def Iz(c:CA)(ns:iK){qF:Mx}{f:iF}(L:Lk f.length qF)(hn:f.length<=60)(om:iV){sw:Wv}(hw:Y4 om sw=some (f.map ZK):=by rfl):Wp c [Yj ns,.lst (qF.map Yw),sw] om=(.o om.length)\(om++[.lst ((VG 10 ns qF f).map odW)]):=by
 have ja:=ZT;refine ZD (Zw ((XH (ws:=Vj f.length) (qH:=om) (us:=(VG 10 ns qF f).map odW) (om2:=om) ?_ (by rw[WQ];omega) ?_).trans ?_))
 ·have:=M0 (sl:=[some (Yj ns),some (.lst (qF.map Yw)),some sw]) (i:=2) (om:=om) (w:=sw) (xs:=f.map ZK) rfl hw .(3)
  rw[aB]at this;exact this
 ·have e:=Uv (cT:=Xl) (f:=Ta c) (mk:=λw=>XN [0,1,2] w [some (Yj ns),some (.lst (qF.map Yw)),some sw]) (om:=om) (n:=f.length) (λ_=>true) (λk=>odW (UR (ns.getD (10+k) 0) k qF f)) (λk hk=>rfl) (λk hk _=>ZB (Ze (SN c (k:=10+k) rfl (LA (Zb rfl)<|.(2))) (Ze (Zb rfl) (Ze (Zb rfl) (Ze (Zb rfl) Zj))))<|(Yz rfl).trans (Jt c _ L hk hn om hw))
  refine e.trans ?_;rw[bV.mpr (λ_ _=>rfl)];unfold VG;rw[bA];rfl
 ·unfold Wb
  rw[aC (by rw[aB];simp[VG];omega)];rfl
def DX{qG:Nat}{tw:Wv}(lk:Lk qG qF)(hf:f.length=qG)(h1:qE+qG<=size)(h2:size<=60)(pN:qG<=7)(hs:∀k s,at' f k=some s->0<=s/\s<=7)(G:Givn qF f qD)(om:iV)(ht:∀iu,(∀j,j<om.length->iu[j]?=om[j]?)->Y4 iu tw=some (qD.map odW)){sw:Wv}(hw:∀iu,(∀j,j<om.length->iu[j]?=om[j]?)->Y4 iu sw=some (f.map ZK):=by intro _ _;rfl):∃kvs gs,Wj c [ZH qG qE size,.lst (qF.map Yw),sw,tw] om=(.o (om.length+4))\(om++[YT c size (om.length+1),.dt kvs,YM c om.length (om.length+3),.dk (ZE (Xf qE f qG)),Y9 c (om.length+2) (om.length+5),.dk (Xc c qE gs)])/\NU qF qE kvs/\Tell gs (at' qD):=by
 have ja:=ZT;obtain⟨kvs,eb,mo,hk⟩:=CZ c lk hf h1 pN hs om hw;have W:=bd_Wd (c:=c) (om:=om) (kvs:=kvs) hf h1 h2;have hl:(Wq c om size kvs (Xf qE f qG)).length=om.length+4:=by simp[Wq]
 have S:=new_Os c (Wq c om size kvs (Xf qE f qG)) (om.length+2) qE;have W2:=W.grow [Y9 c (om.length+2) ((Wq c om size kvs (Xf qE f qG)).length+1),.dk []]
 have s1:ZC 4 (fA (XS c.Orders 2 (XV c)) #[fA (kN 3 (Vk c)) #[?a,?b,?c]]) [some (ZH qG qE size),some (.lst (qF.map Yw)),some sw,some tw,none,none] om=(.nx,[some (ZH qG qE size),some (.lst (qF.map Yw)),some sw,some tw,some (.o (Wq c om size kvs (Xf qE f qG)).length),none])\(Wq c om size kvs (Xf qE f qG)++[Y9 c (om.length+2) ((Wq c om size kvs (Xf qE f qG)).length+1),.dk []]):=
  Zt (i:=4) (ZB (Ze (ZB (Ze (Zb rfl) (Ze (Zb rfl) (Ze (Zb rfl) Zj)))<|(Yz rfl).trans eb) Zj)<|Lj c _ _)
 obtain⟨gs,x,el,t⟩:=G8 (tw:=tw) (qD:=qD) (T:=λk=>(at' f k).map λ_=>Od.stand) (B:=SB c) (i:=5) (sl:=[some (ZH qG qE size),some (.lst (qF.map Yw)),some sw,some tw,some (.o (Wq c om size kvs (Xf qE f qG)).length),none]) W2 S (by rw[hl];omega) mo G
  (Tell.start0 λk o e=>by
   obtain⟨_,_,rfl⟩:=cW.mp e;rfl) (λj=>by simp) (λiu h=>ht iu λj hj=>by
   rw[h j (by rw[hl];omega),aZ (by rw[hl];omega)];unfold Wq;rw[aZ hj]) (λk qH om2 e _=>ZW (ZB (Ze (Zb rfl) (Ze (Zr (Zb rfl) Zp<|ZP (k:=1) (v:=.int qE) rfl rfl) (Ze (Zb rfl) (Ze (Zb rfl) Zj))))<|(Yz rfl).trans e))
 refine⟨kvs,gs,?_,mo,t⟩;rw[hf]at el;have e4:=YY (sl1:=[]) (fi:=λsl=>bnd ((f2 kIx ?a ?A) sl) YF) (sl:=[some (ZH qG qE size),some (.lst (qF.map Yw)),some sw,some tw,some (.o (Wq c om size kvs (Xf qE f qG)).length),none]) (Zm (Zr (Zb rfl) Zp<|ZP (k:=0) (v:=.int qG) rfl rfl)<|Wc _ _ .(0)) el;have r:Wj c [ZH qG qE size,.lst (qF.map Yw),sw,tw] om=_:=ZD (Zh s1<|(Zh e4).trans (Zw (Zb (i:=4) rfl)));refine r.trans ?_
 have e:(Wq c om size kvs (Xf qE f qG)++[Y9 c (om.length+2) ((Wq c om size kvs (Xf qE f qG)).length+1),.dk []]).set ((Wq c om size kvs (Xf qE f qG)).length+1) (.dk (Xc c qE gs))=om++[YT c size (om.length+1),.dt kvs,YM c om.length (om.length+3),.dk (ZE (Xf qE f qG)),Y9 c (om.length+2) (om.length+5),.dk (Xc c qE gs)]:=by
  rw[cx _ _ .(0),eJ,hl];unfold Wq;rw[bT];rfl
 rw[e,hl]
end
end MP
namespace MP
noncomputable section
open PySem L2
def U5(c:CA):FS:=
 (YW (fA (kN 2 (L1 c)) #[?a,?c]) ?b ?c)
def PX(c:CA):FS:=
 (Zx (ZC 1 (λ_=>newO (.dk [])))
  (Zx (Wf (λsl=>bnd ((Zn c.Orders "movers" 1 (ZV c) ?a Zi) sl) ZO) (tgN 2) (U5 c))
  (Ye ?b)))
def Wh(c:CA):iR->Mw Wv:=Yc 3 (PX c)
def SA(c:CA):FT:=
 (VS (fB (f2 kNe ?a ?c)) (fB (f2 kEq (Zn c.Orders "goal_of" 2 (Zo c) ?b #[?a]) ?d)))
def Sx(c:CA):FE:=
 ?a
def SD(c:CA):FE:=
 (f2 kGe (f2 X9 ?b ?a) (f2 X9 ?b ?c))
def L8(c:CA):FS:=
 (Zx (ZC 3 (Zn c.Orders "goal_of" 2 (Zo c) ?a #[?c]))
  (Zx (ZC 4 (VP ZL [0,2,3] ?b (SA c) (Sx c)))
  (Ye (fA Bs #[Yk ZL [1,2] (λsl=>bnd (?e sl) ZO) Xl (SD c)]))))
def W7(c:CA):iR->Mw Wv:=Yc 5 (L8 c)
def JU(c:CA):FS:=
 (Zx (ZC 4 (Zn c.Board "side_at" 2 (Zz c) (f1 (ZG c.Orders "board") ?a) #[?c]))
  (Ye (UE (f2 kNe ?e (Zn c.Board "side_at" 2 (Zz c) (f1 (ZG c.Orders "board") ?a) #[?b])) (f2 kGt (fA (kN 3 (W4 c)) #[?a,?b,?e]) ?d))))
def WZ(c:CA):iR->Mw Wv:=Yc 5 (JU c)
def JX(c:CA):FS:=
 (Zx (ZC 3 (Zn c.Orders "goal_of" 2 (Zo c) ?a #[?c]))
  (Zx (sIf (Xm (fA (kN 3 (W7 c)) #[?a,?b,?c])) (Ye ?B) Yr)
  (Zx (sIf (fB (f1 VA (Zn c.Board "side_at" 2 (Zz c) (f1 (ZG c.Orders "board") ?a) #[?d]))) (Ye ?A) Yr)
  (Zx (sIf (fB (f2 kEq (Zn c.Orders "goal_of" 2 (Zo c) ?a #[?d]) ?c)) (Ye (C7 (Xm (fA (kN 4 (WZ c)) #[?a,?c,?d,f2 X9 ?b ?d])) ?A ?C)) Yr)
  (Ye (C7 (Xm (fA (kN 4 (WZ c)) #[?a,?c,?d,fA (kN 2 (UM c)) #[?a,?d]])) ?A ?D))))))
def Ty(c:CA):iR->Mw Wv:=Yc 4 (JX c)
def Uf(c:CA):FS:=
 (YW (fA (kN 3 (Ty c)) #[?a,?b,?d]) ?c ?d)
def L0(c:CA):FS:=
 (Zx (ZC 1 (fA (kN 1 (Wh c)) #[?a]))
  (Zx (ZC 2 (λ_=>newO (.dk [])))
  (Zx (GH ?b (tgN 3) (Uf c))
  (Ye ?c))))
def Vh(c:CA):iR->Mw Wv:=Yc 4 (L0 c)
def AE(c:CA):FS:=
 (Zx (sIf (VS (fB (f2 kEq (f2 X9 ?b ?c) ?D)) (fB (f2 (W3 false) (Zn c.Orders "goal_of" 2 (Zo c) ?a #[?c]) ?d))) (Ye ?A) Yr)
  (Ye (f2 X9 ?b ?c)))
def LH(c:CA):iR->Mw Wv:=Yc 4 (AE c)
def Nc(c:CA):FE:=
 (fA YU #[?e,?a,fA (kN 4 (LH c)) #[?b,?c,?a,?d]])
def PL(c:CA):FT:=
 (fB (f2 kNe (f2 kIx ?a ?C) ?A))
def OZ(c:CA):FE:=
 ?a
def OE(c:CA):FT:=
 (fB (f2 kEq (f2 kIx ?a ?C) ?A))
def P9(c:CA):FE:=
 (f2 kIx ?a ?B)
def Wu(c:CA):FS:=
 (Zx (ZC 5 (Yk ZL [0,1,2,4] (λsl=>bnd (?c sl) ZO) Xl (Nc c)))
  (Zx (ZC 6 (Yk ZL [] (λsl=>bnd (?f sl) ZO) (PL c) (OZ c)))
  (Zx (sIf (fB (f2 kEq ?g (fA ZL Zi))) (Ye ?d) Yr)
  (Zx (ZR (BD ?d ?g))
  (Zx (ZC 2 (Yk ZL [] (λsl=>bnd (?f sl) ZO) (OE c) (P9 c)))
  (ZC 4 (f2 WD ?e ?B)))))))
def FR(c:CA):FS:=
 (Zx (ZC 1 (fA (kN 1 (Vh c)) #[?a]))
  (Zx (ZC 2 (Zn c.Orders "movers" 1 (ZV c) ?a Zi))
  (Zx (ZC 3 (fA Wb Zi))
  (Zx (ZC 4 ?B)
  (Uo (Xm (fC (.bl true))) (Wu c) 100)))))
def Qn(c:CA):iR->Mw Wv:=Yc 7 (FR c)
def UQ(c:CA):iR->Mw Wv:=tidyG (Qn c)
def O9(c:CA):FE:=
 (f2 kIx ?a ?B)
def Hw(c:CA):FT:=
 (fB (f2 (W3 true) ?a ?b))
def Hf(c:CA):FE:=
 ?a
def FW(c:CA):FS:=
 (Zx (ZC 1 (Yk ZL [] (λsl=>bnd ((fA (kN 1 (UQ c)) #[?a]) sl) ZO) Xl (O9 c)))
  (Ye (Yk ZL [1] (λsl=>bnd ((Zn c.Orders "movers" 1 (ZV c) ?a Zi) sl) ZO) (Hw c) (Hf c))))
def Se(c:CA):iR->Mw Wv:=Yc 2 (FW c)
end
open PySem L2
def Xi(qE:Nat)(l:iL)(v:Nat->Int):iU:=l.map λ(k:Nat)=>(.inl ((qE:Int)+k),.int (v k))
def Na(qE:Nat)(l:iL)(v:Nat->Int):(Xi qE l v).length=l.length:=by simp[Xi]
def JB{qE:Nat}{v:Nat->Int}{k:Nat}:∀{l:iL},k∈l->UD (Xi qE l v) (.inl ((qE:Int)+k))=some (.int (v k))
 |[],h=>nomatch h
 |j::l,h=>by
  unfold UD Xi;rw[aS,cH];dsimp only;rw[MG];by_cases e:j=k
  ·subst e;simp
  ·rw[aG e]
   rcases aN.mp h with z|z
   ·exact absurd z.symm e
   ·exact JB z
def EY{qE:Nat}{v:Nat->Int}{k:Nat}{l:iL}(h:k ∉ l):Vf (Xi qE l v) (.inl ((qE:Int)+k)) (.int (v k))=Xi qE (l++[k]) v:=by
 have e:((Xi qE l v).any λkv=>decide (kv.1=(.inl ((qE:Int)+k):Key)))=false:=by
  rw[fO];intro p hp;obtain⟨j,hj,rfl⟩:=aY.mp hp;dsimp only;rw[MG];have:j≠k:=λz=>h (z ▸ hj)
  simp[this]
 unfold Vf;rw[e,aD aF];unfold Xi;rw[bX];rfl
def Mp(qE:Nat)(l:iL)(v:Nat->Int):((Xi qE l v).map λp=>SO p.1)=l.map λ(k:Nat)=>Wv.int ((qE:Int)+k):=by
 unfold Xi;rw[bA];rfl
def mvL(qD:iW)(f:iF):iL:=(List.range f.length).filter λk=>Wg (at' qD k)
def Lz(qD:iW)(f:iF):(mvL qD f).Nodup:=List.Nodup.sublist bZ fS
def Ua{qD:iW}{f:iF}{k:Nat}:k∈mvL qD f ↔ k<f.length/\∃g,at' qD k=some (.move g):=by
 unfold mvL;rw[aQ,bR];refine and_congr_right λ_=>?_
 match e:at' qD k with
 |none=>simp[Wg]
 |some .stand=>simp[Wg]
 |some (.move g)=>simp[Wg]
 |some (.help a b)=>simp[Wg]
def V8(qD:iW)(f:iF):(mvL qD f).length<=f.length:=bL (aI _ _) .(2)
def XY{α:Type}{T:TgW}{S:FS}(φ:α->Wv)(J:List α->Sl->List Ob->Prop):∀(l pre:List α) {sl:Sl} {om:iV},(∀p a q,pre++l=p++a::q->∀sl om,J p sl om->∃sl1 jd om2,T (φ a) sl=some sl1/\S sl1 om=(.nx,jd)\om2/\J (p++[a]) jd om2)->J pre sl om->∃jc iu,WS T S (l.map φ) sl om=(.nx,jc)\iu/\J (pre++l) jc iu
 |[],pre,sl,om,_,j=>⟨sl,om,rfl,by rw[bF];exact j⟩
 |a::l,pre,sl,om,h,j=>by
  obtain⟨sl1,jd,om2,e1,e2,j2⟩:=h pre a l rfl sl om j;have ee:pre++[a]++l=pre++a::l:=by simp
  obtain⟨jc,iu,e3,j3⟩:=XY φ J l (pre++[a]) (λp b q hq=>h p b q (by rw[← hq,ee])) j2;refine⟨jc,iu,?_,by rw[← ee];exact j3⟩;rw[aS];show(match T (φ a) sl with|none=>W0|some sl1=>bnd (S sl1) (Qe λjd=>WS T S (l.map φ) jd)) om=_;rw[e1];dsimp only;rw[Zm e2];exact e3
def Cs{k:iR->Mw Wv}{js:iL}{fd:FE}{cT:FT}{fE:FE}{sl:Sl}{om:iV}{h:Nat}{kvs:iU}{us:iR}(hd:fd sl om=(.o h)\om)(hx:om[h]?=some (.dz kvs))(hl:kvs.length<=lim)(hc:Xk cT fE (λw=>XN js w sl) (kvs.map λp=>SO p.1) om=us\om):VP k js fd cT fE sl om=k us om:=by
 unfold VP;rw[Zm hd];refine(Zm (a:=(false,h,kvs.map λp=>SO p.1)) (qH:=om) (by simp[Iw,hx,hl])).trans ?_;rw[Zm hc];exact Zm (a:=()) (qH:=om) rfl<|rfl
def Z2{ws:iR}{om:iV}(h:ws.length<=100):ZL ws om=(.lst ws)\om:=by
 have:=ZT;unfold ZL;rw[aC .(0)];rfl
structure Sit(c:CA)(om:iV)(ho hb hm hu hl hg size qE:Nat)(f:iF)(kvs:iT)(gs:Gs)(qF:Mx)(qD:iW):Prop where
 W:Wd c om hb hm hu hl size qE f kvs
 S:Os c om ho hb hg qE gs
 G:Givn qF f qD
 t:Tell gs (at' qD)
 s7:∀k s,at' f k=some s->0<=s/\s<=7
section
variable{c:CA}{om:iV}{ho hb hm hu hl hg size qE:Nat}{f:iF}{kvs:iT}{gs:Gs}{qF:Mx}{qD:iW}
def Sit.grow(A:Sit c om ho hb hm hu hl hg size qE f kvs gs qF qD)(l:iV):Sit c (om++l) ho hb hm hu hl hg size qE f kvs gs qF qD:=⟨A.W.grow l,A.S.grow l,A.G,A.t,A.s7⟩
def Sit.few(A:Sit c om ho hb hm hu hl hg size qE f kvs gs qF qD):f.length<=60:=by have:=A.W.fit;have:=A.W.few;omega
def Rv(A:Sit c om ho hb hm hu hl hg size qE f kvs gs qF qD):ZV c [.o ho] om=(.lst ((mvL qD f).map λ(k:Nat)=>Wv.int ((qE:Int)+k)))\om:=J0 A.W A.S A.G A.t
def Qg(A:Sit c om ho hb hm hu hl hg size qE f kvs gs qF qD){k:Nat}{o:Od}(e:at' qD k=some o){sl:Sl}{i j:Nat}(s0:sl[i]?=↑(.o ho))(s1:sl[j]?=↑(.int ((qE:Int)+k))):Zn c.Orders "goal_of" 2 (Zo c) (Za i) #[Za j] sl om=(TM qE o)\om:=Zv (Zb s0) (Zu A.S.o) (Z8 _ _ _ .(1) .(1)) (Ze (Zb s1) Zj) rfl<|LB A.S A.t e
def Ig(A:Sit c om ho hb hm hu hl hg size qE f kvs gs qF qD){k:Nat}(hk:k<f.length){sl:Sl}{i j:Nat}(s0:sl[i]?=↑(.o ho))(s1:sl[j]?=↑(.int ((qE:Int)+k))):Zn c.Board "side_at" 2 (Zz c) (f1 (ZG c.Orders "board") (Za i)) #[Za j] sl om=(ZK (at' f k))\om:=Zv (X8 A.S s0) (Zu A.W.b) (Z1 _ _ _ .(1) .(1)) (Ze (Zb s1) Zj) rfl<|MA A.W hk
abbrev fN(qD:iW)(f:iF)(k:Nat):Int:=SR qD f k (-1)
def NR{om:iV}{l:iL}{v:Nat->Int}{k:Nat}{sl:Sl}{fv:FE}{i j:Nat}(n:Nat)(om0:iV)(pO:om=om0++[.dk (Xi qE l v)])(hn:n=om0.length)(hv:fv sl om=(.int (v k))\om)(hi:sl[i]?=↑(.o n))(hj:sl[j]?=↑(.int ((qE:Int)+k)))(hk:k ∉ l)(iZ:l.length<=60):YW fv (Za i) (Za j) sl om=(.nx,sl)\(om0++[.dk (Xi qE (l++[k]) v)]):=by
 have ja:=ZT;subst pO hn;unfold YW;rw[Zm hv,Zm (Zb hi),Zm (Zb hj)];refine Zm (a:=()) (qH:=om0++[.dk (Xi qE (l++[k]) v)]) ?_<|rfl;have h1:(Xi qE l v).length<lim:=by rw[Na];omega
 have h2:(om0++[Ob.dk (Xi qE l v)])[om0.length]?=some (.dk (Xi qE l v)):=by simp
 have h3:(om0++[Ob.dk (Xi qE l v)]).set om0.length (.dk (Xi qE (l++[k]) v))=om0++[.dk (Xi qE (l++[k]) v)]:=by
  rw[cx _ _ (aM _),fq];rfl
 simp only[Om,Ng,h2,Y6];rw[aC h1,EY hk,h3]
def C9(A:Sit c om ho hb hm hu hl hg size qE f kvs gs qF qD):Wh c [.o ho] om=(.o om.length)\(om++[.dk (Xi qE (mvL qD f) (fN qD f))]):=by
 have ja:=ZT;have jC:=A.few;have hml:=V8 qD f;have e1:ZC 1 (λ_=>newO (.dk [])) [some (.o ho),none,none] om=(.nx,[some (.o ho),some (.o om.length),none])\(om++[.dk []]):=Zt (i:=1) rfl;have A1:=A.grow [.dk []]
 obtain⟨jc,iu,ef,jh,x,rfl⟩:=XY (T:=tgN 2) (S:=U5 c) (λ(k:Nat)=>Wv.int ((qE:Int)+k)) (λp sl iu=>iu=om++[.dk (Xi qE p (fN qD f))]/\∃x,sl=[some (.o ho),some (.o om.length),x]) (mvL qD f) [] (sl:=[some (.o ho),some (.o om.length),none]) (om:=om++[.dk []]) (λp a q hq sl iu ⟨h1,x,h2⟩=>by
  subst h2;have hq:mvL qD f=p++a::q:=hq;have ha:a∈mvL qD f:=by rw[hq];simp
  obtain⟨_,g,mJ⟩:=Ua.mp ha;have nd:=Lz qD f;rw[hq]at nd;have hap:a ∉ p:=λhp=>(cq.mp nd).2.2 a hp a (.head _) rfl
  have jb:p.length<=60:=by
   have:p.length<=(mvL qD f).length:=by rw[hq];simp
   omega
  have A2:Sit c iu ho hb hm hu hl hg size qE f kvs gs qF qD:=by rw[h1];exact A.grow _
  refine⟨[some (.o ho),some (.o om.length),some (.int ((qE:Int)+a))],_,_,rfl,NR (i:=1) (j:=2) (k:=a) om.length om h1 rfl (ZB (Ze (Zb rfl) (Ze (Zb rfl) Zj))<|(Yz rfl).trans (CM A2.W A2.S A2.G A2.t A2.s7 mJ)) rfl rfl hap jb,rfl,_,rfl⟩) ⟨rfl,_,rfl⟩
 have e2:=YY (sl1:=[]) (fi:=λsl=>bnd ((Zn c.Orders "movers" 1 (ZV c) ?a Zi) sl) ZO) (sl:=[some (.o ho),some (.o om.length),none]) (Zm (Zv (Zb rfl) (Zu A1.S.o) (Z8 _ _ _ .(1) .(1)) Zj rfl<|Rv A1)<|rfl) ef;rw[jh]at e2;exact ZD (Zh e1<|(Zh e2).trans (Zw (Zb rfl)))
def JZ(qD:iW)(f:iF)(k g:Nat):Bool:=((mvL qD f).filter λm=>!decide (m=k)&&decide (at' qD m=some (.move g))).any λm=>decide (fN qD f k<=fN qD f m)
def ME{h:Nat}{l:iL}{v:Nat->Int}(hx:om[h]?=some (.dk (Xi qE l v))\/om[h]?=some (.dz (Xi qE l v))){k:Nat}(hk:k∈l){sl:Sl}{i j:Nat}(hi:sl[i]?=↑(.o h))(hj:sl[j]?=↑(.int ((qE:Int)+k))):f2 X9 (Za i) (Za j) sl om=(.int (v k))\om:=by
 refine(v2 hi hj).trans ?_;have e:=JB (qE:=qE) (v:=v) hk;rcases hx with hx|hx
 ·simp only[X9,WB,hx,Y6,e]
 ·simp only[X9,WB,hx,Y6,e]
def Ib(A:Sit c om ho hb hm hu hl hg size qE f kvs gs qF qD){hF k g:Nat}(hx:om[hF]?=some (.dz (Xi qE (mvL qD f) (fN qD f))))(e:at' qD k=some (.move g))(hk:k<f.length):W7 c [.o ho,.o hF,.int ((qE:Int)+k)] om=(.bl (JZ qD f k g))\om:=by
 have ja:=ZT;have jC:=A.few;have hml:=V8 qD f;have hkm:k∈mvL qD f:=Ua.mpr ⟨hk,g,e⟩;have e1:ZC 3 (Zn c.Orders "goal_of" 2 (Zo c) ?a #[?c]) [some (.o ho),some (.o hF),some (.int ((qE:Int)+k)),none,none] om=(.nx,[some (.o ho),some (.o hF),some (.int ((qE:Int)+k)),some (.int ((qE:Int)+g)),none])\om:=Zt (i:=3) (Qg A e rfl rfl);generalize hp:(λm=>!decide (m=k)&&decide (at' qD m=some (.move g)))=p;have hfl:=aI p (mvL qD f)
 have e2:ZC 4 (VP ZL [0,2,3] ?b (SA c) (Sx c)) [some (.o ho),some (.o hF),some (.int ((qE:Int)+k)),some (.int ((qE:Int)+g)),none] om=(.nx,[some (.o ho),some (.o hF),some (.int ((qE:Int)+k)),some (.int ((qE:Int)+g)),some (.lst (((mvL qD f).filter p).map λ(m:Nat)=>Wv.int ((qE:Int)+m)))])\om:=by
  refine Zt (i:=4) (Cs (us:=((mvL qD f).filter p).map λ(m:Nat)=>Wv.int ((qE:Int)+m)) (Zb rfl) hx (by rw[Na];omega) ?_<|Z2 .(3));rw[Mp];refine Yi (λ(m:Nat)=>Wv.int ((qE:Int)+m)) p (λ(m:Nat)=>Wv.int ((qE:Int)+m)) (λm hm=>?_) (λm hm _=>Zb rfl);obtain⟨lW,g',jZ⟩:=Ua.mp hm;rw[← hp];refine Up (ZQ (v2 rfl rfl<|(Tw _ _ _).trans (by rw[OP]))) λ_=>ZQ (Zr (Qg A jZ rfl rfl) (Zb rfl)<|(Pj _ _ _ _).trans ?_)
  rw[jZ];simp
 have e3:Yk ZL [1,2] (λsl=>bnd (?e sl) ZO) Xl (SD c) [some (.o ho),some (.o hF),some (.int ((qE:Int)+k)),some (.int ((qE:Int)+g)),some (.lst (((mvL qD f).filter p).map λ(m:Nat)=>Wv.int ((qE:Int)+m)))] om=(.lst (((mvL qD f).filter p).map λm=>Wv.bl (decide (fN qD f k<=fN qD f m))))\om:=by
  refine(XH (ws:=((mvL qD f).filter p).map λ(m:Nat)=>Wv.int ((qE:Int)+m)) (qH:=om) (Zm (a:=.lst (((mvL qD f).filter p).map λ(m:Nat)=>Wv.int ((qE:Int)+m))) (qH:=om) (Zb rfl)<|rfl) .(3) (Yi (λ(m:Nat)=>Wv.int ((qE:Int)+m)) (λ_=>true) (λm=>Wv.bl (decide (fN qD f k<=fN qD f m))) (λm hm=>rfl) (λm hm _=>?_))).trans ?_
  ·have hmm:=(aQ.mp hm).1
   exact Zr (ME (.inr hx) hmm rfl rfl) (ME (.inr hx) hkm rfl rfl)<|rfl
  ·rw[bV.mpr (λ_ _=>rfl)]
   exact Z2 .(3)
 refine ZD (Zh e1<|(Zh e2).trans (Zw ((ZB (Ze e3 Zj)).trans ?_)));show(match Ub (((mvL qD f).filter p).map λm=>Wv.bl (decide (fN qD f k<=fN qD f m))) with|some bs=>some (Except.ok (Wv.bl (bs.any id)),om)|none=>none)=_;rw[S4];show some (Except.ok (Wv.bl ((((mvL qD f).filter p).map λm=>decide (fN qD f k<=fN qD f m)).any id)),om)=_;unfold JZ;rw[List.any_map,hp];rfl
def Kj(qD:iW)(f:iF)(k g:Nat)(st:Int):Bool:=!decide (at' f g=at' f k)&&decide (st<Va qD f k g (at' f g))
def AJ(A:Sit c om ho hb hm hu hl hg size qE f kvs gs qF qD){k g:Nat}{s:Int}(e:at' qD k=some (.move g))(hk:k<f.length)(nK:at' f g=some s)(st:Int):WZ c [.o ho,.int ((qE:Int)+k),.int ((qE:Int)+g),.int st] om=(.bl (Kj qD f k g st))\om:=by
 have e1:ZC 4 (Zn c.Board "side_at" 2 (Zz c) (f1 (ZG c.Orders "board") ?a) #[?c]) [some (.o ho),some (.int ((qE:Int)+k)),some (.int ((qE:Int)+g)),some (.int st),none] om=(.nx,[some (.o ho),some (.int ((qE:Int)+k)),some (.int ((qE:Int)+g)),some (.int st),some (.int s)])\om:=by
  have q:=Ig A (Rz nK) (sl:=[some (.o ho),some (.int ((qE:Int)+k)),some (.int ((qE:Int)+g)),some (.int st),none]) (i:=0) (j:=2) rfl rfl;rw[nK]at q;exact Zt (i:=4) q
 refine ZD (Zh e1<|Zw ?_) (sl1:=[some (.o ho),some (.int ((qE:Int)+k)),some (.int ((qE:Int)+g)),some (.int st),some (.int s)]);unfold Kj;rw[nK];refine Pr (Zr (Zb rfl) (Ig A hk rfl rfl)<|Kl (some s) (at' f k) om) λ_=>?_
 have ag:=IJ A.W A.S A.G A.t e s;rw[show SR qD f k s=Va qD f k g (some s) by unfold SR;rw[e]]at ag;exact Zr (ZB (Ze (Zb rfl) (Ze (Zb rfl) (Ze (Zb rfl) Zj)))<|(Yz rfl).trans ag) (Zb rfl)<|rfl
def Tc(qD:iW)(f:iF)(k g:Nat):Int:=
 bif JZ qD f k g then 1
 else bif (at' f g).isNone then 0
 else bif decide (at' qD g=some (.move k)) then (bif Kj qD f k g (fN qD f g) then 0 else 2)
 else (bif Kj qD f k g (E4 qD f g) then 0 else 3)
def ifE_e{cT:FT}{a b:FE}{sl:Sl}{x:Bool}{m n:Int}(h:cT sl om=x\om)(ha:a sl om=(.int m)\om)(hb:b sl om=(.int n)\om):C7 cT a b sl om=(.int (bif x then m else n))\om:=by
 unfold C7;rw[Zm h];cases x with
 |true=>rw[aC rfl];exact ha
 |false=>rw[aD aF];exact hb
def BW(A:Sit c om ho hb hm hu hl hg size qE f kvs gs qF qD){hF k g:Nat}(hx:om[hF]?=some (.dz (Xi qE (mvL qD f) (fN qD f))))(e:at' qD k=some (.move g)):Ty c [.o ho,.o hF,.int ((qE:Int)+k)] om=(.int (Tc qD f k g))\om:=by
 have hk:k<f.length:=A.G.same.lt k _ e;have j0:g<f.length:=by have:=(A.G.okT.mv k g e).1;rw[A.G.len]at this;exact this
 have e1:ZC 3 (Zn c.Orders "goal_of" 2 (Zo c) ?a #[?c]) [some (.o ho),some (.o hF),some (.int ((qE:Int)+k)),none] om=(.nx,[some (.o ho),some (.o hF),some (.int ((qE:Int)+k)),some (.int ((qE:Int)+g))])\om:=Zt (i:=3) (Qg A e rfl rfl);have t1:Xm (fA (kN 3 (W7 c)) #[?a,?b,?c]) [some (.o ho),some (.o hF),some (.int ((qE:Int)+k)),some (.int ((qE:Int)+g))] om=(JZ qD f k g)\om:=Y3 (ZB (Ze (Zb rfl) (Ze (Zb rfl) (Ze (Zb rfl) Zj)))<|(Yz rfl).trans (Ib A hx e hk));have t2:fB (f1 VA (Zn c.Board "side_at" 2 (Zz c) (f1 (ZG c.Orders "board") ?a) #[?d])) [some (.o ho),some (.o hF),some (.int ((qE:Int)+k)),some (.int ((qE:Int)+g))] om=(at' f g).isNone\om:=ZQ (XU (Ig A j0 rfl rfl)<|Tv _ _);unfold Tc;cases h1:JZ qD f k g with
 |true=>
  rw[h1]at t1;exact ZD (Zh e1<|Ys (Z9 t1<|Zw Zp))
 |false=>
  rw[h1]at t1
  match h2:at' f g with
  |none=>
   rw[h2]at t2;exact ZD (Zh e1<|(Zh (ZM t1)).trans (Ys (Z9 t2<|Zw Zp)))
  |some s=>
   rw[h2]at t2;obtain⟨o,nM⟩:=aO.mp (A.G.same g<|(by rw[h2];rfl))
   have t3:fB (f2 kEq (Zn c.Orders "goal_of" 2 (Zo c) ?a #[?d]) ?c) [some (.o ho),some (.o hF),some (.int ((qE:Int)+k)),some (.int ((qE:Int)+g))] om=(decide (at' qD g=some (.move k)))\om:=by
    refine ZQ (Zr (Qg A nM rfl rfl) (Zb rfl)<|(Pj _ _ _ _).trans ?_);rw[nM];simp
   have rest:∀(st:Int) (fe:FE),fe [some (.o ho),some (.o hF),some (.int ((qE:Int)+k)),some (.int ((qE:Int)+g))] om=(.int st)\om->Xm (fA (kN 4 (WZ c)) #[?a,?c,?d,fe]) [some (.o ho),some (.o hF),some (.int ((qE:Int)+k)),some (.int ((qE:Int)+g))] om=(Kj qD f k g st)\om:=λst fe he=>Y3 (ZB (Ze (Zb rfl) (Ze (Zb rfl) (Ze (Zb rfl) (Ze he Zj))))<|(Yz rfl).trans (AJ A e hk h2 st))
   by_cases h3:at' qD g=some (.move k)
   ·rw[bG h3]at t3 ⊢
    have hgm:g∈mvL qD f:=Ua.mpr ⟨j0,k,h3⟩;have q:=ifE_e (a:=fC (.int 0)) (b:=fC (.int 2)) (m:=0) (n:=2) (rest _ (f2 X9 ?b ?d) (ME (i:=1) (j:=3) (.inr hx) hgm rfl rfl)) Zp Zp;exact ZD (Zh e1<|(Zh (ZM t1)).trans (Zh (ZM t2)<|Ys (Z9 t3<|Zw q)))
   ·rw[aG h3]at t3 ⊢
    have q:=ifE_e (a:=fC (.int 0)) (b:=fC (.int 3)) (m:=0) (n:=3) (rest _ (fA (kN 2 (UM c)) #[?a,?d]) (ZB (Ze (Zb rfl) (Ze (Zb rfl) Zj))<|(Yz rfl).trans (Js A.W A.S A.G A.t A.s7 nM))) Zp Zp;exact ZD (Zh e1<|(Zh (ZM t1)).trans (Zh (ZM t2)<|(Zh (ZM t3)).trans (Zw q)))
def hN(qD:iW)(f:iF)(k:Nat):Int:=match at' qD k with
 |some (.move g)=>Tc qD f k g
 |_=>0
noncomputable abbrev LI (ho:Nat) (om:iV):=([some (.o ho),some (.o om.length),some (.o (om.length+1)),none]:Sl)
def Dn(A:Sit c om ho hb hm hu hl hg size qE f kvs gs qF qD):Vh c [.o ho] om=(.o (om.length+1))\(om++[.dk (Xi qE (mvL qD f) (fN qD f)),.dk (Xi qE (mvL qD f) (hN qD f))]):=by
 have ja:=ZT;have jC:=A.few;have hml:=V8 qD f;generalize hD:Xi qE (mvL qD f) (fN qD f)=D;have hDl:D.length<=lim:=by rw[← hD,Na];omega
 have e1:ZC 1 (fA (kN 1 (Wh c)) #[?a]) [some (.o ho),none,none,none] om=(.nx,[some (.o ho),some (.o om.length),none,none])\(om++[.dk D]):=by
  rw[← hD];exact Zt (i:=1) (ZB (Ze (Zb rfl) Zj)<|(Yz rfl).trans (C9 A))
 have hl1:(om++[Ob.dk D]).length=om.length+1:=by simp
 have e2:ZC 2 (λ_=>newO (.dk [])) [some (.o ho),some (.o om.length),none,none] (om++[.dk D])=(.nx,(LI ho om))\(om++[.dk D,.dk []]):=by
  refine(Zt (i:=2) (w:=.o (om++[Ob.dk D]).length) (qH:=om++[.dk D]++[.dk []]) rfl).trans ?_;rw[hl1,bT];rfl
 obtain⟨jc,iu,ef,jh,x,rfl⟩:=XY (T:=tgN 3) (S:=Uf c) (λ(k:Nat)=>Wv.int ((qE:Int)+k)) (λp sl iu=>iu=om++[.dz D]++[.dk (Xi qE p (hN qD f))]/\∃x,sl=[some (.o ho),some (.o om.length),some (.o (om.length+1)),x]) (mvL qD f) [] (sl:=(LI ho om)) (om:=om++[.dz D]++[.dk []]) (λp a q hq sl iu ⟨h1,x,h2⟩=>by
  subst h2;have hq:mvL qD f=p++a::q:=hq;have ha:a∈mvL qD f:=by rw[hq];simp
  obtain⟨_,g,mJ⟩:=Ua.mp ha;have nd:=Lz qD f;rw[hq]at nd;have hap:a ∉ p:=λhp=>(cq.mp nd).2.2 a hp a (.head _) rfl
  have jb:p.length<=60:=by
   have:p.length<=(mvL qD f).length:=by rw[hq];simp
   omega
  have A2:Sit c iu ho hb hm hu hl hg size qE f kvs gs qF qD:=by rw[h1,bT];exact A.grow _
  have hx:iu[om.length]?=some (.dz (Xi qE (mvL qD f) (fN qD f))):=by rw[h1,hD];simp
  have hv:=BW A2 hx mJ;rw[show Tc qD f a g=hN qD f a by unfold hN;rw[mJ]]at hv;exact⟨[some (.o ho),some (.o om.length),some (.o (om.length+1)),some (.int ((qE:Int)+a))],_,_,rfl,NR (i:=2) (j:=3) (k:=a) (om.length+1) (om++[.dz D]) h1 .(2) (ZB (Ze (Zb rfl) (Ze (Zb rfl) (Ze (Zb rfl) Zj)))<|(Yz rfl).trans hv) rfl rfl hap jb,rfl,_,rfl⟩) ⟨rfl,_,rfl⟩
 have e3:GH ?b (tgN 3) (Uf c) (LI ho om) (om++[.dk D,.dk []])=(.nx,[some (.o ho),some (.o om.length),some (.o (om.length+1)),x])\(om++[.dk D,.dk (Xi qE (mvL qD f) (hN qD f))]):=by
  unfold GH;rw[Zm (Zb rfl)];have g0:(om++[Ob.dk D,.dk []])[om.length]?=some (.dk D):=by simp
  have g1:(om++[Ob.dk D,.dk []]).set om.length (.dz D)=om++[.dz D]++[.dk []]:=by
   rw[cx _ _ (aM _),fq,bT];rfl
  refine(Zm (a:=(true,om.length,D.map λp=>SO p.1)) (qH:=om++[.dz D]++[.dk []]) (by simp only[Iw,g0,aC hDl,g1])).trans ?_;dsimp only;have hk:(D.map λp=>SO p.1)=(mvL qD f).map λ(k:Nat)=>Wv.int ((qE:Int)+k):=by rw[← hD,Mp]
  rw[hk];refine(Zm (a:=(.nx,[some (.o ho),some (.o om.length),some (.o (om.length+1)),x])) (qH:=iu) (by unfold Z0;rw[ef])).trans ?_;rw[jh];have g2:(om++[Ob.dz D]++[Ob.dk (Xi qE ([]++mvL qD f) (hN qD f))])[om.length]?=some (.dz D):=by simp
  have g3:(om++[Ob.dz D]++[Ob.dk (Xi qE ([]++mvL qD f) (hN qD f))]).set om.length (.dk D)=om++[.dk D,.dk (Xi qE (mvL qD f) (hN qD f))]:=by
   rw[bT,cx _ _ (aM _),fq];rfl
  have g4:Hk true om.length (om++[Ob.dz D]++[Ob.dk (Xi qE ([]++mvL qD f) (hN qD f))])=()\(om++[.dk D,.dk (Xi qE (mvL qD f) (hN qD f))]):=by
   unfold Hk;rw[aC rfl,g2];dsimp only;rw[g3]
  exact Zm g4<|rfl
 exact ZD (Zh e1<|(Zh e2).trans (Zh e3<|Zw (Zb rfl)))
end
def KB(qE a:Nat):∀l:iL,inV (.int ((qE:Int)+a)) (l.map λ(k:Nat)=>V.int ((qE:Int)+k))=l.contains a
 |[]=>rfl
 |k::l=>by
  have ih:=KB qE a l;unfold inV at ih ⊢;rw[aS,dq,ih,dP]
  congr 1
  show((qE:Int)+k == (qE:Int)+a)=(a == k);by_cases h:a=k
  ·subst h;simp
  ·rw[aU.mpr h,aU.mpr .(0)]
def N0{qE a:Nat}{l:iL}{om:iV}{pw:Wv}(hp:Y4 om pw=some (l.map λ(k:Nat)=>Wv.int ((qE:Int)+k)))(neg:Bool):W3 neg (.int ((qE:Int)+a)) pw om=(.bl (if neg then !l.contains a else l.contains a))\om:=by
 unfold W3;rw[hp];dsimp only
 have h1:(U7 (.int ((qE:Int)+a))&&(l.map λ(k:Nat)=>Wv.int ((qE:Int)+k)).all U7)=true:=by
  rw[List.all_map];simp[U7]
 rw[aC h1,bA];have h2:(l.map (toV ∘ λ(k:Nat)=>Wv.int ((qE:Int)+k)))=l.map λ(k:Nat)=>V.int ((qE:Int)+k):=rfl
 rw[h2];show some (Except.ok (Wv.bl (if neg=true then !inV (.int ((qE:Int)+a)) (l.map λ(k:Nat)=>V.int ((qE:Int)+k)) else inV (.int ((qE:Int)+a)) (l.map λ(k:Nat)=>V.int ((qE:Int)+k)))),om)=_;rw[KB]
section
variable{c:CA}{om:iV}{ho hb hm hu hl hg size qE:Nat}{f:iF}{kvs:iT}{gs:Gs}{qF:Mx}{qD:iW}
def Yo(qD:iW)(f:iF)(ps:iL)(k:Nat):Int:=match at' qD k with
 |some (.move g)=>bif decide (Tc qD f k g=3)&&ps.contains g then 0 else Tc qD f k g
 |_=>0
def EJ(A:Sit c om ho hb hm hu hl hg size qE f kvs gs qF qD){mK k:Nat}{pw:Wv}{ps:iL}(hx:om[mK]?=some (.dk (Xi qE (mvL qD f) (hN qD f))))(hk:k∈mvL qD f)(hp:Y4 om pw=some (ps.map λ(k:Nat)=>Wv.int ((qE:Int)+k))):LH c [.o ho,.o mK,.int ((qE:Int)+k),pw] om=(.int (Yo qD f ps k))\om:=by
 obtain⟨qA,g,e⟩:=Ua.mp hk;have eh:hN qD f k=Tc qD f k g:=by unfold hN;rw[e]
 have d1:f2 X9 ?b ?c [some (.o ho),some (.o mK),some (.int ((qE:Int)+k)),some pw] om=(.int (Tc qD f k g))\om:=by
  rw[← eh];exact ME (.inl hx) hk rfl rfl
 have t1:VS (fB (f2 kEq (f2 X9 ?b ?c) ?D)) (fB (f2 (W3 false) (Zn c.Orders "goal_of" 2 (Zo c) ?a #[?c]) ?d)) [some (.o ho),some (.o mK),some (.int ((qE:Int)+k)),some pw] om=(decide (Tc qD f k g=3)&&ps.contains g)\om:=
  Up (ZQ (Zr d1 Zp<|XM _ _ _)) λ_=>ZQ (Zr (Qg A e rfl rfl) (Zb rfl)<|N0 hp false)
 unfold Yo;rw[e];dsimp only;cases h:(decide (Tc qD f k g=3)&&ps.contains g) with
 |true=>
  rw[h]at t1;exact ZD (Ys (Z9 t1<|Zw Zp))
 |false=>
  rw[h]at t1;exact ZD (Zh (ZM t1)<|Zw d1)
end
def Gg{om:iV}{x y:Wv}{d:PyData}(hx:Xz om x=some d)(hy:Xz om y=some d)(hl:VI d=true)(neg:Bool):Wk neg x y om=(.bl (!neg))\om:=by
 have hc:d.canLay0=true:=(bO.mp hl).1;have he:PyData.eqv d d=true:=PySem.SeqAt.eqv_refl d hc;unfold Wk;rw[hx,hy];dsimp only;rw[hl];cases neg <;> simp[he]
def J2(om:iV):∀ns:iK,pysOf om (ns.map Wv.int)=some (ns.map PyData.int)
 |[]=>rfl
 |n::r=>by
  show(match XJ om (.int n),pysOf om (r.map Wv.int) with|some d,some ds=>some (d::ds)|_,_=>none)=_;rw[J2 om r];rfl
def N8(ns:iK):VI (.list (ns.map PyData.int))=true:=by
 have a:PyData.canLayAll0 (ns.map PyData.int)=true:=by
  induction ns with
  |nil=>rfl
  |cons n r ih=>simp[PyData.canLayAll0,PyData.canLay0,ih]
 have b:PyData.depthAll (ns.map PyData.int)=0:=by
  induction ns with
  |nil=>rfl
  |cons n r ih=>
   have ih:=ih (by simp[PyData.canLayAll0,PyData.canLay0]at a;simpa using a);simp[PyData.depthAll,PyData.depth,ih]
 simp[VI,PyData.canLay0,PyData.depth,a,b]
def py_l(om:iV)(ns:iK):Xz om (.lst (ns.map Wv.int))=some (.list (ns.map PyData.int)):=by
 show(pysOf om (ns.map Wv.int)).map PyData.list=_;rw[J2];rfl
abbrev R3:Type:=Int × Nat × Int
def r3W(qE:Nat)(r:R3):Wv:=.tup [.int r.1,.int ((qE:Int)+r.2.1),.int r.2.2]
def r3P(qE:Nat)(r:R3):PyData:=.tuple [.int r.1,.int ((qE:Int)+r.2.1),.int r.2.2]
def EZ(qE:Nat)(om:iV):∀l:List R3,pysOf om (l.map (r3W qE))=some (l.map (r3P qE))
 |[]=>rfl
 |p::r=>by
  show(match XJ om (r3W qE p),pysOf om (r.map (r3W qE)) with|some d,some ds=>some (d::ds)|_,_=>none)=_;rw[EZ qE om r];rfl
def Gd(qE:Nat)(l:List R3):VI (.list (l.map (r3P qE)))=true:=by
 have a:PyData.canLayAll0 (l.map (r3P qE))=true/\PyData.depthAll (l.map (r3P qE))<=1:=by
  induction l with
  |nil=>exact⟨rfl,by simp[PyData.depthAll]⟩
  |cons n r ih=>exact⟨by simp[PyData.canLayAll0,PyData.canLay0,r3P];exact ih.1,by have:=ih.2;simp[PyData.depthAll,PyData.depth,r3P];omega⟩
 have:=a.2;simp[VI,PyData.canLay0,PyData.depth,a.1];omega
def eq_r3n(qE:Nat)(l:List R3)(om:iV):Wk false (.lst (l.map (r3W qE))) (.lst []) om=(.bl l.isEmpty)\om:=by
 have h1:Xz om (.lst (l.map (r3W qE)))=some (.list (l.map (r3P qE))):=by
  show(pysOf om (l.map (r3W qE))).map PyData.list=_;rw[EZ];rfl
 have h2:Xz om (.lst [])=some (.list []):=rfl;have h3:VI (.list [])=true:=Gd qE [];unfold Wk;rw[h1,h2];dsimp only;rw[Gd qE l,h3];cases l <;> rfl
def fallen(qD:iW)(f:iF)(l:iL):iL:=l.filter λk=>!decide (Yo qD f l k=0)
def X0(qD:iW)(f:iF)(l:iL):iL:=l.filter λk=>decide (Yo qD f l k=0)
def P6(qD:iW)(f:iF):Nat->Int->List Nat->List R3
 |0,_,_=>[]
 |n+1,i,l=>((fallen qD f l).map λk=>(i,k,Yo qD f l k))++P6 qD f n (i+1) (X0 qD f l)
def J1{qD:iW}{f:iF}{l:iL}(h:fallen qD f l=[]):X0 qD f l=l:=by
 refine bV.mpr λk hk=>?_
 have:=List.filter_eq_nil_iff.mp h k hk;simpa using this
def PP{qD:iW}{f:iF}{l:iL}(h:fallen qD f l=[]):∀(n:Nat) (i:Int),P6 qD f n i l=[]
 |0,_=>rfl
 |n+1,i=>by unfold P6;rw[h,J1 h,PP h n];rfl
def Qt(qD:iW)(f:iF)(l:iL):(fallen qD f l).length+(X0 qD f l).length=l.length:=by
 unfold fallen X0
 have h:∀(p:Nat->Bool) (l:iL),(l.filter λk=>!p k).length+(l.filter p).length=l.length:=λp l=>by
  induction l with
  |nil=>rfl
  |cons k r ih=>cases h:p k <;> simp[h] <;> omega
 exact h (λk=>decide (Yo qD f l k=0)) l
section
variable{c:CA}{om:iV}{ho hb hm hu hl hg size qE:Nat}{f:iF}{kvs:iT}{gs:Gs}{qF:Mx}{qD:iW}
abbrev pW(qE:Nat)(k:Nat):Wv:=Wv.int ((qE:Int)+k)
noncomputable abbrev XD (qE:Nat) (qD:iW) (f:iF):=Xi qE (mvL qD f) (hN qD f)
def DK(A:Sit c om ho hb hm hu hl hg size qE f kvs gs qF qD){hF hS:Nat}(hx:om[hF]?=some (.dk (XD qE qD f))){l:iL}(lr:∀k∈l,k∈mvL qD f)(lv:l.length<=60)(i:Int)(x5 x6:Option Wv):ZC 5 (Yk ZL [0,1,2,4] (λsl=>bnd (?c sl) ZO) Xl (Nc c)) [some (.o ho),some (.o hF),some (.lst (l.map (pW qE))),some (.o hS),some (.int i),x5,x6] om=(.nx,[some (.o ho),some (.o hF),some (.lst (l.map (pW qE))),some (.o hS),some (.int i),some (.lst (l.map λk=>r3W qE (i,k,Yo qD f l k))),x6])\om:=by
 have ja:=ZT;refine Zt (i:=5) ((XH (ws:=l.map (pW qE)) (qH:=om) (Zm (a:=.lst (l.map (pW qE))) (qH:=om) (Zb rfl)<|rfl) .(3) (Yi (pW qE) (λ_=>true) (λk=>r3W qE (i,k,Yo qD f l k)) (λk hk=>rfl) (λk hk _=>?_))).trans ?_)
 ·refine(ZB (Ze (Zb rfl) (Ze (Zb rfl) (Ze (ZB (Ze (Zb rfl) (Ze (Zb rfl) (Ze (Zb rfl) (Ze (Zb rfl) Zj))))<|(Yz rfl).trans (EJ A hx (lr k hk) rfl)) Zj)))).trans ?_
  unfold YU;rw[aC .(6)];rfl
 ·rw[bV.mpr (λ_ _=>rfl)]
  exact Z2 .(3)
def sift_in{sl:Sl}{qE:Nat}{i:Int}{l:iL}{v:Nat->Int}(h5:sl[5]?=↑(.lst (l.map λk=>r3W qE (i,k,v k))))(lv:l.length<=60):Yk ZL [] (λsl=>bnd (?f sl) ZO) (PL c) (OZ c) sl om=(.lst ((l.filter λk=>!decide (v k=0)).map λk=>r3W qE (i,k,v k)))\om:=by
 have ja:=ZT;have hf:=aI (λk=>!decide (v k=0)) l;exact XH (ws:=l.map λk=>r3W qE (i,k,v k)) (qH:=om) (Zm (Zb h5)<|rfl) .(3) (Yi (λk=>r3W qE (i,k,v k)) (λk=>!decide (v k=0)) (λk=>r3W qE (i,k,v k)) (λk hk=>ZQ (Zr (Zr (Zb rfl) Zp<|ZP (k:=2) rfl rfl) Zp<|Tw _ _ _)) (λk hk _=>Zb rfl))<|Z2 .(3)
def Aa{sl:Sl}{qE:Nat}{i:Int}{l:iL}{v:Nat->Int}(h5:sl[5]?=↑(.lst (l.map λk=>r3W qE (i,k,v k))))(lv:l.length<=60):Yk ZL [] (λsl=>bnd (?f sl) ZO) (OE c) (P9 c) sl om=(.lst ((l.filter λk=>decide (v k=0)).map (pW qE)))\om:=by
 have ja:=ZT;have hf:=aI (λk=>decide (v k=0)) l;exact XH (ws:=l.map λk=>r3W qE (i,k,v k)) (qH:=om) (Zm (Zb h5)<|rfl) .(3) (Yi (λk=>r3W qE (i,k,v k)) (λk=>decide (v k=0)) (pW qE) (λk hk=>ZQ (Zr (Zr (Zb rfl) Zp<|ZP (k:=2) rfl rfl) Zp<|XM _ _ _)) (λk hk _=>Zr (Zb rfl) Zp<|ZP (k:=1) rfl rfl))<|Z2 .(3)
def CO{om0:iV}{ws us:iR}{sl:Sl}(h3:sl[3]?=↑(.o om0.length))(h6:sl[6]?=↑(.lst us))(h:ws.length+us.length<=lim):ZR (BD ?d ?g) sl (om0++[.lst ws])=(.nx,sl)\(om0++[.lst (ws++us)]):=by
 have e:(om0++[Ob.lst ws])[om0.length]?=some (.lst ws):=by simp
 refine ZW (w:=.non) ?_;unfold BD;rw[Zm (Zb h3)];refine(Zm (a:=()) (qH:=om0++[.lst ws]) (by simp[Fn,Vs,e,L2.ret])).trans ?_;rw[Zm (Zb h6)];simp[kExt,Vs,e,h,cx]
def JE{om0:iV}(A:Sit c om0 ho hb hm hu hl hg size qE f kvs gs qF qD){hF:Nat}(hx:om0[hF]?=some (.dk (XD qE qD f))):∀(n:Nat) (i:Int) (l:iL) (i7:List R3) (x5 x6:Option Wv),l.length<n->i7.length+l.length<=60->(∀k∈l,k∈mvL qD f) -> ∃jc,Uo (Xm (fC (.bl true))) (Wu c) n [some (.o ho),some (.o hF),some (.lst (l.map (pW qE))),some (.o om0.length),some (.int i),x5,x6] (om0++[.lst (i7.map (r3W qE))])=(.rt (.o om0.length),jc)\(om0++[.lst ((i7++P6 qD f n i l).map (r3W qE))])
 |0,_,_,_,_,_,h,_,_=>by omega
 |n+1,i,l,i7,x5,x6,h,lv,lr=>by
  have ja:=ZT;have iZ:=Qt qD f l;have A1:=A.grow [.lst (i7.map (r3W qE))]
  have hx1:(om0++[Ob.lst (i7.map (r3W qE))])[hF]?=some (.dk (XD qE qD f)):=by
   have:hF<om0.length:=by
    by_cases h:hF<om0.length
    ·exact h
    ·rw[bP .(0)]at hx;cases hx
   rw[aZ this];exact hx
  have e1:=DK (hS:=om0.length) A1 hx1 lr .(0) i x5 x6;have e2:=Zt (i:=6) (sift_in (c:=c) (om:=om0++[.lst (i7.map (r3W qE))]) (sl:=[some (.o ho),some (.o hF),some (.lst (l.map (pW qE))),some (.o om0.length),some (.int i),some (.lst (l.map λk=>r3W qE (i,k,Yo qD f l k))),x6]) rfl .(0));have em:(l.filter λk=>!decide (Yo qD f l k=0)).map (λk=>r3W qE (i,k,Yo qD f l k))=((fallen qD f l).map λk=>(i,k,Yo qD f l k)).map (r3W qE):=by rw[bA];rfl
  rw[em]at e2
  have e3:fB (f2 kEq ?g (fA ZL Zi)) [some (.o ho),some (.o hF),some (.lst (l.map (pW qE))),some (.o om0.length),some (.int i),some (.lst (l.map λk=>r3W qE (i,k,Yo qD f l k))),some (.lst (((fallen qD f l).map λk=>(i,k,Yo qD f l k)).map (r3W qE)))] (om0++[.lst (i7.map (r3W qE))])=((fallen qD f l).map λk=>(i,k,Yo qD f l k)).isEmpty\(om0++[.lst (i7.map (r3W qE))]):=
   ZQ (Zr (Zb rfl) (ZB Zj<|OD .(2))<|eq_r3n qE _ _)
  show ∃jc,bnd _ (kWh (λjd=>Uo (Xm (fC (.bl true))) (Wu c) n jd) (Wu c) _) _=_
  rw[Zm (Y3 (b:=true) Zp)];show ∃jc,bnd (Wu c _) (Qe λjd=>Uo (Xm (fC (.bl true))) (Wu c) n jd) _=_
  by_cases hf:fallen qD f l=[]
  ·rw[hf]at e2 e3
   refine⟨[some (.o ho),some (.o hF),some (.lst (l.map (pW qE))),some (.o om0.length),some (.int i),some (.lst (l.map λk=>r3W qE (i,k,Yo qD f l k))),some (.lst ((([]:iL).map λk=>(i,k,Yo qD f l k)).map (r3W qE)))],(Zm (Zh e1<|(Zh e2).trans (Ys (Z9 e3<|Zw (Zb rfl))))).trans ?_⟩;rw[PP hf,bF];rfl
  ·have jw:(fallen qD f l).length≠0:=λz=>hf (ib z)
   have hie:((fallen qD f l).map λk=>(i,k,Yo qD f l k)).isEmpty=false:=by
    cases hq:fallen qD f l with
    |nil=>exact absurd hq hf
    |cons _ _=>rfl
   rw[hie]at e3;have e4:=CO (om0:=om0) (ws:=i7.map (r3W qE)) (us:=((fallen qD f l).map λk=>(i,k,Yo qD f l k)).map (r3W qE)) (sl:=[some (.o ho),some (.o hF),some (.lst (l.map (pW qE))),some (.o om0.length),some (.int i),some (.lst (l.map λk=>r3W qE (i,k,Yo qD f l k))),some (.lst (((fallen qD f l).map λk=>(i,k,Yo qD f l k)).map (r3W qE)))]) rfl rfl .(4);rw[← bX]at e4;have e5:=Zt (i:=2) (Aa (c:=c) (om:=om0++[.lst ((i7++(fallen qD f l).map λk=>(i,k,Yo qD f l k)).map (r3W qE))]) (sl:=[some (.o ho),some (.o hF),some (.lst (l.map (pW qE))),some (.o om0.length),some (.int i),some (.lst (l.map λk=>r3W qE (i,k,Yo qD f l k))),some (.lst (((fallen qD f l).map λk=>(i,k,Yo qD f l k)).map (r3W qE)))]) rfl .(0));obtain⟨jc,e7⟩:=JE A hx n (i+1) (X0 qD f l) (i7++(fallen qD f l).map λk=>(i,k,Yo qD f l k)) (some (.lst (l.map λk=>r3W qE (i,k,Yo qD f l k)))) (some (.lst (((fallen qD f l).map λk=>(i,k,Yo qD f l k)).map (r3W qE)))) .(0) (by simp only[aV,aB];omega) (λk hk=>lr k (aQ.mp hk).1);refine⟨jc,Zm (Zh e1<|(Zh e2).trans (Zh (ZM e3)<|(Zh e4).trans (Zh e5<|Zt (i:=4) (Zr (Zb rfl) Zp<|rfl))))<|e7.trans ?_⟩;rw[bT];rfl
abbrev Y8(qD:iW)(f:iF):List R3:=P6 qD f 100 1 (mvL qD f)
noncomputable abbrev W8 (qE:Nat) (qD:iW) (f:iF):=Xi qE (mvL qD f) (fN qD f)
def IR(A:Sit c om ho hb hm hu hl hg size qE f kvs gs qF qD):Qn c [.o ho] om=(.o (om.length+2))\(om++[.dk (W8 qE qD f),.dk (XD qE qD f),.lst ((Y8 qD f).map (r3W qE))]):=by
 have ja:=ZT;have jC:=A.few;have hml:=V8 qD f;have A2:=A.grow [.dk (W8 qE qD f),.dk (XD qE qD f)];have hx:(om++[Ob.dk (W8 qE qD f),.dk (XD qE qD f)])[om.length+1]?=some (.dk (XD qE qD f)):=by simp
 have hi:=Dn A;have hn:(om++[Ob.dk (W8 qE qD f),.dk (XD qE qD f)]).length=om.length+2:=by simp
 have hc:om++[Ob.dk (W8 qE qD f),.dk (XD qE qD f),.lst ((Y8 qD f).map (r3W qE))]=(om++[Ob.dk (W8 qE qD f),.dk (XD qE qD f)])++[.lst ((Y8 qD f).map (r3W qE))]:=by simp
 rw[hc];generalize om++[Ob.dk (W8 qE qD f),.dk (XD qE qD f)]=om2 at A2 hx hi hn;have e1:ZC 1 (fA (kN 1 (Vh c)) #[?a]) [some (.o ho),none,none,none,none,none,none] om=(.nx,[some (.o ho),some (.o (om.length+1)),none,none,none,none,none])\om2:=Zt (i:=1) (ZB (Ze (Zb rfl) Zj)<|(Yz rfl).trans hi);have e2:ZC 2 (Zn c.Orders "movers" 1 (ZV c) ?a Zi) [some (.o ho),some (.o (om.length+1)),none,none,none,none,none] om2=(.nx,[some (.o ho),some (.o (om.length+1)),some (.lst ((mvL qD f).map (pW qE))),none,none,none,none])\om2:=Zt (i:=2) (Zv (Zb rfl) (Zu A2.S.o) (Z8 _ _ _ .(1) .(1)) Zj rfl<|Rv A2)
 have e3:ZC 3 (fA Wb Zi) [some (.o ho),some (.o (om.length+1)),some (.lst ((mvL qD f).map (pW qE))),none,none,none,none] om2=(.nx,[some (.o ho),some (.o (om.length+1)),some (.lst ((mvL qD f).map (pW qE))),some (.o om2.length),none,none,none])\(om2++[.lst []]):=Zt (i:=3) ((ZB Zj).trans (by
  show Wb [] om2=_;unfold Wb;rw[aC .(2)];rfl))
 obtain⟨jc,e5⟩:=JE A2 hx 100 1 (mvL qD f) [] none none .(0) .(6) (λ_ h=>h);rw[gn]at e5;rw[← hn];exact ZD (Zh e1<|(Zh e2).trans (Zh e3<|(Zh (Zt (i:=4) Zp)).trans e5))
def sm_r3(qE n:Nat):∀l:List R3,smalls n (l.map (r3W qE))
 |[]=>trivial
 |_::r=>⟨⟨trivial,trivial,trivial,trivial⟩,sm_r3 qE n r⟩
def fz_r3(qE n:Nat)(om:iV)(l:List R3):(l.map (r3W qE)).map (fzW om n 3)=l.map (r3W qE):=by
 rw[bA];rfl
def En(A:Sit c om ho hb hm hu hl hg size qE f kvs gs qF qD):UQ c [.o ho] om=(.lst ((Y8 qD f).map (r3W qE)))\om:=by
 refine tidyG_ok (IR A) (.own .(0) .(2) (FzWs.of_smalls (sm_r3 _ _ _))) ?_;have e:(om++[Ob.dk (W8 qE qD f),.dk (XD qE qD f),.lst ((Y8 qD f).map (r3W qE))])[om.length+2]?=some (.lst ((Y8 qD f).map (r3W qE))):=by simp
 generalize om++[Ob.dk (W8 qE qD f),.dk (XD qE qD f),.lst ((Y8 qD f).map (r3W qE))]=om2 at e;show(if om.length<=om.length+2 then (match om2[om.length+2]? with|some (.lst xs)=>Wv.lst (xs.map (fzW om2 om.length 3))|_=>.o (om.length+2)) else .o (om.length+2))=_;rw[aC .(0),e];show Wv.lst (((Y8 qD f).map (r3W qE)).map (fzW om2 om.length 3))=_;rw[fz_r3]
def US(qD:iW)(f:iF):Nat->List Nat->List Nat
 |0,l=>l
 |n+1,l=>US qD f n (X0 qD f l)
def KR(qD:iW)(f:iF):∀(n:Nat) (i:Int) (l:iL),(P6 qD f n i l).length<=l.length
 |0,_,_=>by simp[P6]
 |n+1,i,l=>by
  have:=Qt qD f l;have:=KR qD f n (i+1) (X0 qD f l);unfold P6;simp only[aV,aB];omega
def GY(qD:iW)(f:iF):∀(n:Nat) (i:Int) (l:iL),l.Nodup->US qD f n l=l.filter λk=>!((P6 qD f n i l).map λr=>r.2.1).contains k
 |0,_,l,_=>(bV.mpr λ_ _=>rfl).symm
 |n+1,i,l,nd=>by
  have ih:=GY qD f n (i+1) (X0 qD f l) (nd.sublist bZ);unfold US P6;rw[ih,bX,bA]
  have hm:(fallen qD f l).map ((λr:R3=>r.2.1) ∘ λk=>(i,k,Yo qD f l k))=fallen qD f l:=by
   conv=>rhs;rw[← List.map_id (fallen qD f l)]
   rfl
  rw[hm];generalize (P6 qD f n (i+1) (X0 qD f l)).map (λr=>r.2.1)=R;unfold X0;rw[gS];refine fM λk hk=>?_
  have hc:(fallen qD f l++R).contains k=((fallen qD f l).contains k || R.contains k):=by
   refine dU.mpr ?_;rw[dS,bH,bH,bH,dD]
  have hf:(fallen qD f l).contains k=!decide (Yo qD f l k=0):=by
   refine dU.mpr ?_;rw[bH];unfold fallen;rw[aQ];exact⟨λh=>h.2,λh=>⟨hk,h⟩⟩
  rw[hc,hf];cases decide (Yo qD f l k=0) <;> cases R.contains k <;> rfl
def ID(A:Sit c om ho hb hm hu hl hg size qE f kvs gs qF qD):Se c [.o ho] om=(.lst ((US qD f 100 (mvL qD f)).map (pW qE)))\om:=by
 have ja:=ZT;have jC:=A.few;have hml:=V8 qD f;have kL:(Y8 qD f).length<=(mvL qD f).length:=KR qD f 100 1 (mvL qD f)
 have e1:ZC 1 (Yk ZL [] (λsl=>bnd ((fA (kN 1 (UQ c)) #[?a]) sl) ZO) Xl (O9 c)) [some (.o ho),none] om=(.nx,[some (.o ho),some (.lst (((Y8 qD f).map λr=>r.2.1).map (pW qE)))])\om:=by
  refine Zt (i:=1) ((XH (ws:=(Y8 qD f).map (r3W qE)) (qH:=om) (Zm (ZB (Ze (Zb rfl) Zj)<|(Yz rfl).trans (En A))<|rfl) .(3) (Yi (r3W qE) (λ_=>true) (λr=>pW qE r.2.1) (λk hk=>rfl) (λk hk _=>Zr (Zb rfl) Zp<|ZP (k:=1) rfl rfl))).trans ?_);rw[bV.mpr (λ_ _=>rfl)];have e:(Y8 qD f).map (λr=>pW qE r.2.1)=((Y8 qD f).map λr=>r.2.1).map (pW qE):=by rw[bA];rfl
  rw[e];exact Z2 .(4)
 rw[GY qD f 100 1 (mvL qD f) (Lz qD f)];have hfl:=aI (λk=>!((Y8 qD f).map λr=>r.2.1).contains k) (mvL qD f);refine ZD (Zh e1<|Zw (XH (ws:=(mvL qD f).map (pW qE)) (qH:=om) (Zm (Zv (Zb rfl) (Zu A.S.o) (Z8 _ _ _ .(1) .(1)) Zj rfl<|Rv A)<|rfl) .(3) (Yi (pW qE) (λk=>!((Y8 qD f).map λr=>r.2.1).contains k) (pW qE) (λk hk=>?_) (λk hk _=>Zb rfl))<|Z2 .(3)));exact ZQ (v2 rfl rfl<|N0 (l:=(Y8 qD f).map λr=>r.2.1) rfl true)
end
end MP
namespace L2
noncomputable section
open PySem PySem.Spec PyProof.Rows
section
variable{X:Cx}{E:XK}{e a b c o:qS}{es:iN}{f fa fb fc fo:FE}{fs:FA}{pos p2 p p':Pos}
def rCount:V->List V->Hp->VK->Prop:=λx vs H Q=>∃(l:qJ) (ns:iK) (k:Int),x=.ref l/\vs=[.int k]/\Rd H l (.lst (ns.map V.int))/\Q (.int ((ns.count k:Nat):Int)) H
def Bh:MtM X "list.count" rCount:=by
 intro gV s σ H x vs v us Q I rx rv h;obtain⟨l,ns,k,rfl,rfl,hB,q⟩:=h;cases rx;obtain⟨u,rfl,ru⟩:=rv.one;obtain⟨t,rfl⟩:=ru;obtain⟨_,iy,n,r,e⟩:=hB.ok I.hok;exact count_list_ints (vs:=iy) ⟨_,e,rfl,n,rfl⟩ (Us rfl r) ⟨.int _,H,I.tok _,⟨_,rfl⟩,q⟩
def kIsF(x:Wv):Mw Unit:=λom=>match x with
 |.lst _=>()\om
 |_=>none
def IL(x y:Wv):Mw Wv:=λom=>match x,y with
 |.lst ws,.int k=>match Xv ws with
  |some ns=>(.int ((ns.count k:Nat):Int))\om
  |none=>none
 |_,_=>none
def OU(fo f:FE):FE:=λsl=>bnd (fo sl) λx=>bnd (kIsF x) λ_=>bnd (f sl) λy=>IL x y
def Bk{iY i0:Pos}(ho:PE X o (tE E fo))(he:PE X e (tE E f))(jp:attributeBase o "count" X.env (eval o X.env)=eval o X.env:=by rfl)(jC:((backTo i0 (starEach [e] X.env)).all (λx=>!x.1)&&(backToKw i0 (keywordEach [] X.env)).all (λx=>x.1.isSome)
     && decide (([e]:iN).length+([]:List Keyword).length+(if ([]:List Keyword).isEmpty then 0 else 1)<30))=true:=by rfl)
    (jq:(iY.endLine == i0.line)=true:=by rfl) (hs:rD e X:=by rfl) (jA:rK i0 X:=by rfl):
    PE X (.Call (.Attribute o "count" iY) [e] [] i0) (tE E (OU fo f)):=(CH fW PySem.F.slot_list_count PySem.F.type_list_count Bh ho (X1 he Vq hs) jp jC jq hs jA).weak λσ H Q ⟨F,β,om,sl,M,V,R⟩=>by
 refine⟨F,β,om,sl,M,V,R.bind λx qH F1 H1 ix g1 M1 R1 v rv=>?_⟩;cases rv with
 |@lst a xs ws q rs=>
  have R1:Res E (bnd (f sl) (λy=>IL (.lst ws) y) qH) F1 H1 ix (PV Q):=R1;refine⟨.inl ⟨rfl,xs,.inl (Rd.same M1.sub q)⟩,F1,ix,qH,sl,M1,V.mono g1.toGr,R1.bind λy jH F3 H3 jN g3 M3 R3 u ru=>?_⟩;cases ru with
  |int k=>
   have R3:Res E (match Xv ws with|some ns=>some (Except.ok (Wv.int ((ns.count k:Nat):Int)),jH)|none=>none) F3 H3 jN (PV Q):=R3
   match hn:Xv ws,R3 with
   |none,R3=>exact R3.elim
   |some ns,R3=>
    have ex:=VF rs hn;subst ex;exact⟨a,ns,k,rfl,rfl,Rd.same M3.sub (Rd.same g3.toGr.same q),(show Res E (some (Except.ok (Wv.int ((ns.count k:Nat):Int)),jH)) F3 H3 jN (PV Q) from R3).now M3 _ (.int _)⟩
  |_=>exact R3.elim
 |_=>exact R1.elim
end
end
end L2
namespace MP
open PySem L2
def NM(qD:iW)(f:iF):∀(n:Nat) (l:iL),l.length<n->fallen qD f (US qD f n l)=[]
 |0,_,h=>by omega
 |n+1,l,h=>by
  by_cases hf:fallen qD f l=[]
  ·have:∀m,US qD f m l=l:=λm=>by
    induction m with
    |zero=>rfl
    |succ m ih=>unfold US;rw[J1 hf];exact ih
   rw[this];exact hf
  ·have:=Qt qD f l
   have:(fallen qD f l).length≠0:=λz=>hf (ib z)
   exact NM qD f n (X0 qD f l) .(0)
def Im(qD:iW)(f:iF):∀(n:Nat) (l:iL),(US qD f n l).Sublist l
 |0,l=>List.Sublist.refl _
 |n+1,l=>Im qD f n (X0 qD f l)<|bZ
def mO(m:Nat->Nat):Od->Od
 |.stand=>.stand
 |.move g=>.move (m g)
 |.help h g=>.help (m h) (m g)
structure Mr(n:Nat)(m:Nat->Nat)(qD j7:iW)(f f':iF):Prop where
 lt:∀k,k<n->m k<n
 mm:∀k,k<n->m (m k)=k
 lT:qD.length=n
 lT':j7.length=n
 lf:f.length=n
 lf':f'.length=n
 t:∀k,k<n->at' j7 (m k)=(at' qD k).map (mO m)
 s:∀k,k<n->at' f' (m k)=(at' f k).map λs=>7-s
 s7:∀k s,at' f k=some s->0<=s/\s<=7
 mv:∀k g,at' qD k=some (.move g)->g<n
 hp:∀k h g,at' qD k=some (.help h g)->h<n/\g<n
section
variable{n:Nat}{m:Nat->Nat}{qD j7:iW}{f f':iF}(M:Mr n m qD j7 f f')
include M
end
end MP
namespace L2
open PySem
namespace Tb
def nx(m i:Nat):Nat:=(i * 5+1) % (m+1)
def it(m:Nat):Nat->Nat->Nat
 |0,i=>i
 |k+1,i=>it m k (nx m i)
def orb(m:Nat):Nat->Nat->List Nat
 |0,_=>[]
 |k+1,i=>i::orb m k (nx m i)
def Kd(m:Nat):∀(a b i:Nat),it m (a+b) i=it m b (it m a i)
 |0,b,i=>by rw[eK];rfl
 |a+1,b,i=>by rw[gP];exact Kd m a b (nx m i)
def HS(m:Nat):∀(k i e:Nat),e∈orb m k i->∃a,a<k/\it m a i=e
 |0,i,e,h=>nomatch h
 |k+1,i,e,h=>by
  rcases aN.mp h with h|h
  ·exact⟨0,eL _,h.symm⟩
  ·obtain⟨a,h1,h2⟩:=HS m k (nx m i) e h
   exact⟨a+1,.(0),h2⟩
def Gm(m:Nat):Prop:=m=7\/m=15\/m=31\/m=63\/m=127
def whl(m:Nat):Bool:=((List.range (m+1)).all λe=>(orb m (m+1) 0).contains e)&&it m (m+1) 0 == 0
def whl_of{m:Nat}(h:Gm m):whl m=true:=by
 rcases h with rfl|rfl|rfl|rfl|rfl <;> decide +kernel
def reach{m i e:Nat}(g:Gm m)(hi:i<=m)(he:e<=m):∃k,k<=m/\it m k i=e:=by
 have w:=whl_of g;unfold whl at w;rw[bW,cS]at w;have z:it m (m+1) 0=0:=by simpa using w.2
 have f:∀e,e<=m->∃a,a<m+1/\it m a 0=e:=λe he=>HS m _ _ _ (by simpa using w.1 e (bR.mpr .(0)))
 obtain⟨a,ha,rfl⟩:=f i hi;obtain⟨b,hb,rfl⟩:=f e he;by_cases jQ:a<=b
 ·exact⟨b-a,.(0),by rw[← Kd,Nat.add_sub_cancel' jQ]⟩
 ·refine⟨b+(m+1)-a,.(0),?_⟩
  rw[← Kd,show a+(b+(m+1)-a)=(m+1)+b by omega,Kd,z]
def tr(m:Nat):Nat->Nat × Nat->Nat × Nat
 |0,x=>x
 |k+1,x=>tr m k (SetTable.leap m x.1 x.2)
def Da(m:Nat):∀(a b:Nat) (x:Nat × Nat),tr m (a+b) x=tr m b (tr m a x)
 |0,b,x=>by rw[eK];rfl
 |a+1,b,x=>by rw[gP];exact Da m a b _
def GD(m:Nat):∀(k i:Nat),tr m k (i,0)=(it m k i,0)
 |0,i=>rfl
 |k+1,i=>by
  have e:SetTable.leap m i 0=(nx m i,0):=by simp[SetTable.leap,nx]
  show tr m k (SetTable.leap m i 0)=_;rw[e,GD m k];rfl
def CD(m:Nat):∀(k:Nat) (x:Nat × Nat),(tr m k x).2=x.2 / 32 ^ k
 |0,x=>by simp[tr]
 |k+1,x=>by
  show(tr m k _).2=_;rw[CD m k];show x.2 / 32 / 32 ^ k=_;rw[Nat.div_div_eq_div_mul,Nat.pow_succ,Nat.mul_comm]
def tr_le(m:Nat):∀(k:Nat) (x:Nat × Nat),x.1<=m->(tr m k x).1<=m
 |0,x,h=>h
 |k+1,x,h=>tr_le m k _ (eE.mp (fu _ (eL m)))
def KC{m i p e:Nat}(g:Gm m)(hi:i<=m)(hp:p<2 ^ 64)(he:e<=m):∃k,k<=m+13/\(tr m k (i,p)).1=e:=by
 have h2:(tr m 13 (i,p)).2=0:=by rw[CD];exact Nat.div_eq_of_lt (bE hp .(1))
 obtain⟨k,hk,h⟩:=reach g (tr_le m 13 (i,p) hi) he;refine⟨13+k,.(0),?_⟩;rw[Da,show tr m 13 (i,p)=((tr m 13 (i,p)).1,0) from Prod.ext rfl h2,GD];exact h
def GI(h:Int):SetTable.bits h<2 ^ 64:=by
 unfold SetTable.bits;have:h % (2 ^ 64:Int)<2 ^ 64:=dw _ .(1);omega
def NG{m:Nat}{ow:Array (Option Nat)}:∀(k fuel i p:Nat),k<fuel->(ow.getD (tr m k (i,p)).1 (some 0)).isNone=true->∃j,SetTable.layClean.free m ow fuel i p=some j/\(ow.getD j (some 0)).isNone=true
 |k,0,i,p,h,_=>absurd h (eD _)
 |k,fuel+1,i,p,h,e=>by
  unfold SetTable.layClean.free;cases hf:(List.range (SetTable.runEnd m i+1-i)).find? λk=>(ow.getD (i+k) (some 0)).isNone with
  |some q=>exact⟨i+q,rfl,ii (p:=λk=>(ow.getD (i+k) (some 0)).isNone) hf⟩
  |none=>
   cases k with
   |zero=>
    have hr:0∈List.range (SetTable.runEnd m i+1-i):=by
     unfold SetTable.runEnd;rw[bR];split <;> omega
    exact absurd e (fF.mp hf 0 hr)
   |succ k=>exact NG k fuel _ _ (Nat.lt_of_succ_lt_succ h) e
def UA(m:Nat)(ow:Array (Option Nat)):iL:=(List.range (m+1)).filterMap λj=>ow.getD j none
def DO{α γ:Type}{f:α->Option γ}:∀{l:List α},(∀x∈l,f x≠none)->(l.filterMap f).length=l.length
 |[],_=>rfl
 |x::l,h=>by
  cases hx:f x with
  |none=>exact absurd hx (h x (.head _))
  |some y=>rw[eC hx,bI,bI,DO λy hy=>h y (.tail _ hy)]
def RE{α γ:Type}{f g:α->Option γ}:∀{l:List α},(∀x∈l,f x=g x)->l.filterMap f=l.filterMap g
 |[],_=>rfl
 |x::l,h=>by
  have hx:=h x (.head _);have hl:=RE (l:=l) λy hy=>h y (.tail _ hy)
  cases hg:g x with
  |none=>rw[fR (hx<|hg),fR hg,hl]
  |some y=>rw[eC (hx<|hg),eC hg,hl]
def Fv{m:Nat}{ow:Array (Option Nat)}(h:(UA m ow).length<m+1):∃e,e<=m/\ow.getD e none=none:=by
 refine fK λn=>?_
 have:=DO (l:=List.range (m+1)) (f:=λj=>ow.getD j none) λx hx z=>n ⟨x,by have:=bR.mp hx;omega,z⟩
 unfold UA at h;rw[this,cB]at h;exact cV _ h
def EB{m:Nat}{ow:Array (Option Nat)}{j k:Nat}(hs:ow.size=m+1)(hj:j<=m)(hn:ow.getD j none=none):(UA m (ow.setIfInBounds j (some k))).Perm (k::UA m ow):=by
 obtain⟨a,b,jQ⟩:=List.append_of_mem (bR.mpr (show j<m+1 by omega));have nd:(a++j::b).Nodup:=jQ ▸ fS
 have nd':=cq.mp nd;have ha:j ∉ a:=λh=>nd'.2.2 j h j (.head _) rfl
 have hb:j ∉ b:=(cL.mp nd'.2.1).1
 have oth:∀x,x≠j->(ow.setIfInBounds j (some k)).getD x none=ow.getD x none:=λx hx=>by
  rw[bS,bS,Array.getElem?_setIfInBounds_ne (cI hx)]
 have self:(ow.setIfInBounds j (some k)).getD j none=some k:=by
  rw[bS,Array.getElem?_setIfInBounds_self_of_lt .(0)];rfl
 unfold UA
 rw[jQ,gw,gw,eC (f:=λj_1=>(ow.setIfInBounds j (some k)).getD j_1 none) self,fR (f:=λj=>ow.getD j none) hn,
  RE (l:=a) (g:=λj=>ow.getD j none) (λx hx=>oth x λz=>ha (z ▸ hx)),RE (l:=b) (g:=λj=>ow.getD j none) (λx hx=>oth x λz=>hb (z ▸ hx))]
 exact List.perm_middle
abbrev layS(m:Nat)(i7:Option (Array (Option Nat) × Nat))(h:Int):Option (Array (Option Nat) × Nat):=do
 let (owner,k) ← i7
 let j ← SetTable.layClean.free m owner (SetTable.turns m) (SetTable.bits h % (m+1)) (SetTable.bits h)
 pure (owner.setIfInBounds j (some k),k+1)
def Gk{m:Nat}(g:Gm m):∀(hs:iK) (ow:Array (Option Nat)) (k:Nat),ow.size=m+1->(UA m ow).Perm (List.range k)->k+hs.length<=m -> ∃mx,hs.foldl (layS m) (some (ow,k))=some (mx,k+hs.length)/\mx.size=m+1/\(UA m mx).Perm (List.range (k+hs.length))
 |[],ow,k,h1,h2,_=>⟨ow,rfl,h1,h2⟩
 |h::hs,ow,k,h1,h2,h3=>by
  have hl:(UA m ow).length=k:=by rw[h2.length_eq,cB]
  obtain⟨e,he,hn⟩:=Fv (m:=m) (ow:=ow) (by rw[hl,bI]at *;omega);obtain⟨q,hq,hz⟩:=KC g (i:=SetTable.bits h % (m+1)) (eE.mp (fu _ (eL m))) (GI h) he
  have gd:∀x,(ow.getD x (some 0)).isNone=true->x<=m/\ow.getD x none=none:=λx hx=>by
   rw[bS]at hx ⊢;cases ho:ow[x]? with
   |none=>rw[ho]at hx;cases hx
   |some y=>
    rw[ho]at hx;obtain⟨jg,_⟩:=d7.mp ho;refine⟨.(0),?_⟩;cases y with
    |none=>rfl
    |some y=>cases hx
  have lY:(ow.getD e (some 0)).isNone=true:=by
   rw[bS]at hn ⊢;have jg:e<ow.size:=by omega
   rw[ck jg]at hn ⊢;simp only[g8]at hn ⊢;rw[hn];rfl
  obtain⟨j,hj,pP⟩:=NG q (SetTable.turns m) (SetTable.bits h % (m+1)) (SetTable.bits h) (by unfold SetTable.turns;omega) (by rw[hz];exact lY);obtain⟨mj,pQ⟩:=gd j pP
  have st:layS m (some (ow,k)) h=some (ow.setIfInBounds j (some k),k+1):=by
   show(SetTable.layClean.free m ow (SetTable.turns m) (SetTable.bits h % (m+1)) (SetTable.bits h) >>= _)=_;rw[hj];rfl
  obtain⟨mx,e1,e2,e3⟩:=Gk g hs (ow.setIfInBounds j (some k)) (k+1) (by rw[Array.size_setIfInBounds,h1]) ((EB h1 mj pQ).trans (by
   rw[df];exact h2.cons k<|List.perm_append_comm (l₁:=[k]))) (by rw[bI]at h3;omega)
  refine⟨mx,?_,e2,?_⟩
  ·rw[ig,st,e1,bI,gP,Nat.add_assoc]
  ·rw[bI,show k+(hs.length+1)=k+1+hs.length by omega];exact e3
def KJ{m:Nat}(g:Gm m){hs:Array Int}(h:hs.size<=m):∃ow,SetTable.layClean m hs=some ow/\ow.size=m+1/\(UA m ow).Perm (List.range hs.size):=by
 have h0:UA m (Array.replicate (m+1) none)=[]:=by
  unfold UA;rw[List.filterMap_eq_nil_iff];intro x hx;rw[bS,Array.getElem?_replicate];split <;> rfl
 obtain⟨ow,e1,e2,e3⟩:=Gk g hs.toList (Array.replicate (m+1) none) 0 (Array.size_replicate) (by rw[h0];exact dJ _) (by rw[aR];omega);refine⟨ow,?_,e2,by rw[eK,aR]at e3;exact e3⟩;unfold SetTable.layClean;rw[← Array.foldl_toList];show Option.map _ (hs.toList.foldl (layS m) (some (Array.replicate (m+1) none,0)))=_;rw[e1];rfl
structure TG(t:qL)(n:Nat):Prop where
 gm:Gm t.mask
 size:t.place.size=n
 dum:t.dummies=#[]
 ris:t.place.toList.Pairwise (· < ·)
 le:∀x∈t.place.toList,x<=t.mask
 room:n * 5<t.mask * 3
 pl:t.plain=true
def LO{m f mv:Nat}{led:Bool}(g:Gm m){hs:Array Int}(h:hs.size * 5<m * 3):∃t o,SetTable.laid m f mv led true hs=some (t,o)/\o.toList.Perm (List.range hs.size)/\TG t hs.size/\t.mask=m/\t.led=led:=by
 obtain⟨ow,e1,e2,e3⟩:=KJ g (hs:=hs) .(0)
 have e4:((List.range (m+1)).filterMap λj=>(ow.getD j none).map (j,·)).map (·.2)=UA m ow:=by
  unfold UA;rw[List.map_filterMap];exact RE λx _=>by cases ow.getD x none <;> rfl
 have sub:(((List.range (m+1)).filterMap λj=>(ow.getD j none).map (j,·)).map (·.1)).Sublist (List.range (m+1)):=by
  rw[List.map_filterMap];generalize List.range (m+1)=l
  induction l with
  |nil=>exact List.Sublist.refl _
  |cons x l ih=>
   rw[cJ];cases ow.getD x none with
   |none=>exact ih.cons x
   |some y=>exact ih.cons₂ x
 have hl:((List.range (m+1)).filterMap λj=>(ow.getD j none).map (j,·)).length=hs.size:=by
  have:=cE List.length e4;rw[aB,e3.length_eq,cB]at this;exact this
 refine⟨_,_,by unfold SetTable.laid;rw[e1];rfl,?_,⟨g,?_,rfl,?_,?_,h,rfl⟩,rfl,rfl⟩
 ·show(List.map _ _).Perm _
  rw[e4];exact e3
 ·show(List.map _ _).length=_
  rw[aB,hl]
 ·exact List.Pairwise.sublist sub f8
 ·intro x hx
  have:=bR.mp (sub.subset hx);exact eE.mp this
end Tb
namespace Tb
def Ot{xs:Array Nat}{j:Nat}(hr:xs.toList.Pairwise (· < ·)):∀(fuel lo hi:Nat),hi<=xs.size->hi-lo<=fuel->lo<=hi->(∀q (h:q<xs.size),q<lo->xs[q]<j)->(∀q (h:q<xs.size),hi<=q->j<=xs[q]) -> (SetTable.below.go xs j fuel lo hi<=xs.size/\(∀q (h:q<xs.size),q<SetTable.below.go xs j fuel lo hi->xs[q]<j)/\∀q (h:q<xs.size),SetTable.below.go xs j fuel lo hi<=q->j<=xs[q])
 |0,lo,hi,h1,h2,h3,a,b=>by
  have:lo=hi:=by omega
  subst this;exact⟨h1,a,b⟩
 |fuel+1,lo,hi,h1,h2,h3,a,b=>by
  have inc:∀p q (hp:p<xs.size) (hq:q<xs.size),p<q->xs[p]<xs[q]:=λp q hp hq pR=>by
   have:=dC.mp hr p q (by simpa using hp) (by simpa using hq) pR;simpa using this
  unfold SetTable.below.go;split
  ·rename_i jg
   dsimp only;have hm:(lo+hi) / 2<xs.size:=by omega
   have e:xs.getD ((lo+hi) / 2) j=xs[(lo+hi) / 2]:=by rw[bS,ck hm];rfl
   rw[e];split
   ·rename_i hc
    exact Ot hr fuel _ _ h1 .(0) .(0) (λq hq hl=>by
     by_cases z:q=(lo+hi) / 2
     ·subst z;exact hc
     ·exact Nat.lt_trans (inc q _ hq hm .(0)) hc) b
   ·rename_i hc
    exact Ot hr fuel _ _ .(0) .(0) .(0) a (λq hq hl=>by
     by_cases z:q=(lo+hi) / 2
     ·subst z;omega
     ·have:=inc _ q hm hq .(0);omega)
  ·have:lo=hi:=by omega
   subst this;exact⟨h1,a,b⟩
def Jb{xs:Array Nat}{j:Nat}(hr:xs.toList.Pairwise (· < ·)):SetTable.below xs j<=xs.size/\(∀q (h:q<xs.size),q<SetTable.below xs j->xs[q]<j)/\∀q (h:q<xs.size),SetTable.below xs j<=q->j<=xs[q]:=
 Ot hr xs.size 0 xs.size (aM _) .(0) (cF _) (λq _ h=>absurd h (eD _)) λq h h'=>absurd h (gK.mpr h')
def GC:∀{l m:iL},l.Nodup->(∀x∈l,x∈m)->l.length<=m.length
 |[],m,_,_=>cF _
 |x::l,m,nd,h=>by
  obtain⟨a,b,rfl⟩:=List.append_of_mem (h x (.head _));have nd':=cL.mp nd
  have:=GC (l:=l) (m:=a++b) nd'.2 λy hy=>by
   have hm:=h y (.tail _ hy);simp only[dD,aN]at hm ⊢;rcases hm with z|z|z
   ·exact .inl z
   ·exact absurd (z ▸ hy) nd'.1
   ·exact .inr z
  simp only[aV,bI]at this ⊢;omega
def Pi{t:qL}(hd:t.dummies=#[])(j:Nat):(t.slot j=.empty/\t.place[SetTable.below t.place j]?≠some j)\/(∃i,t.slot j=.live i)/\j∈t.place.toList:=by
 unfold SetTable.slot;dsimp only;by_cases h:t.place[SetTable.below t.place j]?=some j
 ·refine .inr ⟨⟨_,aC (by rw[h];exact beq_self_eq_true _)⟩,?_⟩
  exact Array.mem_toList_iff.mpr (Array.mem_of_getElem? h)
 ·refine .inl ⟨?_,h⟩
  rw[aD (by simpa using h),aD (by rw[hd];simp[SetTable.has])]
abbrev pgo(t:qL)(h:Int):=SetTable.probe.go t (λ_=>h+1) h
def K9{t:qL}(hd:t.dummies=#[]){h:Int}:∀(more fuel:Nat) (p:SetTable.Probe),p.more=more->p.dummy=none->more<fuel -> (∃j,pgo t h fuel p=some (.empty j none)/\t.slot j=.empty)\/(t.slot p.j≠.empty/\pgo t h fuel p=pgo t h (fuel-(more+1)) {j:=(SetTable.leap t.mask p.i p.perturb).1,more:=SetTable.runEnd t.mask (SetTable.leap t.mask p.i p.perturb).1-(SetTable.leap t.mask p.i p.perturb).1,i:=(SetTable.leap t.mask p.i p.perturb).1,perturb:=(SetTable.leap t.mask p.i p.perturb).2,dummy:=none})
 |more,0,p,_,_,h=>absurd h (eD _)
 |more,fuel+1,p,hm,hn,hf=>by
  have jw:((h+1) == h)=false:=aU.mpr .(0);rcases Pi hd p.j with ⟨he,_⟩|⟨⟨i,he⟩,_⟩
  ·refine .inl ⟨p.j,?_,he⟩
   show SetTable.probe.go t (λ_=>h+1) h (fuel+1) p=_;unfold SetTable.probe.go;rw[he,hn]
  ·have st:pgo t h (fuel+1) p=pgo t h fuel (t.advance p):=by
    show SetTable.probe.go t (λ_=>h+1) h (fuel+1) p=SetTable.probe.go t (λ_=>h+1) h fuel (t.advance p)
    conv=>lhs;unfold SetTable.probe.go
    rw[he];show(if ((h+1) == h)=true then _ else SetTable.probe.go t (λ_=>h+1) h fuel (t.advance p))=_;rw[jw];rfl
   have nz:t.slot p.j≠.empty:=by rw[he];exact λz=>nomatch z
   cases more with
   |zero=>
    refine .inr ⟨nz,st.trans ?_⟩;unfold SetTable.advance;rw[aD .(0),hn];rfl
   |succ more=>
    have ad:t.advance p={p with j:=p.j+1,more:=p.more-1}:=by unfold SetTable.advance;rw[aC .(0)]
    rcases K9 hd more fuel (t.advance p) (by rw[ad];show p.more-1=more;omega) (by rw[ad];exact hn) .(0) with ⟨j,e1,e2⟩|⟨_,e⟩
    ·exact .inl ⟨j,st<|e1,e2⟩
    ·refine .inr ⟨nz,st<|e.trans ?_⟩
     rw[ad,show fuel+1-(more+1+1)=fuel-(more+1) by omega]
def pst(m i q:Nat):SetTable.Probe:={j:=i,more:=SetTable.runEnd m i-i,i:=i,perturb:=q,dummy:=none}
def On{t:qL}(hd:t.dummies=#[]){h:Int}:∀(k fuel i q:Nat),10 * k<fuel->10 * k+10<=fuel->t.slot (tr t.mask k (i,q)).1=.empty->∃j,pgo t h fuel (pst t.mask i q)=some (.empty j none)/\t.slot j=.empty
 |k,fuel,i,q,h1,h2,e=>by
  have hm:(pst t.mask i q).more<=9:=by
   show SetTable.runEnd t.mask i-i<=9;unfold SetTable.runEnd;split <;> omega
  rcases K9 hd (h:=h) (pst t.mask i q).more fuel (pst t.mask i q) rfl rfl .(0) with z|⟨nz,z⟩
  ·exact z
  ·cases k with
   |zero=>exact absurd e nz
   |succ k=>
    obtain⟨j,e1,e2⟩:=On hd (h:=h) k (fuel-((pst t.mask i q).more+1)) (SetTable.leap t.mask i q).1 (SetTable.leap t.mask i q).2 .(0) .(0) e;exact⟨j,z<|e1,e2⟩
def BS{t:qL}{n:Nat}(T:TG t n)(h:Int):∃j,t.freeSlot h=some (j,false)/\t.place[SetTable.below t.place j]?≠some j/\t.slot j=.empty:=by
 have:∃e,e<=t.mask/\e ∉ t.place.toList:=by
  refine fK λz=>?_
  have:=GC (l:=List.range (t.mask+1)) (m:=t.place.toList) fS λx hx=>fK λnx=>z ⟨x,by have:=bR.mp hx;omega,nx⟩
  rw[cB,aR,T.size]at this;have:=T.room;omega
 obtain⟨e,he,hn⟩:=this;obtain⟨k,hk,hz⟩:=KC T.gm (i:=SetTable.bits h % (t.mask+1)) (eE.mp (fu _ (eL _))) (GI h) he
 have hs:t.slot e=.empty:=by
  rcases Pi T.dum e with z|z
  ·exact z.1
  ·exact absurd z.2 hn
 obtain⟨j,e1,e2⟩:=On T.dum (h:=h) k (10 * SetTable.turns t.mask) (SetTable.bits h % (t.mask+1)) (SetTable.bits h) (by unfold SetTable.turns;omega) (by unfold SetTable.turns;omega) (by rw[hz];exact hs);refine⟨j,?_,?_,e2⟩
 ·unfold SetTable.freeSlot
  show(match pgo t h (10 * SetTable.turns t.mask) (pst t.mask _ _) with|some (.empty j dummy)=>some (dummy.getD j,dummy.isSome)|_=>none)=_;rw[e1];rfl
 ·rcases Pi T.dum j with z|⟨⟨i,z⟩,_⟩
  ·exact z.2
  ·rw[e2]at z;cases z
def HC{t:qL}{n:Nat}(T:TG t n)(h:Int):∀(fuel:Nat) (p:SetTable.Probe) (j:Nat) (d:Option Nat),p.i<=t.mask->p.j+p.more<=t.mask->pgo t h fuel p=some (.empty j d)->j<=t.mask
 |0,p,j,d,_,_,e=>by cases e
 |fuel+1,p,j,d,h1,h2,e=>by
  have adv:(t.advance p).i<=t.mask/\(t.advance p).j+(t.advance p).more<=t.mask:=by
   unfold SetTable.advance;split
   ·exact⟨h1,by show p.j+1+(p.more-1)<=_;omega⟩
   ·have hl:(SetTable.leap t.mask p.i p.perturb).1<=t.mask:=eE.mp (fu _ (eL _))
    refine⟨hl,?_⟩;show(SetTable.leap t.mask p.i p.perturb).1+(SetTable.runEnd t.mask (SetTable.leap t.mask p.i p.perturb).1-(SetTable.leap t.mask p.i p.perturb).1)<=t.mask;unfold SetTable.runEnd;split <;> omega
  have e:SetTable.probe.go t (λ_=>h+1) h (fuel+1) p=some (.empty j d):=e;unfold SetTable.probe.go at e;rcases Pi T.dum p.j with ⟨he,_⟩|⟨⟨i,he⟩,_⟩
  ·rw[he]at e
   cases e;omega
  ·rw[he]at e
   have jw:((h+1) == h)=false:=aU.mpr .(0);have e:(if ((h+1) == h)=true then _ else SetTable.probe.go t (λ_=>h+1) h fuel (t.advance p))=some (.empty j d):=e;rw[jw]at e;exact HC T h fuel _ j d adv.1 adv.2 e
def AO{t:qL}{n:Nat}(T:TG t n){h:Int}{j:Nat}(e:t.freeSlot h=some (j,false)):j<=t.mask:=by
 unfold SetTable.freeSlot at e
 match hp:t.probe (λ_=>h+1) h (t.probeStart h),e with
 |some (.empty j' none),e=>
  have e:some ((none:Option Nat).getD j',(none:Option Nat).isSome)=some (j,false):=e;have:j'=j:=by injection e with e;injection e
  subst this;refine HC T h _ _ j' none ?_ ?_ hp
  ·exact eE.mp (fu _ (eL _))
  ·show SetTable.bits h % (t.mask+1)+(SetTable.runEnd t.mask (SetTable.bits h % (t.mask+1))-SetTable.bits h % (t.mask+1))<=t.mask
   have:SetTable.bits h % (t.mask+1)<t.mask+1:=fu _ (eL t.mask);unfold SetTable.runEnd;split <;> omega
 |some (.empty j' (some d)),e=>exact nomatch e
 |some (.candidate _ _ _),e=>exact nomatch e
 |none,e=>exact nomatch e
structure TH(t:qL)(n:Nat):Prop where
 gm:Gm t.mask
 size:t.place.size=n
 dum:t.dummies=#[]
 ris:t.place.toList.Pairwise (· < ·)
 le:∀x∈t.place.toList,x<=t.mask
 fit:n<=t.mask
 pl:t.plain=true
def put_ok{t:qL}{n j:Nat}(T:TG t n)(hj:j<=t.mask)(hn:t.place[SetTable.below t.place j]?≠some j):TH (t.put j).1 (n+1)/\(t.put j).1.mask=t.mask/\(t.put j).1.led=t.led:=by
 obtain⟨b1,b2,b3⟩:=Jb (j:=j) T.ris
 have hl:(SetTable.insertAt t.place (SetTable.below t.place j) j).toList=t.place.toList.take (SetTable.below t.place j)++j::t.place.toList.drop (SetTable.below t.place j):=by
  rw[SetTable.toList_insertAt]
 have hd:(t.put j).1.dummies=#[]:=by
  show(if SetTable.has t.dummies j=true then _ else t.dummies)=_;rw[T.dum,aD (by simp[SetTable.has])]
 refine⟨⟨T.gm,?_,hd,?_,?_,?_,T.pl⟩,rfl,rfl⟩
 ·show(SetTable.insertAt t.place (SetTable.below t.place j) j).size=_
  rw[← aR,hl,aV,bI,fT,List.length_drop,aR,T.size];rw[T.size]at b1;omega
 ·show(SetTable.insertAt t.place (SetTable.below t.place j) j).toList.Pairwise _
  rw[hl,List.pairwise_append,bU]
  have hlow:∀x∈t.place.toList.take (SetTable.below t.place j),x<j:=λx hx=>by
   obtain⟨q,hq,rfl⟩:=List.mem_take_iff_getElem.mp hx;have kH:q<t.place.size:=by rw[aR]at hq;omega
   have:=b2 q kH .(0);simpa using this
  have hhi:∀x∈t.place.toList.drop (SetTable.below t.place j),j<x:=λx hx=>by
   obtain⟨q,hq,rfl⟩:=List.mem_drop_iff_getElem.mp hx;have kH:SetTable.below t.place j+q<t.place.size:=by rw[aR]at hq;omega
   have h1:=b3 _ kH .(0);rw[fg];refine Nat.lt_of_le_of_ne h1 λz=>?_
   by_cases hz:q=0
   ·subst hz
    exact hn (by rw[ck .(0)];exact cE some z.symm)
   ·have hb:SetTable.below t.place j<t.place.size:=by omega
    have h2:=b3 _ hb (aM _);have h3:=dC.mp T.ris (SetTable.below t.place j) (SetTable.below t.place j+q) (by simpa using hb) (by simpa using kH) .(0);simp only[fg]at h3;omega
  exact⟨T.ris.sublist (List.take_sublist _ _),⟨hhi,T.ris.sublist (List.drop_sublist _ _)⟩,λx hx y hy=>by
   rcases aN.mp hy with rfl|hy
   ·exact hlow x hx
   ·exact Nat.lt_trans (hlow x hx) (hhi y hy)⟩
 ·intro x hx
  have hx:x∈(SetTable.insertAt t.place (SetTable.below t.place j) j).toList:=hx;rw[hl]at hx;rcases dD.mp hx with hx|hx
  ·exact T.le x (List.mem_of_mem_take hx)
  ·rcases aN.mp hx with rfl|hx
   ·exact hj
   ·exact T.le x (List.mem_of_mem_drop hx)
 ·have:=T.room;show n+1<=t.mask;omega
def TH.fits{t:qL}{n:Nat}(T:TH t n):t.fits n=true:=by
 unfold SetTable.fits SetTable.fill;rw[T.size,T.dum];simp[T.fit]
def TG.th{t:qL}{n:Nat}(T:TG t n):TH t n:=⟨T.gm,T.size,T.dum,T.ris,T.le,by have:=T.room;omega,T.pl⟩
def TG.fits{t:qL}{n:Nat}(T:TG t n):t.fits n=true:=T.th.fits
def Bw{n:Nat}(h:n<32):Gm (SetTable.sizeAbove (SetTable.grown n)-1)/\n * 5<(SetTable.sizeAbove (SetTable.grown n)-1) * 3:=by
 have:∀n,n<32->((λm=>m=7\/m=15\/m=31\/m=63\/m=127) (SetTable.sizeAbove (SetTable.grown n)-1))/\n * 5<(SetTable.sizeAbove (SetTable.grown n)-1) * 3:=by decide +kernel
 exact this n h
def B2{n:Nat}(h:n<32):Gm (SetTable.sizeAbove (n * 2)-1)/\n * 5<(SetTable.sizeAbove (n * 2)-1) * 3/\SetTable.sizeAbove (n * 2)<=sizeLine:=by
 have:∀n,n<32->((λm=>m=7\/m=15\/m=31\/m=63\/m=127) (SetTable.sizeAbove (n * 2)-1))/\n * 5<(SetTable.sizeAbove (n * 2)-1) * 3/\SetTable.sizeAbove (n * 2)<=128:=by decide +kernel
 obtain⟨a,b,c⟩:=this n h;exact⟨a,b,bL c (by rw[cG];decide)⟩
def FQ{t:qL}{es:Array (Int × qI)}(T:TG t es.size)(h:Int)(x:qI):∃jK t',layNew t es h x=(jK,t',false,false)/\TH t' jK.size/\jK.size=es.size+1/\t'.led=t.led/\t'.mask=t.mask:=by
 obtain⟨j,e1,e2,e3⟩:=BS T h;obtain⟨p1,p2,p3⟩:=put_ok T (AO T e1) e2
 have hs:(SetTable.insertAt es (t.put j).2 (h,x)).size=es.size+1:=by
  have:=(SetTable.insertAt_perm es (t.put j).2 (h,x)).length_eq;rw[aR,aR,Array.size_push]at this;exact this
 have hf:=p1.fits;refine⟨SetTable.insertAt es (t.put j).2 (h,x),(t.put j).1,?_,by rw[hs];exact p1,hs,p3,p2⟩;unfold layNew;rw[e1];show(SetTable.insertAt es (t.put j).2 (h,x),(t.put j).1.orStandIn (SetTable.insertAt es (t.put j).2 (h,x)).size,false,!(t.put j).1.fits (SetTable.insertAt es (t.put j).2 (h,x)).size)=_;rw[hs,hf];unfold SetTable.orStandIn;rw[hf];rfl
def J3{t:qL}{es:Array (Int × qI)}(T:TH t es.size)(h:es.size<32):∃jK t',relayAll t es (SetTable.grown es.size)=(jK,t',false)/\TG t' jK.size/\jK.size=es.size/\t'.led=t.led:=by
 obtain⟨g1,g2⟩:=Bw h;obtain⟨t',o,e1,e2,e3,e4,e5⟩:=LO (f:=t.finger) (mv:=t.movedTo (SetTable.sizeAbove (SetTable.grown es.size)-1)) (led:=t.led) g1 (hs:=es.map (·.1)) (by rw[gB];exact g2);rw[gB]at e2 e3
 have hr:t.relaid (es.map (·.1)) (SetTable.grown es.size)=some (t',o):=by
  unfold SetTable.relaid;rw[T.pl];exact e1
 have hc:coversAll o es.size=true:=by
  unfold coversAll;exact List.isPerm_iff.mpr e2
 have hp:=relayAll_perm t es (SetTable.grown es.size)
 have hsz:(o.filterMap (es[·]?)).size=es.size:=by
  rw[← aR,f9];rw[(e2.filterMap _).length_eq,eV,aR]
 refine⟨o.filterMap (es[·]?),t',?_,by rw[hsz];exact e3,hsz,e5⟩;unfold relayAll;rw[hr];dsimp only;rw[hsz,hc,e3.fits];rfl
end Tb
open PySem PyProof.Rows
namespace Tb
def EIn(e:Int × qI)(k:Int):Prop:=e.1=hashInt k/\∃t,e.2=.int k t
def SetL(bt:Bool)(h:qQ)(a:qJ)(ks:iK):Prop:=
 ∃o es ep t,h.get? a=some o/\o.ExactSet/\o.data=.set es ep t/\(∃js,Paired EIn es.toList js/\js.Perm ks)/\ks.Nodup/\TG t es.size/\(bt=false->t.led=true)
def SW{α γ:Type}{R:α->γ->Prop}:∀{xs:List α} {ys:List γ},Paired R xs ys->xs.length=ys.length
 |_,_,.nil=>rfl
 |_,_,.cons _ h=>cE (·+1) (SW h)
def SK{α γ:Type}{R:α->γ->Prop}:∀{xs:List α} {ys:List γ} {x:α},Paired R xs ys->x∈xs->∃y∈ys,R x y
 |_,_,_,.nil,h=>nomatch h
 |_,_,_,.cons r p,h=>by
  rcases aN.mp h with rfl|h
  ·exact⟨_,.head _,r⟩
  ·obtain⟨y,h1,h2⟩:=SK p h
   exact⟨y,.tail _ h1,h2⟩
def PZ{α γ:Type}{R:α->γ->Prop}:∀{xs:List α} {ys:List γ} {y:γ},Paired R xs ys->y∈ys->∃x∈xs,R x y
 |_,_,_,.nil,h=>nomatch h
 |_,_,_,.cons r p,h=>by
  rcases aN.mp h with rfl|h
  ·exact⟨_,.head _,r⟩
  ·obtain⟨y,h1,h2⟩:=PZ p h
   exact⟨y,.tail _ h1,h2⟩
def WR{α γ:Type}{R:α->γ->Prop}{xs oG:List α}(p:oG.Perm xs):∀{ys:List γ},Paired R xs ys->∃nN,Paired R oG nN/\nN.Perm ys:=by
 induction p with
 |nil=>intro ys h;exact⟨ys,h,.refl _⟩
 |cons x _ ih=>
  intro ys h;cases h with
  |cons r h=>
   obtain⟨nN,h1,h2⟩:=ih h;exact⟨_,.cons r h1,h2.cons _⟩
 |swap x y l=>
  intro ys h;cases h with
  |cons r1 h=>
   cases h with
   |cons r2 h=>exact⟨_,.cons r2 (.cons r1 h),List.Perm.swap _ _ _⟩
 |trans _ _ ih1 ih2=>
  intro ys h;obtain⟨y1,h1,h2⟩:=ih2 h;obtain⟨y2,h3,h4⟩:=ih1 h1;exact⟨y2,h3,h4<|h2⟩
section
variable{prog:qM}{w:qN}{A:qO}{E:iA}{s:qK}{a:qJ}{bt:Bool}{ks:iK}
def el_of{es:List (Int × qI)}{js:iK}(p:Paired EIn es js):ElemsOf (intKind prog w) es:=λe he=>by
 obtain⟨k,_,h1,t,h2⟩:=SK p he;rw[h2];exact⟨⟨k,gE _ _ _ _,h1⟩,rfl⟩
def EA{es:List (Int × qI)}{js:iK}(p:Paired EIn es js)(k:Int):k∈js ↔ ∃e∈es,(intKind prog w).is k e.2=true:=by
 constructor
 ·intro h
  obtain⟨e,h1,_,t,h2⟩:=PZ p h;exact⟨e,h1,by rw[h2];exact gE _ _ _ _⟩
 ·rintro⟨e,h1,h2⟩
  obtain⟨j,hj,_,t,h3⟩:=SK p h1;rw[h3]at h2;have:=(intKind prog w).inj _ k j h2 (gE _ _ _ _);rw[this];exact hj
def SetL.len{h:qQ}(S:SetL bt h a ks){o:Obj}{es:Array (Int × qI)}{ep:Nat}{t:qL}(ho:h.get? a=some o)(hd:o.data=.set es ep t):es.size=ks.length:=by
 obtain⟨o',jK,kG,t',h1,_,h2,⟨js,h3,h4⟩,_⟩:=S;rw[ho]at h1;cases h1;rw[hd]at h2;cases h2;rw[← aR,SW h3,h4.length_eq]
def SetL.of{h:qQ}(S:SetL bt h a ks)(hb:ks.length<scanBound):h.SetOf (intKind prog w) a (λk=>ks.contains k) ks.length:=by
 obtain⟨o,es,ep,t,h1,h2,h3,⟨js,h4,h5⟩,nd,T,_⟩:=S;have hl:es.size=ks.length:=by rw[← aR,SW h4,h5.length_eq]
 refine⟨o,es,ep,t,h1,h2,h3,el_of h4,λk=>?_,by rw[hl];exact hb,T.fits,hl⟩;rw[← EA h4 k,h5.mem_iff];simp
def SetL.keep{h h':qQ}(S:SetL bt h a ks)(k:∀o,h.get? a=some o->h'.get? a=some o):SetL bt h' a ks:=
 let ⟨o,es,ep,t,h1,r⟩:=S;⟨o,es,ep,t,k o h1,r⟩
def UZ{h:qQ}{o:Obj}{es jK:Array (Int × qI)}{ep:Nat}{t t':qL}{js:iK}(ho:h.get? a=some o)(hx:o.ExactSet)(hd:o.data=.set es ep t)(p:Paired EIn jK.toList js) (q:js.Perm ks) (nd:ks.Nodup) (T:TG t' jK.size) (hl:bt=false->t'.led=true):SetL bt (h.update a (Obj.putSet jK t')) a ks:=by
 have e:=putSet_of jK t' hd;have g:=cC (Obj.putSet jK t') ho (by rw[e];rfl);rw[e]at g;exact⟨_,jK,ep+1,t',g,hx,rfl,⟨js,p,q⟩,nd,T,hl⟩
def S6(ks:iK)(k:Int):iK:=if ks.contains k=true then ks else ks++[k]
def Ch(ks:iK)(k:Int):(S6 ks k).length<=ks.length+1:=by unfold S6;split <;> simp
def SQ{k:Int}{tk:Tok}{Q:Bool->Shared->Prop}(S:SetL bt s.heap a ks)(hr:ks.length+1<32)(q:∀h',Heap.SameBut a s.heap h'->SetL bt h' a (S6 ks k)->Q (!ks.contains k) {s with heap:=h'}):wpAny (model prog w) A (setAddHashed a (.int k tk) (hashInt k)) Q E s:=by
 have S0:=S;obtain⟨o,es,ep,t,ho,hx,hd,⟨js,hp,hq⟩,nd,T,hl⟩:=S;have hsz:es.size=ks.length:=S0.len ho hd;have el:ElemsOf (intKind prog w) es.toList:=el_of hp;have hk:(intKind prog w).is k (.int k tk)=true:=gE _ _ _ _;unfold setAddHashed setAddHashedIn;refine cz (aA (cK ho hd T.fits ?_));dsimp only;rw[byScan_of (knd:=intKind prog w) rfl (by unfold scanBound;omega) el,aC rfl];unfold setAddByScan;refine aA (aA (wpAny_rule (aA ?_)));refine wpAny_setScan_of (knd:=intKind prog w) (k:=k) hk ho hd T.fits el ?_;cases hf:es.toList.findIdx? (λe=>(intKind prog w).is k e.2) with
 |some j=>
  obtain⟨hj,nO,_⟩:=List.findIdx?_eq_some_iff_getElem.mp hf;have hin:ks.contains k=true:=by simpa using hq.mem_iff.mp ((EA (prog:=prog) (w:=w) hp k).mpr ⟨_,du hj,nO⟩)
  have z:=q s.heap (Heap.SameBut.refl a s.heap) (by unfold S6;rw[aC hin];exact S0);rw[hin]at z;exact aE (aE z)
 |none=>
  have jP:ks.contains k=false:=by
   cases hc:ks.contains k with
   |false=>rfl
   |true=>
    obtain⟨e,he,hi⟩:=(EA (prog:=prog) (w:=w) hp k).mp (hq.mem_iff.mpr (by simpa using hc));have:=List.findIdx?_eq_none_iff.mp hf e he;rw[hi]at this;cases this
  have hadd:S6 ks k=ks++[k]:=by unfold S6;rw[jP];rfl
  obtain⟨km,t1,e1,T1,e2,e3,e4⟩:=FQ T (hashInt k) (.int k tk);have pm:=layNew_perm t es (hashInt k) (.int k tk);rw[e1,Array.toList_push]at pm;have pm:km.toList.Perm (es.toList++[(hashInt k,Value.int k tk)]):=pm;obtain⟨pS,p1,q1⟩:=WR pm (Paired.snoc hp (b:=k) ⟨rfl,tk,rfl⟩);have q2:pS.Perm (ks++[k]):=q1<|hq.append_right [k]
  have nd2:(ks++[k]).Nodup:=by
   rw[cq];refine⟨nd,.(2),λx hx y hy=>?_⟩;rw[cZ]at hy;subst hy;intro z;subst z;rw[bH.mpr hx]at jP;cases jP
  rw[e1];dsimp only;refine aA (show wpAny (model prog w) A (pure ()) _ _ _ from aE ?_);rw[T1.pl,aC rfl,hashByValue_scannable 8 (x:=.int k tk) rfl];refine aA (aE ?_);rw[aC (show plainKind (Value.int k tk)=true from rfl)];have hsz1:km.size<=sizeLine:=by rw[cG];omega
  refine aA (eZ ho hd ?_ hsz1);have sb:=cD s.heap a (Obj.putSet km t1);by_cases hfull:t1.tooFull=true
  ·rw[aC (by rw[hfull];rfl)]
   obtain⟨oH,t2,f1,T2,f2,f3⟩:=J3 T1 .(0);have pr:=relayAll_perm t1 km (SetTable.grown km.size);rw[f1]at pr ⊢;have pr:oH.toList.Perm km.toList:=pr;obtain⟨lx,p2,q3⟩:=WR pr p1;dsimp only;refine aA (show wpAny (model prog w) A (pure ()) _ _ _ from aE ?_);have g1:=cC (Obj.putSet km t1) ho (by rw[putSet_of km t1 hd];rfl);rw[putSet_of km t1 hd]at g1;refine aA (eZ g1 rfl ?_ (by rw[f2];exact hsz1));refine aE (aE ?_);have z:=q _ (sb<|cD _ a (Obj.putSet oH t2)) (by rw[hadd];exact UZ (o:={o with data:=.set km (ep+1) t1}) g1 hx rfl p2 (q3<|q2) nd2 T2 (λz=>by rw[f3,e3];exact hl z));rw[jP]at z;exact z
  ·rw[aD (by simpa using hfull)]
   have T2:TG t1 km.size:=⟨T1.gm,T1.size,T1.dum,T1.ris,T1.le,by
    have hn:¬ (t1.fill * 5 ≥ t1.mask * 3):=λz=>hfull (by unfold SetTable.tooFull;exact bG z)
    have hfl:t1.fill=km.size:=by unfold SetTable.fill;rw[T1.size,T1.dum];rfl
    omega,T1.pl⟩
   refine aE (aE ?_);have z:=q _ sb (by rw[hadd];exact UZ ho hx hd p1 q2 nd2 T2 (λz=>by rw[e3];exact hl z));rw[jP]at z;exact z
def Lc(bt:Bool)(h:qQ):SetL bt (h.push {cls:=.type "set",dict:=none,data:=.set #[] 0 (.fresh 0 0 (!bt))}) h.objs.size []:=
 ⟨_,#[],0,_,aW _ rfl,⟨rfl,rfl,rfl⟩,rfl,⟨[],.nil,.refl _⟩,gA,⟨.inl rfl,rfl,rfl,List.Pairwise.nil,λx hx=>(by simp[SetTable.fresh]at hx),(show 0 * 5<7 * 3 by decide),rfl⟩,λh=>by subst h;rfl⟩
abbrev XO(bt:Bool):Obj:={cls:=.type "set",dict:=none,data:=.set #[] 0 (.fresh 0 0 (!bt))}
def Ol{Q:iA}(q:Q (.ref s.heap.objs.size) {s with heap:=s.heap.push (XO (w.params.followText "set-order"))}):wpAny (model prog w) A (newSet (.type "set")) Q E s:=by
 unfold newSet setsByText;refine aA (aA (dB (aE ?_)));dsimp only;simp only[newObj];exact aA (wpAny_alloc (aE q))
def QG{n:Nat}{Q:Unit->Shared->Prop}(S:SetL bt s.heap a [])(hn:n<32)(q:∀h',Heap.SameBut a s.heap h'->(∃o es ep t,h'.get? a=some o/\o.ExactSet/\o.data=.set es ep t/\es=#[]/\TG t 0/\n * 5<t.mask * 3/\(bt=false->t.led=true))->Q () {s with heap:=h'}):wpAny (model prog w) A (setRoomFor a n) Q E s:=by
 have S0:=S;obtain⟨o,es,ep,t,ho,hx,hd,⟨js,hp,hq⟩,nd,T,hl⟩:=S;have hsz:es.size=0:=S0.len ho hd;have hes:es=#[]:=dN hsz;subst hes;unfold setRoomFor;refine aA (cK ho hd T.fits ?_);dsimp only;have hfl:t.fill=0:=by unfold SetTable.fill;rw[T.size,T.dum];rfl
 unfold SetTable.roomFor;rw[hfl,T.size];by_cases hc:(0+n) * 5 ≥ t.mask * 3
 ·rw[aC hc]
  dsimp only;unfold setRelay;refine aA (cK ho hd T.fits ?_);dsimp only;have h0:(#[]:Array (Int × qI)).size+n=n:=eK n;rw[h0];obtain⟨r1,r2,r3⟩:=B2 hn;rw[aD (gK.mpr r3)];obtain⟨t',o',e1,e2,e3,e4,e5⟩:=LO (f:=t.finger) (mv:=t.movedTo (SetTable.sizeAbove (n * 2)-1)) (led:=t.led) r1 (hs:=#[]) (by show 0 * 5<_;omega);have hr:t.relaid ((#[]:Array (Int × qI)).map (·.1)) (n * 2)=some (t',o'):=by unfold SetTable.relaid;rw[T.pl,show(#[]:Array (Int × qI)).map (·.1)=#[] from by simp];exact e1
  rw[hr];have jh:o'=#[]:=dN (by rw[← aR,e2.length_eq];rfl);subst jh;refine aA (show wpAny (model prog w) A (pure ((#[]:Array (Int × qI)),t')) _ _ _ from aE ?_);refine eZ ho hd ?_ (by show 0<=sizeLine;exact cF _);have e:=putSet_of #[] t' hd;have g:=cC (Obj.putSet #[] t') ho (by rw[e];rfl);rw[e]at g;exact q _ (cD s.heap a _) ⟨_,#[],ep+1,t',g,hx,rfl,rfl,e3,by rw[e4];exact r2,λz=>by rw[e5];exact hl z⟩
 ·rw[aD hc]
  have z:=q s.heap (Heap.SameBut.refl a s.heap) ⟨o,#[],ep,t,ho,hx,hd,rfl,T,.(0),hl⟩;exact aE z
end
end Tb
namespace Tb
def P7{α:Type}:∀(l:List α) (i:Nat) (h:i<l.length),(l[i]::l.eraseIdx i).Perm l
 |[],i,h=>absurd h (eD _)
 |x::l,0,h=>.refl _
 |x::l,i+1,h=>List.Perm.swap x _ _<|(P7 l i (Nat.lt_of_succ_lt_succ h)).cons x
def Gq{α:Type}(next:Nat->Nat):∀(fuel k:Nat) (left:List α) (out:Array α),left.length=fuel->(pickOrder.go next fuel k left out).toList.Perm (out.toList++left)
 |0,k,left,out,h=>by
  have:left=[]:=fZ.mp h;subst this;rw[bF];exact .refl _
 |fuel+1,k,left,out,h=>by
  have hi:next k % left.length<left.length:=fu _ .(0);unfold pickOrder.go;rw[aK hi];dsimp only;refine(Gq next fuel (k+1) _ _ (by rw[List.length_eraseIdx_of_lt hi];omega)).trans ?_;rw[Array.toList_push,bT];refine List.Perm.append_left _ ?_;show(left[next k % left.length]::left.eraseIdx (next k % left.length)).Perm left;exact P7 left _ hi
def Ew{α:Type}(next:Nat->Nat)(xs:Array α):(pickOrder next xs).toList.Perm xs.toList:=by
 have:=Gq next xs.size 0 xs.toList #[] (aR);simpa [pickOrder] using this
section
variable{prog:qM}{w:qN}{A:qO}{E:iA}{s:qK}{a:qJ}{ks:iK}
abbrev byT(w:qN):Bool:=w.params.followText "set-order"
def Te(w:qN)(a:qJ)(ep:Nat)(es:Array (Int × qI)):Array (Int × qI):=if byT w=true then pickOrder (w.params.setOrder a ep) es else es
def WF(w:qN)(a:qJ)(ep:Nat)(es:Array (Int × qI)):(Te w a ep es).toList.Perm es.toList:=by
 unfold Te;split
 ·exact Ew _ _
 ·exact .refl _
def S7{o:Obj}{es:Array (Int × qI)}{ep:Nat}{t:qL}{Q:Array (Int × qI)->Shared->Prop}(ho:s.heap.get? a=some o)(hd:o.data=.set es ep t)(T:TG t es.size)(hl:byT w=false->t.led=true)(q:Q (Te w a ep es) s):wpAny (model prog w) A (setWalk a) Q E s:=by
 unfold setWalk;refine aA (cK ho hd T.fits ?_);dsimp only;unfold setsByText;refine aA (aA (dB (aE ?_)));unfold Te at q;cases hb:byT w with
 |true=>
  rw[hb,aC rfl]at q;have hb:w.params.followText "set-order"=true:=hb;show wpAny _ _ (if w.params.followText "set-order"=true then _ else _) _ _ _;rw[hb,aC rfl];exact aA (dB (aE q))
 |false=>
  rw[hb,aD aF]at q;have jR:w.params.followText "set-order"=false:=hb;show wpAny _ _ (if w.params.followText "set-order"=true then _ else if (!t.plain&&decide (es.size > 1))=true then _ else ((if (!t.led&&decide (es.size > 1))=true then _ else pure ()) >>= _)) _ _ _;rw[jR,aD aF,T.pl,hl hb];exact aA (aE (aE q))
def QJ{o:Obj}{es:Array (Int × qI)}{ep:Nat}{t:qL}{os:iI}{f:Option qJ}{Q:Array (Int × qI)->Shared->Prop}(ho:s.heap.get? a=some o)(hd:o.data=.set es ep t)(T:TG t es.size)(hl:byT w=false->t.led=true)(q:Q (Te w a ep es) s):wpAny (model prog w) A (setWalkUnseen a os f) Q E s:=by
 unfold setWalkUnseen;refine aA (cK ho hd T.fits ?_);dsimp only;unfold setsByText;refine aA (aA (dB (aE ?_)));show wpAny _ _ (if (w.params.followText "set-order" || t.led&&t.plain || decide (es.size<=1))=true then _ else _) _ _ _;rw[aC]
 ·exact S7 ho hd T hl q
 ·cases hb:byT w with
  |true=>rw[show w.params.followText "set-order"=true from hb];rfl
  |false=>rw[show w.params.followText "set-order"=false from hb,hl hb,T.pl];rfl
def Ju:Manifest.owners.lookup (String.ofList ['r','o','t','a','r','e','t','i','_','t','e','s'].reverse)=some Manifest.sig_set_iterator:=by kernel_rfl
def Sj:PySem.Slot "set_iterator" "__next__" "set_iterator.__next__":=
 PySem.Slot.of (owner:="set_iterator") (n:="__next__") (by rw[typeLookup_type,gL];kernel_rfl) .(5) .(5) .(5)
  (by first|exact .inl .(5)|exact .inr .(5)) (by rw[eY];kernel_rfl)
def CJ:entryFor table "set_iterator.__next__"=some Builtin.«set_iterator.__next__»:=entryFor_of_tree (by kernel_rfl)
def GM(v:qI):argsOk "set_iterator.__next__" ⟨[v],[]⟩:=by
 unfold argsOk;rw[signature?_of (id:="set_iterator.__next__") (n:=['_','_','t','x','e','n','_','_']) (o:=['r','o','t','a','r','e','t','i','_','t','e','s']) (by kernel_rfl) Ju];kernel_rfl
def Dj:entryFor table "set.__iter__"=some Builtin.«frozenset.__iter__»:=
 entryFor_alias (id':="frozenset.__iter__") (by kernel_rfl) rfl .(5) (by kernel_rfl)
def Dv(w:qN)(t:qL)(i slot:Nat):Prop:=byT w=false->∀q (h:q<t.place.size),(q<i->t.place[q]<slot)/\(i<=q->slot<=t.place[q])
def Bf(w:qN)(h:qQ)(I a:qJ)(o:Obj)(i:Nat):Prop:=h.get? a=some o/\∃es ep t slot oi,o.data=.set es ep t/\TG t es.size/\(byT w=false->t.led=true)/\Dv w t i slot/\h.get? I=some oi/\oi.cls=.type "set_iterator"/\oi.data=.fields (List.toArray [.int slot 0,.int i 0,.ref a,.int es.size 0,.int ep 0])
def Qk{o:Obj}{es:Array (Int × qI)}{ep:Nat}{t:qL}{Q:iA}(ho:s.heap.get? a=some o)(hx:o.ExactSet)(hd:o.data=.set es ep t)(T:TG t es.size)(hl:byT w=false->t.led=true)(q:Q (.ref s.heap.objs.size) {s with heap:=s.heap.push {cls:=.type "set_iterator",data:=.fields (List.toArray [.int 0 0,.int 0 0,.ref a,.int es.size 0,.int ep 0])}}):wpAny (model prog w) A (pyIter (.ref a)) Q E s:=by
 have hT:s.TypeIs (.ref a) "set":=⟨o,ho,hx.1⟩;refine wpAny_pyIter_slot hT PySem.F.slot_set_iter (dR PySem.F.slot_set_iter hT Dj ?_ (PySem.F.args_set_iter_1 _));unfold Builtin.«frozenset.__iter__» Builtin.Frozenset.slot0 slotArgs;simp only[fU,fP,eI,↓reduceIte,bind_assoc,cM,eN];unfold Builtin.Frozenset.addrOf Builtin.Frozenset.sizeOf;refine aA (aE ?_)
 try dsimp only
 refine aA (aE ?_);refine aA (aA (fL ho hd T.fits (aE ?_)));refine aA ?_;unfold setDrawn;refine aA (cK ho hd T.fits ?_);dsimp only;unfold setsByText;refine aA (aA (dB (aE ?_)));refine aE ?_;show wpAny _ _ (if (!w.params.followText "set-order"&&(!t.plain&&decide (es.size > 1)))=true then _ else _) _ _ _;rw[T.pl,aD .(2)];refine aA (aE ?_);refine aA (ge ho hd T.fits ?_);refine aA (dL (aE ⟨_,rfl,"set_iterator",_,⟨_,aW _ rfl,rfl⟩,Sj.lookup,?_⟩));exact q
def Ko{t:qL}{n i slot:Nat}(T:TG t n)(hi:i<=n)(hs:∀q (h:q<t.place.size),(q<i->t.place[q]<slot)/\(i<=q->slot<=t.place[q])):SetTable.below t.place slot=i:=by
 obtain⟨b1,b2,b3⟩:=Jb (j:=slot) T.ris;have hz:=T.size;rcases Nat.lt_trichotomy (SetTable.below t.place slot) i with h|h|h
 ·have h1:=(hs (SetTable.below t.place slot) .(0)).1 h
  have h2:=b3 (SetTable.below t.place slot) .(0) (aM _);omega
 ·exact h
 ·have h1:=(hs i .(0)).2 (aM _)
  have h2:=b2 i .(0) h;omega
def Q7{I:qJ}{o:Obj}{i:Nat}{es:Array (Int × qI)}{ep:Nat}{t:qL}{e:Int × qI}{Q:iP->Shared->Prop}(jw:a≠I)(st:Bf w s.heap I a o i)(hd:o.data=.set es ep t)(he:(Te w a ep es)[i]?=some e)(q:∀h',Bf w h' I a o (i+1)->Heap.SameBut I s.heap h'->Q (some e.2) {s with heap:=h'}):wpAny (model prog w) A (pyNext (.ref I)) Q E s:=by
 obtain⟨ho,jK,kG,t',slot,oi,jW,T,hl,hs,hi,hc,hf⟩:=st;rw[hd]at jW;cases jW;have hT:s.TypeIs (.ref I) "set_iterator":=⟨oi,hi,hc⟩
 have jg:i<es.size:=by
  have h1:=(d7.mp he).1;have h2:=(WF w a ep es).length_eq;rw[aR,aR]at h2;omega
 have two:∀(sl:Nat),Dv w t (i+1) sl->Bf w ((s.heap.update I (Obj.mapFields (·.setIfInBounds 0 (rawInt (sl:Int))))).update I (Obj.mapFields (·.setIfInBounds 1 (rawInt ((i:Int)+1))))) I a o (i+1):=λsl kL=>by
  have g1:(s.heap.update I (Obj.mapFields (·.setIfInBounds 0 (rawInt (sl:Int))))).get? I=some _:=cC _ hi (fj (db hf _));have d1:=db hf (·.setIfInBounds 0 (rawInt (sl:Int)));have g2:=cC (Obj.mapFields (·.setIfInBounds 1 (rawInt ((i:Int)+1)))) g1 (fj (db d1 _));refine⟨cQ _ _ (cI jw)<|(cQ _ _ (cI jw)).trans ho,es,ep,t,sl,_,hd,T,hl,kL,g2,Obj.cls_mapFields ..<|(Obj.cls_mapFields ..).trans hc,?_⟩;rw[db d1];simp[rawInt]
 unfold pyNext;refine aA (h8 (wpAny_callSpecial?_slot (name:=Str.ofString "__next__") hT Sj (dR Sj hT CJ ?_ (GM _))));unfold Builtin.«set_iterator.__next__» slotArgs;simp only[fU,fP,eI,↓reduceIte,bind_assoc,cM,eN];refine aA (aE ?_);refine aA (wpAny_fieldsOf hi hf ?_);dsimp only;refine aA (fL ho hd T.fits ?_);rw[aD .(2)];refine aA ?_;unfold setNext;refine aA (cK ho hd T.fits ?_);dsimp only;unfold setsByText;refine aA (aA (dB (aE ?_)));cases hb:byT w with
 |true=>
  have jR:w.params.followText "set-order"=true:=hb;show wpAny _ _ (if w.params.followText "set-order"=true then _ else _) _ _ _;rw[jR,aC rfl];rw[aD .(2)];refine aA (S7 ho hd T hl (aE ?_));simp only[cu];rw[he];show wpAny _ _ (setField (.ref I) 0 (rawInt _) >>= _) _ _ _;refine aA (eX hi hf .(2) ?_);have g1:=cC (Obj.mapFields (·.setIfInBounds 0 (rawInt ((slot:Nat):Int)))) hi (fj (db hf _));have d1:=db hf (·.setIfInBounds 0 (rawInt ((slot:Nat):Int)));refine aA (eX g1 d1 .(2) ?_);refine aE ⟨_,rfl,aE (q _ (two slot λz=>?_) ?_)⟩
  ·rw[hb]at z;cases z
  ·exact cD ..<|cD ..
 |false=>
  have jR:w.params.followText "set-order"=false:=hb;have hw:Te w a ep es=es:=by unfold Te;rw[hb];rfl
  rw[hw]at he;have hbel:=Ko T (eM jg) (hs hb);have jb:i<t.place.size:=by rw[T.size];exact jg
  show wpAny _ _ (if w.params.followText "set-order"=true then _ else if (!t.plain&&decide (es.size > 1))=true then _ else ((if (!t.led&&!es.isEmpty)=true then _ else pure ()) >>= _)) _ _ _;rw[jR,aD aF,T.pl,hl hb];refine aA (aE ?_);simp only[cu];rw[hbel,he,ck jb];refine aE ?_;show wpAny _ _ (setField (.ref I) 0 (rawInt _) >>= _) _ _ _;refine aA (eX hi hf .(2) ?_);have g1:=cC (Obj.mapFields (·.setIfInBounds 0 (rawInt ((t.place[i]+1:Nat):Int)))) hi (fj (db hf _));have d1:=db hf (·.setIfInBounds 0 (rawInt ((t.place[i]+1:Nat):Int)));refine aA (eX g1 d1 .(2) ?_);refine aE ⟨_,rfl,aE (q _ (two (t.place[i]+1) λ_ p hp=>?_) ?_)⟩
  ·have inc:∀x y (hx:x<t.place.size) (hy:y<t.place.size),x<y->t.place[x]<t.place[y]:=λx y hx hy mI=>by
    have:=dC.mp T.ris x y (by simpa using hx) (by simpa using hy) mI;simpa using this
   constructor
   ·intro z
    by_cases hz:p=i
    ·subst hz;omega
    ·have:=inc p i hp jb .(0);omega
   ·intro z
    exact inc i p jb hp .(0)
  ·exact cD ..<|cD ..
def ON{I:qJ}{o:Obj}{es:Array (Int × qI)}{ep:Nat}{t:qL}{Q:iP->Shared->Prop}(hh:A.handled=none)(st:Bf w s.heap I a o es.size)(hd:o.data=.set es ep t)(q:∀h',Heap.ExtBut I s.heap h'->Q none {s with heap:=h'}):wpAny (model prog w) A (pyNext (.ref I)) Q E s:=by
 obtain⟨ho,jK,kG,t',slot,oi,jW,T,hl,hs,hi,hc,hf⟩:=st;rw[hd]at jW;cases jW;have hT:s.TypeIs (.ref I) "set_iterator":=⟨oi,hi,hc⟩;unfold pyNext;refine aA (h8 (wpAny_callSpecial?_slot (name:=Str.ofString "__next__") hT Sj (dR Sj hT CJ ?_ (GM _))));unfold Builtin.«set_iterator.__next__» slotArgs;simp only[fU,fP,eI,↓reduceIte,bind_assoc,cM,eN];refine aA (aE ?_);refine aA (wpAny_fieldsOf hi hf ?_);dsimp only;refine aA (fL ho hd T.fits ?_);rw[aD .(2)];refine aA ?_;unfold setNext;refine aA (cK ho hd T.fits ?_);dsimp only;unfold setsByText;refine aA (aA (dB (aE ?_)))
 have kg:(Te w a ep es).size=es.size:=by
  have h2:=(WF w a ep es).length_eq;rw[aR,aR]at h2;exact h2
 cases hb:byT w with
 |true=>
  have jR:w.params.followText "set-order"=true:=hb;show wpAny _ _ (if w.params.followText "set-order"=true then _ else _) _ _ _;rw[jR,aC rfl];rw[aD .(2)];refine aA (S7 ho hd T hl (aE ?_));simp only[cu];rw[gc .(0)];show wpAny _ _ (setField (.ref I) 2 .none >>= _) _ _ _;refine aA (eX hi hf .(2) ?_);show wpAny _ _ (newExc (.type "StopIteration") [] >>= _) _ _ _;refine aA ?_;simp only[newExc,newTuple];refine aA (dL ?_ (by size_fits));refine aA (m:=firstArgMember _ _) (wpAny_of_eq (a:=Value.none) (by first|rfl|(simp only[firstArgMember];rfl)) ?_);refine dL ?_ (by size_fits);simp only[raiseNew];refine aA (wpAny_handled ?_);rw[show A.in1.handled=none from hh];refine aA (aE (wpAny_throw ?_));refine aA (dA (T:="StopIteration") (b:=true) ⟨_,aW _ rfl,rfl⟩ isSubtype_stop ?_);exact aE (q _ (((cD ..).extBut.push _).push _))
 |false=>
  have jR:w.params.followText "set-order"=false:=hb;have hbel:=Ko T (aM _) (hs hb);show wpAny _ _ (if w.params.followText "set-order"=true then _ else if (!t.plain&&decide (es.size > 1))=true then _ else ((if (!t.led&&!es.isEmpty)=true then _ else pure ()) >>= _)) _ _ _;rw[jR,aD aF,T.pl,hl hb];refine aA (aE ?_);simp only[cu];rw[hbel,gc (aM _)];refine aE ?_;show wpAny _ _ (setField (.ref I) 2 .none >>= _) _ _ _;refine aA (eX hi hf .(2) ?_);show wpAny _ _ (newExc (.type "StopIteration") [] >>= _) _ _ _;refine aA ?_;simp only[newExc,newTuple];refine aA (dL ?_ (by size_fits));refine aA (m:=firstArgMember _ _) (wpAny_of_eq (a:=Value.none) (by first|rfl|(simp only[firstArgMember];rfl)) ?_);refine dL ?_ (by size_fits);simp only[raiseNew];refine aA (wpAny_handled ?_);rw[show A.in1.handled=none from hh];refine aA (aE (wpAny_throw ?_));refine aA (dA (T:="StopIteration") (b:=true) ⟨_,aW _ rfl,rfl⟩ isSubtype_stop ?_);exact aE (q _ (((cD ..).extBut.push _).push _))
end
end Tb
namespace Tb
def JW:PySem.Slot "set_iterator" "__iter__" "set_iterator.__iter__":=
 PySem.Slot.of (owner:="set_iterator") (n:="__iter__") (by rw[typeLookup_type,gL];kernel_rfl) .(5) .(5) .(5)
  (by first|exact .inl .(5)|exact .inr .(5)) (by rw[eY];kernel_rfl)
def Bt:entryFor table "set_iterator.__iter__"=some Builtin.«dict_keyiterator.__iter__»:=
 entryFor_alias (id':="dict_keyiterator.__iter__") (by kernel_rfl) rfl .(5) (by kernel_rfl)
def CK(v:qI):argsOk "set_iterator.__iter__" ⟨[v],[]⟩:=by
 unfold argsOk;rw[signature?_of (id:="set_iterator.__iter__") (n:=['_','_','r','e','t','i','_','_']) (o:=['r','o','t','a','r','e','t','i','_','t','e','s']) (by kernel_rfl) Ju];kernel_rfl
section
variable{prog:qM}{w:qN}{A:qO}{E:iA}{s:qK}{a:qJ}{ks:iK}
def Ff(hh:A.handled=none)(I a:qJ)(jw:a≠I)(o:Obj){es:Array (Int × qI)}{ep:Nat}{t:qL}(hd:o.data=.set es ep t):Walks prog w A I [I,a] [I] es.size (λi v=>∃e,(Te w a ep es)[i]?=some e/\v=e.2) (λi h=>Bf w h I a o i) where
 sub:=λb hb=>by simp at hb;simp[hb]
 frame:=λi h h' st hk=>by
  obtain⟨ho,jK,kG,t',slot,oi,h1,h2,h3,h4,h5,h6,h7⟩:=st;exact⟨hk a .(2) _ ho,jK,kG,t',slot,oi,h1,h2,h3,h4,hk I .(2) _ h5,h6,h7⟩
 item:=λi s Q E hi st hQ=>by
  have hs:(Te w a ep es).size=es.size:=by
   have h2:=(WF w a ep es).length_eq;rw[aR,aR]at h2;exact h2
  have he:(Te w a ep es)[i]?=some ((Te w a ep es)[i]'.(0)):=ck _;exact Q7 jw st hd he λh' j8 sb=>hQ _ h' s.toks ⟨_,he,rfl⟩ j8 λb o hb e=>sb.extBut b o (λh=>hb (by simp[h])) e
 done:=λs Q E st hQ=>ON hh st hd λh' eb=>hQ h' s.toks λb o hb e=>eb b o (λh=>hb (by simp[h])) e
 self:=λi s Q E st hQ=>by
  obtain⟨ho,jK,kG,t',slot,oi,h1,h2,h3,h4,h5,h6,h7⟩:=st;have hT:s.TypeIs (.ref I) "set_iterator":=⟨oi,h5,h6⟩;refine wpAny_pyIter_slot hT JW (dR JW hT Bt ?_ (CK _));show wpAny _ _ (PySem.ret (.ref I)) _ _ s;exact aE ⟨_,rfl,"set_iterator",_,hT,Sj.lookup,hQ⟩
def EL(hT:s.TypeIs (.ref a) "set"){Q:Bool->Shared->Prop}(h:Q false s):wpAny (model prog w) A (Builtin.List.listLengthHint (.ref a)) Q E s:=by
 unfold Builtin.List.listLengthHint;refine aA (wpAny_specialOf hT PySem.F.slot_set_len.lookup ?_);generalize hid:("set.__len__":String)=id0
 wp_delta
 rw[show splitId id0=some ("set","__len__") from by subst hid;decide +kernel];subst hid;refine aA (dA (T:="set") (b:=true) hT (by rw[eY];kernel_rfl) ?_);refine fI (λjQ=>absurd jQ .(1)) (λ_=>?_);refine fI (λ_=>?_) (λjQ=>absurd .(5) jQ);refine aA (gF hT ?_);exact aE h
def FN(hT:s.TypeIs (.ref a) "dict"){Q:Bool->Shared->Prop}(h:Q false s):wpAny (model prog w) A (Builtin.List.listLengthHint (.ref a)) Q E s:=by
 unfold Builtin.List.listLengthHint;refine aA (wpAny_specialOf hT (r:=some (.builtin "dict.__len__")) (by rw[typeLookup_type,gL];kernel_rfl) ?_);generalize hid:("dict.__len__":String)=id0
 wp_delta
 rw[show splitId id0=some ("dict","__len__") from by subst hid;decide +kernel];subst hid;refine aA (dA (T:="dict") (b:=true) hT (by rw[eY];kernel_rfl) ?_);refine fI (λjQ=>absurd jQ .(1)) (λ_=>?_);refine fI (λ_=>?_) (λjQ=>absurd .(5) jQ);refine aA (gF hT ?_);exact aE h
def QH{T:String}{o oi:Obj}{n:Nat}{P:Nat->Value->Prop}{St:qJ->Nat->Heap->Prop}{R:iJ->Shared->Prop}(hl:(Value.type T == Value.type "list")=false)(ht:(Value.type T == Value.type "tuple")=false)(ho:s.heap.get? a=some o) (hT:o.cls=.type T) (hn:n<=sizeLine)(nP:∀(s1:qK) (Q:Bool->Shared->Prop) (E':iA),s1.TypeIs (.ref a) T->Q false s1->wpAny (model prog w) A.in1 (Builtin.List.listLengthHint (.ref a)) Q E' s1)(lJ:∀(s1:qK) (Q:iA) (E':iA),s1.heap.get? a=some o->Q (.ref s1.heap.objs.size) {s1 with heap:=s1.heap.push oi}->wpAny (model prog w) A.in1 (pyIter (.ref a)) Q E' s1)(W:∀I,a≠I->Walks prog w A.in1 I [I,a] [I] n P (St I)) (h0:∀I h,h.get? a=some o->h.get? I=some oi->St I 0 h) (hf:oi.isFreed=false)(q:∀(h':qQ) (tk:Nat) (i7:Array qI),(∀b x,s.heap.get? b=some x->h'.get? b=some x)->s.heap.objs.size<=h'.objs.size->ItemsOf P i7 n->R i7.toList {s with heap:=h',toks:=tk}):wpAny (model prog w) A (collect (.ref a)) R E s:=by
 have ha:a<s.heap.objs.size:=aP ho;unfold collect;refine aA (wpAny_runValue (d6 PySem.F.entry_proto_collect ?_));rw[eA PySem.F.plain_proto_collect _];show wpAny _ A.in1 (newList [] >>= λl=>again (.builtin "list.__iadd__" ⟨[l,.ref a],[]⟩)) _ _ s;refine aA (dL ?_);refine aE ⟨gq PySem.F.plain_list_iadd _,d6 PySem.F.entry_list_iadd ?_⟩;rw[eA PySem.F.plain_list_iadd _];generalize hL:s.heap.objs.size=L at ha;have g1:(s.heap.push {cls:=.type "list",data:=.seq ([]:iJ).toArray}).get? L=some {cls:=.type "list",data:=.seq ([]:iJ).toArray}:=by rw[← hL];exact aW _ rfl
 have k1:∀b x,s.heap.get? b=some x->(s.heap.push {cls:=.type "list",data:=.seq ([]:iJ).toArray}).get? b=some x:=λb x e=>aL _ e
 have z1:(s.heap.push {cls:=.type "list",data:=.seq ([]:iJ).toArray}).objs.size=L+1:=by rw[dQ,hL]
 generalize s.heap.push {cls:=.type "list",data:=.seq ([]:iJ).toArray}=h1 at g1 k1 z1;show wpAny _ A.in1 (Builtin.List.listExtendWith (.ref L) (.ref a) (.ref L)) _ _ {s with heap:=h1};unfold Builtin.List.listExtendWith;refine aA (gF (T:=T) ⟨o,k1 a o ho,hT⟩ ?_);have hs:Builtin.List.listSameRef (.ref L) (.ref a)=false:=by simp[Builtin.List.listSameRef];exact d8 ha
 rw[hs,hl,ht,aD .(1)];refine aA (lJ _ _ _ (k1 a o ho) ?_);have g2:(h1.push oi).get? h1.objs.size=some oi:=aW _ hf;have k2:∀b x,h1.get? b=some x->(h1.push oi).get? b=some x:=λb x e=>aL _ e
 show wpAny _ A.in1 _ _ _ {s with heap:=h1.push oi};generalize hI:h1.objs.size=I at g2;have hIa:a≠I:=by rw[← hI,z1];exact aX (dc ha)
 have hIL:L≠I:=by rw[← hI,z1];exact aX (d9 L)
 show wpAny _ A.in1 (holding [.ref I] _ >>= _) _ _ _;generalize h1.push oi=h2 at g2 k2;refine aA (cz (nP _ _ _ ⟨o,k2 _ _ (k1 _ _ ho),hT⟩ ?_))
 have key : ∀ (h3 : qQ) (c : Nat),(∀ b x,b ≠ L -> h2.get? b = some x -> h3.get? b = some x) -> h3.get? L = some { cls := .type "list",data := .seq #[] c } ->
     codeAny (model prog w) A (.builtin "list.extend.loop" ⟨[.ref L,.ref I,.ref L],[]⟩) (λq' s'=>∃(h':qQ) (tk:Nat) (i7:Array qI) (c':Nat),q'=.ok (.ret (.ref L))/\s'={s with heap:=h',toks:=tk}/\(∀b x,s.heap.get? b=some x->h'.get? b=some x) /\
      h'.get? L=some {cls:=.type "list",dict:=none,data:=.seq i7 c',slots:=#[]}/\ItemsOf P i7 n) {s with heap:=h3}:=λh3 c k3 g3=>by
  refine codeAny_extend_loopS ((W I hIa).toS) hn L (by simp only[aN,cZ,en,gT,not_or];exact⟨hIL,d8 ha⟩) (.ref L) n 0 _ #[] c rfl (cF _) (h0 I h3 (k3 a o (aX ha) (k2 _ _ (k1 _ _ ho))) (k3 I oi (cI hIL) g2)) g3 (ItemsOf.nil P) λs' i7 c' hm hS nQ=>?_
  obtain⟨h',g',d',mL,lQ⟩:=s';have eg:g'=s.gens:=hm.gens;have ed:d'=s.drawn:=hm.drawn;have eo:lQ=s.os:=hm.os;subst eg;subst ed;subst eo;refine⟨h',mL,i7,c',rfl,rfl,λb x e=>?_,hS,nQ⟩;have hb:b<L:=by rw[← hL];exact aP e
  exact hm.heap b x (by simp only[aN,cZ,en,gT,not_or];exact⟨aX hb,by rw[← hI,z1];exact aX (dc hb)⟩) (k3 b x (aX hb) (k2 _ _ (k1 _ _ e)))
 have fin : ∀ (q' : Result) (s' : qK),(∃ (h' : qQ) (tk : Nat) (i7 : Array qI) (c' : Nat),q' = .ok (.ret (.ref L)) /\ s' = { s with heap:=h',toks:=tk } /\ (∀ b x,s.heap.get? b = some x -> h'.get? b = some x) /\
       h'.get? L=some {cls:=.type "list",dict:=none,data:=.seq i7 c',slots:=#[]}/\ItemsOf P i7 n)->∃h' tk i7 c',q'=.ok (.ret (.ref L))/\s'={s with heap:=h',toks:=tk}/\h'.get? L=some {cls:=.type "list",dict:=none,data:=.seq i7 c',slots:=#[]}/\R i7.toList {s with heap:=h',toks:=tk}:=
  λq' s' ⟨h',tk,i7,c',e1,e2,e3,e4,e5⟩=>⟨h',tk,i7,c',e1,e2,e4,q h' tk i7 e3 (by rw[hL];exact eM (aP e4)) e5⟩
 refine fI (λ_=>?_) (λ_=>aE ⟨gq PySem.F.plain_extend_loop _,dY (key h2 0 (λb x _ e=>e) (k2 _ _ g1)) λq' s' z=>?_⟩)
 ·refine aA (wpAny_rule ?_)
  refine aA ?_;show wpAny _ _ (updateSeq L (·.push .none) >>= λ_=>updateSeq L (·.pop)) _ _ _;have g3:=k2 _ _ g1;refine aA (wpAny_updateSeq g3 rfl ?_);have g4:=cC (Obj.mapSeq (·.push Value.none)) g3 rfl;refine wpAny_updateSeq (hz:=by seq_fits) g4 rfl ?_;have g5:=cC (Obj.mapSeq (·.pop)) g4 rfl;refine aE ⟨gq PySem.F.plain_extend_loop _,dY (key _ _ (λb x hb e=>cQ _ _ (cI hb)<|(cQ _ _ (cI hb)).trans e) g5) λq' s' z=>?_⟩;obtain⟨h',tk,i7,c',rfl,rfl,e4,e5⟩:=fin q' s' z;show wpAny _ A (load L >>= _) _ _ _;exact aA (wpAny_load e4 (aE e5))
 ·obtain⟨h',tk,i7,c',rfl,rfl,e4,e5⟩:=fin q' s' z
  show wpAny _ A (load L >>= _) _ _ _;exact aA (wpAny_load e4 (aE e5))
def QV{v:qI}{ns:iK}{Q:iA}(kS:ns.length<64)(hc:∀(R:iJ->Shared->Prop) (E':iA),(∀(h':qQ) (tk:Nat) (vs:iJ) (ms:iK),(∀b x,s.heap.get? b=some x->h'.get? b=some x)->s.heap.objs.size<=h'.objs.size->IntsAre vs ms->ms.Perm ns->R vs {s with heap:=h',toks:=tk})->wpAny (model prog w) A.in1 (collect v) R E' s)(q:∀(h':qQ) (tk:Nat) (B:qJ) (us:iJ) (ms:iK) (c:Nat),(∀b x,s.heap.get? b=some x->h'.get? b=some x)->s.heap.objs.size<=B->h'.get? B=some (seqObj "list" us.toArray c)->IntsAre us ms->ms.Perm ns->ms.Pairwise (·<=·)->Q (.ref B) {s with heap:=h',toks:=tk}):wpAny (model prog w) A (call (.builtin "sorted") [v]) Q E s:=by
 refine Calls.call_function_entry kind_sorted plain_sorted entry_sorted (args_sorted1 _) (show wpAny _ _ (Builtin.«sorted» _) _ _ _ from ?_);unfold Builtin.«sorted»;refine aA (m:=checkCount "sorted" 1 1 _) (aE (aA (hc _ _ λh' tk vs ms kk hB hI hp=>?_)));have iZ:vs.length=ns.length:=by rw[IntsAre.length hI,hp.length_eq]
 refine aA (wpAny_newList ?_ (by rw[cG];omega));have g1:(h'.push (seqObj "list" vs.toArray 0)).get? h'.objs.size=some (seqObj "list" vs.toArray 0):=aW _ rfl;refine aA (cz (dR slot_list_sort ⟨_,g1,rfl⟩ entry_list_sort (list_sort_tree (s:={s with heap:=h'.push (seqObj "list" vs.toArray 0),toks:=tk}) g1 hI .(0) λout pU a1 a2 a3=>⟨_,rfl,aE ⟨_,rfl,?_⟩⟩) (args_list_sort _)));obtain⟨e,he⟩:=sortedHeap_at (out:=out) g1;refine q _ _ h'.objs.size out.toList pU e (λb x hx=>?_) hB (by rw[show out.toList.toArray=out by simp];exact he) a1 (a2<|hp) a3;have hb:b<h'.objs.size:=aP (kk b x hx);rw[sortedHeap_old (aX hb) (by rw[dQ];exact dc hb)];exact aL _ (kk b x hx)
def sort_set{Q:iA}(hh:A.handled=none)(S:SetL (byT w) s.heap a ks)(hn:ks.length<64)(q:∀(h':qQ) (tk:Nat) (B:qJ) (us:iJ) (ms:iK) (c:Nat),(∀b x,s.heap.get? b=some x->h'.get? b=some x)->s.heap.objs.size<=B->h'.get? B=some (seqObj "list" us.toArray c)->IntsAre us ms->ms.Perm ks->ms.Pairwise (·<=·)->Q (.ref B) {s with heap:=h',toks:=tk}):wpAny (model prog w) A (call (.builtin "sorted") [.ref a]) Q E s:=by
 have S0:=S;obtain⟨o,es,ep,t,ho,hx,hd,⟨js,hp,hq⟩,nd,T,hl⟩:=S;have hz:es.size=ks.length:=S0.len ho hd;refine QV hn (λR E' k=>?_) q
 refine QH (T:="set") (o:=o) (n:=es.size) .(1) .(1) ho hx.1 (by rw[cG];omega) (λs1 Q' E1 hT q1=>EL hT q1)
  (λs1 Q' E1 h1 q1=>Qk h1 hx hd T hl q1) (λI hI=>Ff (A:=A.in1.in1) (by simp[hh]) I a hI o hd) (λI h e1 e2=>⟨e1,es,ep,t,0,_,hd,T,hl,λ_ p hp=>⟨λz=>absurd z (eD _),λ_=>cF _⟩,e2,rfl,rfl⟩) rfl λh' tk i7 kk hB hI=>?_
 obtain⟨pV,p1,p2⟩:=WR (WF w a ep es) hp;refine k h' tk i7.toList pV kk hB ?_ (p2<|hq);have kg:(Te w a ep es).toList.length=i7.toList.length:=by rw[(WF w a ep es).length_eq,aR,aR,hI.1]
 have he:i7.toList=(Te w a ep es).toList.map (·.2):=by
  refine List.ext_getElem (by rw[aB,kg]) λi h1 h2=>?_
  obtain⟨e,e1,e2⟩:=hI.2 i i7[i] (ck (by simpa using h1));rw[List.getElem_map,fg,e2];have:=(d7.mp e1).2;rw[fg,this]
 rw[he];clear he kg hI p2;generalize (Te w a ep es).toList=l at p1
 induction p1 with
 |nil=>exact .nil
 |cons r _ ih=>
  obtain⟨_,t,e⟩:=r;rw[aS,e];exact .cons _ t ih
end
end Tb
namespace Tb
section
variable{prog:qM}{w:qN}{A:qO}{E:iA}{s:qK}{a:qJ}{ks:iK}
def BO(v:qI){Q:iA}(q:Q (.ref s.heap.objs.size) {s with heap:=s.heap.push (XO (byT w))}):codeAny (model prog w) A (.call (.builtin "set.__new__") ⟨[.type "set",v],[]⟩) (wants Q E) s:=by
 refine codeAny_of_tree ?_;show wpAny _ A.in1 (do checkBuiltinCall "set.__new__" ⟨[.type "set",v],[]⟩;again (.builtin "set.__new__" ⟨[.type "set",v],[]⟩)) _ _ s;refine aA (wpAny_of_eq (PySem.F.newCall_set_1 v) (aE ⟨gq PySem.F.plain_set_new _,d6 PySem.F.entry_set_new ?_⟩));rw[eA PySem.F.plain_set_new _];unfold Builtin.«set.__new__» Builtin.Frozenset.newClass;have hsub:=sub_set_self;obtain⟨hp,g,d,tk,os⟩:=s;dsimp only
 wp_walk
 refine dB (aE ?_);dsimp only;simp only[newObj];refine aA (wpAny_alloc (aE ?_));exact aE q
def NY{v:qI}{Q:iA}(hb:∀(R:Unit->Shared->Prop) (E':iA),(∀h' tk,Q (.ref s.heap.objs.size) {s with heap:=h',toks:=tk}->R () {s with heap:=h',toks:=tk})->wpAny (model prog w) A.in1.in1 (Builtin.Frozenset.updateFrom "set.__init__" s.heap.objs.size v) R E' {s with heap:=s.heap.push (XO (byT w))}):wpAny (model prog w) A (call (.type "set") [v]) Q E s:=by
 obtain⟨c,tl,pX⟩:=cY.mro;have hmade:=cY.made;have hsub:=cY.sub;refine gD (codeAny_of_tree ?_);show wpAny _ _ (callAny (.type "set") _) _ _ _;refine aE ⟨Code.quiet_builtin _ .(5),d6 PySem.F.entry_type_call ?_⟩;rw[Around.under_plain (weight_type_call_type "set" [v] []) rfl];have h1:=cY.notType;have h2:=cY.canCreate;have oB:=PySem.F.typeCall_set_1 v
 repeat (any_goals (first|assumption|wp_step))
 refine dY (BO v (E:=E) (Q:=λobj i4=>obj=.ref s.heap.objs.size/\i4={s with heap:=s.heap.push (XO (byT w))}) ⟨rfl,rfl⟩) λr i4 hr=>?_
 cases r with
 |error e=>exact hr
 |ok fl=>
  cases fl with
  |ret obj=>
   obtain⟨rfl,rfl⟩:=hr;have hS:(s.heap.push (XO (byT w))).get? s.heap.objs.size=some (XO (byT w)):=aW _ rfl;have hT:Shared.TypeIs {s with heap:=s.heap.push (XO (byT w))} (.ref s.heap.objs.size) "set":=⟨_,hS,rfl⟩;have hli:=cY.init.lookup;have hbi:=cY.init.bind (.ref s.heap.objs.size)
   repeat (any_goals (first|assumption|wp_step))
   refine dY (gX (R:=wants (λr ir=>r=.none/\∃h' tk,ir={s with heap:=h',toks:=tk}/\Q (.ref s.heap.objs.size) ir) E) cY.init.plain PySem.F.entry_set_init (check_set_init_1 hT ?_)) λnR ir kD=>?_
   ·unfold Builtin.«set.__init__» noKeywords
    have jR:=hb;generalize hU:Builtin.Frozenset.updateFrom=U at jR
    wp_walk
    exact jR _ _ λh' tk hq=>aE ⟨rfl,h',tk,rfl,hq⟩
   ·cases nR with
    |error e=>exact kD
    |ok fl₂=>
     cases fl₂ with
     |ret r=>
      obtain⟨rfl,h',tk,rfl,hq⟩:=kD
      repeat (any_goals (first|assumption|wp_step))
     |_=>exact kD.elim
  |_=>exact hr.elim
end
end Tb
namespace Tb
def YH(ks js:iK):iK:=js.foldl S6 ks
def DY{ks:iK}{k x:Int}:x∈S6 ks k ↔ x∈ks\/x=k:=by
 unfold S6;split
 ·rename_i h
  have h:k∈ks:=by simpa using h
  exact⟨.inl,λz=>z.elim id λe=>e ▸ h⟩
 ·simp
def T6:∀{js ks:iK} {x:Int},x∈YH ks js ↔ x∈ks\/x∈js
 |[],ks,x=>by simp[YH]
 |j::js,ks,x=>by
  show x∈YH (S6 ks j) js ↔ _;rw[T6,DY,aN,or_assoc]
def XC:∀(js ks:iK),(YH ks js).length<=ks.length+js.length
 |[],ks=>aM _
 |j::js,ks=>by
  have h1:=XC js (S6 ks j);have h2:=Ch ks j;show(YH (S6 ks j) js).length<=_;rw[bI];omega
def SV(ks js:iK)(k:Int):YH ks (js++[k])=S6 (YH ks js) k:=by
 unfold YH;rw[dG];rfl
section
variable{prog:qM}{w:qN}{A:qO}{E:iA}{s:qK}{a:qJ}{ks:iK}
def E9{v:qI}{T:String}{Q:Bool->Shared->Prop}(hT:s.TypeIs v T)(h1:isSubtype (.type T) (.type "set")=pure false)(h2:isSubtype (.type T) (.type "frozenset")=pure false)(q:Q false s):wpAny (model prog w) A (Builtin.Frozenset.isAnySet v) Q E s:=by
 show wpAny _ _ (isInstance v (.type "set") >>= _) _ _ _;refine aA (dA hT h1 ?_);show wpAny _ _ (isInstance v (.type "frozenset")) _ _ _;exact dA hT h2 q
def Ph{v:qI}{Q:Bool->Shared->Prop}(hT:s.TypeIs v "set")(q:Q true s):wpAny (model prog w) A (Builtin.Frozenset.isAnySet v) Q E s:=by
 show wpAny _ _ (isInstance v (.type "set") >>= _) _ _ _;refine aA (dA hT sub_set_self ?_);exact aE q
def Ba{R:Result->Shared->Prop}{I l:qJ}{items:Array qI}{ns:iK}{St:Nat->Shared->Prop}(hi:IntsAre items.toList ns)(hb:ns.length<31)(W:WalksS prog w A.in1 I [I,l] [I] (λx y=>y=x) items.size (λi v=>items[i]?=some v) St)(S:qJ)(oI:S≠I)(pY:S≠l):∀(k i:Nat) (s:qK),items.size-i=k->i<=items.size->St i s->SetL (byT w) s.heap S (YH [] (ns.take i)) -> (∀s',Moved [S,I] (λx y=>y=x) s s'->SetL (byT w) s'.heap S (YH [] ns)->R (.ok (.ret .none)) s') -> codeAny (model prog w) A (.builtin "set.update.loop" ⟨[.ref S,.ref I],[]⟩) R s:=by
 have hnl:items.size=ns.length:=by rw[← aR];exact IntsAre.length hi
 have hSw:S ∉ [I]:=by simpa using oI
 intro k
 induction k with
 |zero=>
  intro i s hk pZ jT hS hR;have hin:i=items.size:=by omega
  subst hin;rw[hnl,List.take_length]at hS;refine d6 gJ ?_;rw[eA et _];show wpAny _ A.in1 (pyNext (.ref I) >>= _) _ _ s;refine aA (W.done s _ _ jT λs' hm=>?_);show wpAny _ A.in1 (PySem.ret Value.none) _ _ s';exact aE (hR s' (hm.mono λb hb=>cU _ hb) (hS.keep λo e=>hm.heap S o hSw e))
 |succ k ih=>
  intro i s hk pZ jT hS hR;have jg:i<items.size:=by omega
  refine d6 gJ ?_;rw[eA et _];show wpAny _ A.in1 (pyNext (.ref I) >>= _) _ _ s;refine aA (W.item i s _ _ jg jT λv s' hP nS hm=>?_);obtain⟨t,hv⟩:=IntsAre.int_at hi i v (by rw[eS];exact hP);subst hv;have nT:=hS.keep λo e=>hm.heap S o hSw e
  show wpAny _ A.in1 (holding [_] (setAdd S (.int (ns.getD i 0) t)) >>= _) _ _ s';refine aA (cz ?_);unfold setAdd;refine cz (aA ((intKind prog w).pyHash (k:=ns.getD i 0) (gE _ _ _ _) ?_));have hl:=XC (ns.take i) [];rw[fT,cM]at hl;refine SQ (s:={s' with toks:=s'.toks+1}) nT .(0) λh' sb S2=>?_
  have e:ns.take (i+1)=ns.take i++[ns.getD i 0]:=by
   rw[List.take_add_one,aK .(0)];simp[show i<ns.length by omega]
  rw[← SV,← e]at S2;refine aE ⟨gq et _,ih (i+1) _ .(0) jg (W.frame _ s' _ _ nS (dF _) λb hb o e=>?_) S2 λkM nU nV=>?_⟩
  ·rw[sb.2 b (λz=>by subst z;simp only[aN,cZ,en,gT]at hb;rcases hb with z|z;exact oI z;exact pY z)];exact e
  ·refine hR kM (Moved.trans W.gtrans ((hm.mono λb hb=>cU _ hb).then_heap (dF _) λb o hb e=>?_) nU) nV
   rw[sb.2 b (λz=>hb (by rw[z];exact da))];exact e
def set_list{l:qJ}{items:Array qI}{ns:iK}{Q:iA}(hh:A.handled=none)(hl:s.heap.IsList l items)(hi:IntsAre items.toList ns)(hb:ns.length<31)(q:∀(h':qQ) (tk:Nat),SetL (byT w) h' s.heap.objs.size (YH [] ns)->(∀b o,s.heap.get? b=some o->h'.get? b=some o)->Q (.ref s.heap.objs.size) {s with heap:=h',toks:=tk}):wpAny (model prog w) A (call (.type "set") [.ref l]) Q E s:=by
 refine NY λR E' hR=>?_
 obtain⟨ol,nW,kQ,nl,oJ⟩:=id hl;have hlS:l<s.heap.objs.size:=aP nW;have k1:∀b o,s.heap.get? b=some o->(s.heap.push (XO (byT w))).get? b=some o:=λb o e=>aL _ e
 have F0:=Lc (byT w) s.heap;have z1:(s.heap.push (XO (byT w))).objs.size=s.heap.objs.size+1:=dQ ..;have hl1:(s.heap.push (XO (byT w))).IsList l items:=⟨ol,k1 _ _ nW,kQ,nl,oJ⟩;have hT:Shared.TypeIs {s with heap:=s.heap.push (XO (byT w))} (.ref l) "list":=⟨ol,k1 _ _ nW,kQ⟩;unfold Builtin.Frozenset.updateFrom;refine aA (E9 hT PySem.F.sub_list_set PySem.F.sub_list_frozenset ?_);rw[aD aF];refine aA (gF hT ?_);rw[aD .(1)];refine aA (il hl1 ?_);refine aA (wpAny_runValue ?_);have jw:l≠(s.heap.push (XO (byT w))).objs.size:=by rw[z1];exact aX (dc hlS)
 refine Ba hi hb ((Walks.list (A:=A.in1.in1.in1) (by simp[hh]) _ l jw items).toS) s.heap.objs.size (by rw[z1];exact aX (d9 _)) (d8 hlS) (items.size-0) 0 _ rfl (cF _)
  ⟨⟨_,aW _ rfl,rfl,rfl⟩,hl1.push _⟩ (F0.keep λo e=>aL _ e) λs' hm nT=>?_
 obtain⟨h',g',d',mL,lQ⟩:=s';have eg:g'=s.gens:=hm.gens;have ed:d'=s.drawn:=hm.drawn;have eo:lQ=s.os:=hm.os;subst eg;subst ed;subst eo;refine aE (hR h' mL (q h' mL nT λb o e=>?_));have jR:b<s.heap.objs.size:=aP e;exact hm.heap b o (by simp only[aN,cZ,en,gT,not_or,z1];exact⟨aX jR,aX (dc jR)⟩) (aL _ (k1 _ _ e))
def set_dict{d:qJ}{od:Obj}{es:Array DictEntry}{ep:Nat}{ns:iK}{Q:iA}(ho:s.heap.get? d=some od)(hc:od.cls=.type "dict")(hd:od.data=.dict es ep)(hs:(d == sysModules)=false)(hk:es.toList.length=ns.length/\∀i e,es[i]?=some e->e.hash=hashInt (ns.getD i 0)/\∃t,e.key=.int (ns.getD i 0) t) (hb:ns.length<31)(q:∀(h':qQ),SetL (byT w) h' s.heap.objs.size (YH [] ns)->(∀b o,s.heap.get? b=some o->h'.get? b=some o)->Q (.ref s.heap.objs.size) {s with heap:=h'}):wpAny (model prog w) A (call (.type "set") [.ref d]) Q E s:=by
 refine NY λR E' hR=>?_
 have hlS:d<s.heap.objs.size:=aP ho;have k1:∀b o,s.heap.get? b=some o->(s.heap.push (XO (byT w))).get? b=some o:=λb o e=>aL _ e
 have F0:=Lc (byT w) s.heap;have hT:Shared.TypeIs {s with heap:=s.heap.push (XO (byT w))} (.ref d) "dict":=⟨od,k1 _ _ ho,hc⟩;have hsz:es.size=ns.length:=by rw[← aR];exact hk.1
 unfold Builtin.Frozenset.updateFrom;refine aA (E9 hT (by rw[eY];kernel_rfl) (by rw[eY];kernel_rfl) ?_);rw[aD aF];refine aA (gF hT ?_);rw[aC (by rfl)];refine aA (wpAny_rule ?_);refine aA (show wpAny (model prog w) A.in1.in1 (pure d) _ _ _ from aE ?_);rw[aD (by rw[hs];exact aF)];refine aA (wpAny_dictEpoch (k1 _ _ ho) hd ?_);refine aA (io (k1 _ _ ho) hd ?_);refine aA (QG F0 .(0) λh1 sb1 ⟨o1,e1,p1,t1,a1,a2,a3,a4,a5,a6,a7⟩=>?_);subst a4;have S1:SetL (byT w) h1 s.heap.objs.size []:=⟨o1,#[],p1,t1,a1,a2,a3,⟨[],.nil,.refl _⟩,gA,a5,a7⟩;have k2:∀b o,s.heap.get? b=some o->h1.get? b=some o:=λb o e=>sb1.2 b (aX (aP e))<|k1 _ _ e
 refine aA (io (k2 _ _ ho) hd ?_);rw[Std.Legacy.Range.forIn_eq_forIn_range'];refine aA (wpAny_forIn_list _ (λrest _ s'=>∃h',s'={s with heap:=h'}/\(∀b o,s.heap.get? b=some o->h'.get? b=some o)/\rest.length<=es.size/\rest=List.range' (es.size-rest.length) rest.length/\SetL (byT w) h' s.heap.objs.size (YH [] (ns.take (es.size-rest.length)))) _ ?_ ?_ _ _ ?_)
 ·rintro x rest b s' ⟨h',rfl,kk,hle,hr,S⟩
  rw[bI]at hle hr S;have hx:x=es.size-(rest.length+1):=by rw[g9]at hr;exact(dW hr).1
  have hr':rest=List.range' (es.size-rest.length) rest.length:=by
   rw[g9]at hr;have:=(dW hr).2;rw[show es.size-(rest.length+1)+1=es.size-rest.length by omega]at this;exact this
  have jg:x<es.size:=by omega
  refine aA (io (kk _ _ ho) hd ?_);obtain⟨f1,t,f2⟩:=hk.2 x es[x] (ck jg);rw[ck jg];dsimp only;rw[f1,f2];have hl:=XC (ns.take x) [];rw[fT,cM]at hl;rw[← hx]at S;refine aA (cz (SQ (s:={s with heap:=h'}) S .(0) λh2 nX S2=>?_))
  have e:ns.take (x+1)=ns.take x++[ns.getD x 0]:=by
   rw[List.take_add_one,aK .(0)];simp[show x<ns.length by omega]
  rw[← SV,← e]at S2;have lN:∀b o,s.heap.get? b=some o->h2.get? b=some o:=λb o e=>nX.2 b (aX (aP e))<|kk b o e
  refine aA (wpAny_dictEpoch (lN _ _ ho) hd ?_);rw[aD .(2)];refine aE ⟨h2,rfl,lN,.(0),hr',?_⟩;rw[show es.size-rest.length=x+1 by omega];exact S2
 ·rintro b s' ⟨h',rfl,kk,_,_,S⟩
  rw[cM,Nat.sub_zero,hsz,List.take_length]at S;exact aE (hR h' s.toks (q h' S kk))
 ·refine⟨h1,rfl,k2,?_,?_,?_⟩
  ·rw[gR];simp
  ·rw[gR];simp
  ·rw[gR];simpa [YH] using S1
end
end Tb
namespace Tb
def Aq:entryFor table "set.__sub__"=some Builtin.«frozenset.__sub__»:=
 entryFor_alias (id':="frozenset.__sub__") (by kernel_rfl) rfl .(5) (by kernel_rfl)
section
variable{prog:qM}{w:qN}{A:qO}{E:iA}{s:qK}{a b:qJ}{ks ms:iK}
def SetL.type{h:qQ}{bt:Bool}(S:SetL bt h a ks):∃o,h.get? a=some o/\o.cls=.type "set":=let ⟨o,_,_,_,h1,h2,_⟩:=S;⟨o,h1,h2.1⟩
def SetL.lt{h:qQ}{bt:Bool}(S:SetL bt h a ks):a<h.objs.size:=let ⟨_,_,_,_,h1,_⟩:=S;aP h1
def SetL.ndp{h:qQ}{bt:Bool}(S:SetL bt h a ks):ks.Nodup:=let ⟨_,_,_,_,_,_,_,_,h,_⟩:=S;h
def VU{bt:Bool}{Q:Nat->Shared->Prop}(S:SetL bt s.heap a ks)(q:Q ks.length s):wpAny (model prog w) A (Builtin.Frozenset.sizeOf a) Q E s:=by
 have S0:=S;obtain⟨o,es,ep,t,ho,hx,hd,hp,nd,T,hl⟩:=S;unfold Builtin.Frozenset.sizeOf;refine aA (fL ho hd T.fits (aE ?_));rw[S0.len ho hd];exact q
def QW{bt:Bool}{Q:iA}(S:SetL bt s.heap a ks)(q:Q (.type "set") s):wpAny (model prog w) A (Builtin.Frozenset.baseOf a) Q E s:=by
 unfold Builtin.Frozenset.baseOf;refine aA (dA (T:="set") (b:=true) S.type sub_set_self (aE ?_));exact q
def K0{Q:iA}(S:SetL (byT w) s.heap a ks)(hn:ks.length<32)(q:∀h',(∀b o,s.heap.get? b=some o->h'.get? b=some o)->SetL (byT w) h' s.heap.objs.size ks->Q (.ref s.heap.objs.size) {s with heap:=h'}):wpAny (model prog w) A (Builtin.Frozenset.copyOf a) Q E s:=by
 unfold Builtin.Frozenset.copyOf;refine aA (QW S ?_);refine aA (Ol ?_);have F0:=Lc (byT w) s.heap;have k1:∀b o,s.heap.get? b=some o->(s.heap.push (XO (byT w))).get? b=some o:=λb o e=>aL _ e
 have S1:=S.keep λo e=>k1 a o e
 refine aA (show wpAny (model prog w) A (pure s.heap.objs.size) _ _ _ from aE ?_);have jg:=S.lt;refine aA ?_;unfold setMerge;rw[aD (by simp;exact d8 jg)];have S0:=S1;obtain⟨o,es,ep,t,ho,hx,hd,⟨js,hp,hq⟩,nd,T,hl⟩:=S1;have hz:es.size=ks.length:=S0.len ho hd;refine aA (cK ho hd T.fits ?_);dsimp only;by_cases h0:es.isEmpty=true
 ·rw[aC h0]
  have:ks=[]:=fZ.mp (by rw[← hz];simpa using h0);subst this;exact aE (aE (q _ k1 F0))
 ·rw[aD h0]
  refine aA (QG F0 .(0) λh1 sb1 ⟨o1,e1,p1,t1,a1,a2,a3,a4,a5,a6,a7⟩=>?_);subst a4;have k2:∀b o,s.heap.get? b=some o->h1.get? b=some o:=λb o e=>sb1.2 b (aX (aP e))<|k1 _ _ e
  refine aA (cK a1 a3 a5.fits ?_);dsimp only;have hfl:t1.fill=0:=by unfold SetTable.fill;rw[a5.size,a5.dum];rfl
  have hzl:es.size<=sizeLine:=by rw[cG];omega
  unfold SetTable.road;rw[hfl,aD .(1)];by_cases hm:(t1.mask == t.mask&&t.dummies.isEmpty)=true
  ·rw[aC hm]
   dsimp only;refine eZ a1 a3 ?_ hzl;refine aE (q _ (λb o e=>cQ _ _ (cI (aX (aP e)))<|k2 b o e) (UZ a1 a2 a3 hp hq nd ⟨T.gm,T.size,T.dum,T.ris,T.le,T.room,?_⟩ λz=>?_))
   ·show(t1.plain&&t.plain)=true
    rw[a5.pl,T.pl];rfl
   ·show(t1.led&&t.led)=true
    rw[a7 z,hl z];rfl
  ·rw[aD hm]
   dsimp only;obtain⟨t2,o2,e1,e2,e3,e4,e5⟩:=LO (f:=t1.finger) (mv:=t1.moves) (led:=t1.led&&t.led) a5.gm (hs:=es.map (·.1)) (by rw[gB];exact a6);rw[gB]at e2 e3;rw[a5.pl,T.pl,show(true&&true)=true from rfl,e1]
   have hsz:(o2.filterMap (es[·]?)).size=es.size:=by
    rw[← aR,f9,(e2.filterMap _).length_eq,eV,aR]
   have mf:(o2.filterMap (es[·]?)).toList.Perm es.toList:=by
    rw[f9];refine(e2.filterMap _).trans ?_;rw[eV]
   obtain⟨lx,p2,q2⟩:=WR mf hp;refine aA ?_;show wpAny (model prog w) A (if ((o2.filterMap (es[·]?)).size != es.size)=true then ((unsupported _:Sem PUnit) >>= λ_=>pure (o2.filterMap (es[·]?),t2)) else pure (o2.filterMap (es[·]?),t2)) _ _ _;rw[aD (by rw[hsz];simp)];refine aE ?_;refine eZ a1 a3 ?_ (by rw[hsz];exact hzl);exact aE (q _ (λb o e=>cQ _ _ (cI (aX (aP e)))<|k2 b o e) (UZ a1 a2 a3 p2 (q2<|hq) nd (by rw[hsz];exact e3) λz=>by rw[e5,a7 z,hl z];rfl))
def DZ{id:String}{Q:iA}(Sa:SetL (byT w) s.heap a ks)(Sb:SetL (byT w) s.heap b ms)(hn:ks.length<31)(hm:ms.length<31)(hq:ks.length / 4<=ms.length\/ms=[])(q:∀(h':qQ) (rs:iK),(∀b o,s.heap.get? b=some o->h'.get? b=some o)->SetL (byT w) h' s.heap.objs.size rs->(∀k,k∈rs ↔ k∈ks/\k ∉ ms)->rs.length<=ks.length->Q (.ref s.heap.objs.size) {s with heap:=h'}):wpAny (model prog w) A (Builtin.Frozenset.difference id a (.ref b)) Q E s:=by
 have ha:=Sa.lt;have hb:=Sb.lt;unfold Builtin.Frozenset.difference;dsimp only;refine aA (Ph Sb.type ?_);rw[aD .(1)];refine aA (show wpAny (model prog w) A (pure b) _ _ _ from aE ?_);rw[aD .(2),aC rfl];refine aA (VU Sb ?_);refine aA (VU Sa ?_);by_cases hp:ks.length / 4 > ms.length
 ·have hms:ms=[]:=hq.resolve_left .(0)
  subst hms;rw[aC hp];refine aA (wpAny_rule ?_);refine aA (K0 Sa .(0) λh1 k1 S1=>?_);refine aA (show wpAny (model prog w) A (pure s.heap.objs.size) _ _ _ from aE ?_);refine aA (cz ?_);unfold Builtin.Frozenset.differenceUpdate;rw[aD (by simp;exact aX hb)];have Sb1:=Sb.keep λo e=>k1 b o e
  refine aA (Ph (s:={s with heap:=h1}) Sb1.type ?_);rw[aC rfl];refine aA (show wpAny (model prog w) A (pure b) _ _ _ from aE ?_);refine aA (VU (s:={s with heap:=h1}) Sb1 ?_);refine aA (VU (s:={s with heap:=h1}) S1 ?_);rw[aD .(2)];have Sb0:=Sb1;obtain⟨o,es,ep,t,ho,hx,hd,nY,nd,T,hl⟩:=Sb1;have hz:es=#[]:=dN (Sb0.len ho hd);subst hz;dsimp only;refine aA (ge ho hd T.fits ?_);have hw:Te w b ep #[]=#[]:=dN (by have:=(WF w b ep #[]).length_eq;simpa using this);refine aA (cz (aA (QJ ho hd T hl ?_)));rw[hw];refine aA (MeetsSeq2.wpAny_forIn_array _ (λrest _ s'=>rest=[]/\s'={s with heap:=h1}) _ (λx rest _ s' h=>nomatch h.1) ?_ #[] _ ⟨rfl,rfl⟩);rintro _ s' ⟨_,rfl⟩;refine aE ?_;have S1':=S1;obtain⟨o2,e2,p2,t2,c1,c2,c3,c4,c5,c6,c7⟩:=S1;unfold setTidy;refine aA (cK c1 c3 c6.fits ?_);dsimp only;rw[aD (by unfold SetTable.tooManyDummies;rw[c6.dum];simp)];exact aE (aE (q h1 ks k1 S1' (λk=>by simp) (aM _)))
 ·rw[aD hp]
  refine aA (QW Sa ?_);refine aA (Ol ?_);refine aA (show wpAny (model prog w) A (pure s.heap.objs.size) _ _ _ from aE ?_);have F0:=Lc (byT w) s.heap;have k1:∀b o,s.heap.get? b=some o->(s.heap.push (XO (byT w))).get? b=some o:=λb o e=>aL _ e
  have Sa0:=Sa;obtain⟨o,es,ep,t,ho,hx,hd,⟨js,nO,p0⟩,nd,T,hl⟩:=Sa;refine aA (ge (k1 _ _ ho) hd T.fits ?_);rw[aC rfl];refine aA (cz (aA (QJ (k1 _ _ ho) hd T hl ?_)));obtain⟨lx,p2,q2⟩:=WR (WF w a ep es) nO;have q3:lx.Perm ks:=q2<|p0;have l2:lx.length=ks.length:=q3.length_eq;refine aA (MeetsSeq2.wpAny_forIn_array _ (λrest _ s'=>∃(h':qQ) (dn jr:iK),s'={s with heap:=h'}/\(∀b o,s.heap.get? b=some o->h'.get? b=some o)/\lx=dn++jr/\Paired EIn rest jr/\SetL (byT w) h' s.heap.objs.size (YH [] (dn.filter λk=>!ms.contains k))) _ ?_ ?_ _ _ ⟨_,[],lx,rfl,k1,rfl,p2,F0⟩)
  ·rintro⟨hx',vx⟩ rest _ s' ⟨h',dn,jr,rfl,kk,e1,e2,S⟩
   cases e2 with
   |@cons _ j _ jr r e2=>
    obtain⟨r1,tk,r2⟩:=r;have r1:hx'=hashInt j:=r1;have r2:vx=.int j tk:=r2;subst r1 r2;have Sb1:=Sb.keep λo e=>kk b o e
    have oJ:dn.length<ks.length:=by rw[← l2,e1,aV,bI];omega
    have jw:a≠s.heap.objs.size:=aX ha
    have fin : ∀ (h2 : qQ) (Q' : ForInStep PUnit -> qK -> Prop),(∀ b o,s.heap.get? b = some o -> h2.get? b = some o) -> Q' (.yield PUnit.unit) { s with heap:=h2 } ->
        wpAny (model prog w) A (Builtin.Frozenset.unchanged id a ep >>= λ_=>pure (ForInStep.yield PUnit.unit)) Q' E {s with heap:=h2}:=λh2 Q' lN z=>by
     unfold Builtin.Frozenset.unchanged;refine aA (aA (ge (s:={s with heap:=h2}) (lN _ _ ho) hd T.fits ?_));rw[aD .(2)];exact aE (aE z)
    refine aA (cz ?_);rw[aC rfl];refine aA (wpAny_setFind_of (knd:=intKind prog w) (k:=j) (gE _ _ _ _) rfl (Sb1.of (by unfold scanBound;omega)) λr hr=>?_);refine aA (aE ?_);rw[hr];cases hc:ms.contains j with
    |true=>
     rw[aD .(2)];refine aE (fin h' _ kk ⟨h',dn++[j],jr,rfl,kk,by rw[e1];simp,e2,?_⟩);rw[dO,List.filter_cons_of_neg (by simpa using hc),gp,bF];exact S
    |false=>
     rw[aC (by rfl)];have hl:=XC (dn.filter λk=>!ms.contains k) [];have hl2:=aI (λk=>!ms.contains k) dn;rw[cM]at hl;refine aA (SQ (s:={s with heap:=h'}) S .(0) λh2 nX S2=>?_);have lN:∀b o,s.heap.get? b=some o->h2.get? b=some o:=λb o e=>nX.2 b (aX (aP e))<|kk b o e
     refine aE (fin h2 _ lN ⟨h2,dn++[j],jr,rfl,lN,by rw[e1];simp,e2,?_⟩);rw[dO,List.filter_cons_of_pos (by simpa using hc),gp,SV];exact S2
  ·rintro _ s' ⟨h',dn,jr,rfl,kk,e1,e2,S⟩
   cases e2;rw[bF]at e1;subst e1;refine aE (aE (q h' _ kk S (λk=>?_) ?_))
   ·rw[T6,aQ,q3.mem_iff]
    simp
   ·have hl:=XC (lx.filter λk=>!ms.contains k) []
    have hl2:=aI (λk=>!ms.contains k) lx;rw[cM]at hl;omega
def sub_set{Q:iA}(Sa:SetL (byT w) s.heap a ks)(Sb:SetL (byT w) s.heap b ms)(hn:ks.length<31)(hm:ms.length<31)(hq:ks.length / 4<=ms.length\/ms=[])(q:∀(h':qQ) (rs:iK),(∀b o,s.heap.get? b=some o->h'.get? b=some o)->SetL (byT w) h' s.heap.objs.size rs->(∀k,k∈rs ↔ k∈ks/\k ∉ ms)->rs.length<=ks.length->Q (.ref s.heap.objs.size) {s with heap:=h'}):wpAny (model prog w) A (binaryOp .Sub (.ref a) (.ref b)) Q E s:=by
 refine wpAny_binaryOp_same Sa.type Sb.type PySem.F.fills_set_sub PySem.F.slot_set_sub (dR PySem.F.slot_set_sub Sa.type Aq ?_ (PySem.F.args_set_sub_2 _ _));show wpAny (model prog w) A.in1 (Builtin.Frozenset.slot1 "__sub__" ⟨[.ref a,.ref b],[]⟩ >>= _) _ _ _;unfold Builtin.Frozenset.slot1 slotArgs;simp only[fU,fP,eI,↓reduceIte,bind_assoc,cM,eN];refine aA (aE ?_);refine aA (aE ?_);refine aA ?_;show wpAny (model prog w) A.in1 (Builtin.Frozenset.isAnySet (.ref a) >>= _) _ _ _;refine aA (Ph Sa.type ?_);show wpAny (model prog w) A.in1 (Builtin.Frozenset.isAnySet (.ref b)) _ _ _;refine Ph Sb.type ?_;rw[aD .(1)];refine aA (show wpAny (model prog w) A.in1 (pure a) _ _ _ from aE ?_);refine aA (DZ Sa Sb hn hm hq λh' rs kk S hr hl=>?_);exact aE ⟨_,rfl,(λz=>nomatch z),q h' rs kk S hr hl⟩
end
end Tb
end L2
namespace L2
noncomputable section
open PySem PySem.Spec PyProof.Rows Tb
def Rw(bt:Bool)(p:qJ)(ks:iK):HO:=.ext λh=>SetL bt h p ks
def Sn{α:Type}:List (Key × α)->Option (iK)
 |[]=>some []
 |(.inl k,_)::r=>match Sn r with
  |some ns=>some (k::ns)
  |none=>none
 |_=>none
def R6{α:Type}:∀{kvs:List (Key × α)} {ns:iK},Sn kvs=some ns->kvs.map (·.1)=ns.map Sum.inl
 |[],_,e=>by cases e;rfl
 |(.inr _,_)::_,_,e=>by cases e
 |(.inl k,v)::r,ns,e=>by
  have e:(match Sn r with|some ns=>some (k::ns)|none=>none)=some ns:=e
  match hr:Sn r,e with
  |some ms,e=>
   have e:some (k::ms)=some ns:=e;cases e;rw[aS,aS,R6 hr]
  |none,e=>exact nomatch e
def LM{F:Hp}{β:iI}:∀{kvs:iU} {qs:List (Key × V)},RK F β kvs qs->qs.map (·.1)=kvs.map (·.1)
 |_,_,.nil=>rfl
 |_,_,.cons h r=>by rw[aS,aS,LM r]
section
variable{X:Cx}{E:XK}
def Ka{P:qM}{w:qN}{H:Hp}{h:qQ}{bt:Bool}{p:qJ}{ks:iK}(S:SetL bt h p ks):ObjOk P w H h p (Rw bt p ks):=
 ⟨S,let ⟨o,_,_,_,e,_⟩:=S;⟨o,e⟩,λh1 h2 S1 k=>S1.keep k⟩
def M7{P:qM}{w:qN}{H:Hp}{h:qQ}{bt:Bool}{p:qJ}{ks:iK}(ok:HOk P w H h)(e:H p=some (Rw bt p ks)):SetL bt h p ks:=(ok p _ e).1
def rSet(X:Cx):iQ->Hp->VK->Prop:=λxs H Q=>∃l ns,xs=[.ref l]/\(SqL X.K H l (ns.map V.int)\/∃kvs,H l=some (.dK kvs)/\kvs.map (·.1)=ns.map Sum.inl)/\ns.length<31/\∀p,H p=none->Q (.ref p) (upd H p (Rw (byT X.w) p (YH [] ns)))
def kv_at{kvs:List (Key × V)}{vs:List (Key × qI)}{ns:iK}(r:KV kvs vs)(e:kvs.map (·.1)=ns.map Sum.inl):vs.map (·.1)=ns.map Sum.inl:=by
 rw[← e];clear e
 induction r with
 |nil=>rfl
 |cons h _ ih=>rw[aS,aS,ih,h.1]
def JI(hc:X.calm=true):CallR X (.type "set") (rSet X):=by
 intro gV s σ H xs us Q I r h;obtain⟨l,ns,rfl,hl,hb,q⟩:=h;obtain⟨u,rfl,ru⟩:=So r;cases (show u=Value.ref l from ru);rcases hl with hl|⟨kvs,hd,hk⟩
 ·obtain⟨iy,rv,p,hz⟩:=I.list hl
  refine Tb.set_list (I.ok.hd hc) p.isList (by simpa using Us rfl rv) hb λh' tk S kk=>?_
  exact⟨.ref s.heap.objs.size,_,I.laid (t':=tk) kk (aM _) (Ka S),rfl,q _ (I.hok.fresh (aM _))⟩
 ·obtain⟨z,hS,ws,rk,m⟩:=(show kvs.length<=sizeLine/\(l == sysModules)=false/\∃vs,KV kvs vs/\s.heap.DictOf (ZZ X.prog X.w) l vs from I.hok l _ hd)
  obtain⟨o,es,ep,ho,jL,jn,mM,hp,hn⟩:=m;have kA:=kv_at rk hk;have kg:ws.length=ns.length:=by have:=cE List.length kA;simpa using this
  refine Tb.set_dict (ns:=ns) ho jL.1 jn hS ⟨by rw[hp.length,kg],λi e he=>?_⟩ hb λh' S kk=>?_
  ·have hi:i<ns.length:=by
    have:=(d7.mp he).1;have h2:=hp.length;rw[aR]at h2;omega
   have hg:ws[i]?=some (ws[i]'.(0)):=aK _
   have hk1:(ws[i]'.(0)).1=Sum.inl (ns.getD i 0):=by
    have h3:(ws.map (·.1))[i]?=(ns.map Sum.inl)[i]?:=by rw[kA]
    rw[bB,bB,hg,aK hi]at h3;have h4:(ws[i]'.(0)).1=Sum.inl ns[i]:=bM h3;rw[h4];simp[hi]
   obtain⟨g1,_⟩:=hp.get? (e:=e) (by rw[eS];exact he) hg;have g1:(ZZ X.prog X.w).is (ws[i]'.(0)).1 e.key=true:=g1;rw[hk1]at g1;obtain⟨t,ht⟩:=gf (k:=ns.getD i 0) (v:=e.key) g1;obtain⟨k',c1,c2⟩:=mM e (Array.mem_of_getElem? he);have:k'=Sum.inl (ns.getD i 0):=(ZZ X.prog X.w).inj _ _ _ c1 g1;rw[this]at c2;exact⟨c2,t,ht⟩
  ·exact⟨.ref s.heap.objs.size,_,I.laid (t':=s.toks) kk (aM _) (Ka S),rfl,q _ (I.hok.fresh (aM _))⟩
def rSubS(X:Cx):R2:=λx y H Q=>∃a b ks ms,x=.ref a/\y=.ref b/\H a=some (Rw (byT X.w) a ks)/\H b=some (Rw (byT X.w) b ms)/\ks.length<31/\ms.length<31/\(ks.length / 4<=ms.length\/ms=[]) /\
 ∀p rs,H p=none->rs.Nodup->(∀k,k∈rs ↔ k∈ks/\k ∉ ms)->rs.length<=ks.length->Q (.ref p) (upd H p (Rw (byT X.w) p rs))
def B1:OpR X (binaryOp .Sub) (rSubS X):=by
 intro gV s σ H x y v u Q I rx ry h;obtain⟨a,b,ks,ms,rfl,rfl,ha,hb,h1,h2,h3,q⟩:=h;cases rx;cases ry;refine Tb.sub_set (M7 I.hok ha) (M7 I.hok hb) h1 h2 h3 λh' rs kk S hm hl=>?_
 exact⟨.ref s.heap.objs.size,_,I.laid (t':=s.toks) kk (aM _) (Ka S),rfl,q _ rs (I.hok.fresh (aM _)) S.ndp hm hl⟩
def EV(X:Cx):iQ->Hp->VK->Prop:=λxs H Q=>∃(a:qJ) (ks:iK),xs=[.ref a]/\(H a=some (Rw (byT X.w) a ks)\/∃kvs,H a=some (.dK kvs)/\kvs.map (·.1)=ks.map Sum.inl)/\ks.length<64/\∀(p:qJ) (ms:iK),ms.Perm ks->ms.Pairwise (·<=·)->H p=none->Q (.ref p) (upd H p (.lst (ms.map V.int)))
def OQ(hc:X.calm=true):CallR X (.builtin "sorted") (EV X):=by
 intro gV s σ H xs us Q I r h;obtain⟨a,ks,rfl,ha,kS,q⟩:=h;obtain⟨u,rfl,ru⟩:=So r;cases (show u=Value.ref a from ru)
 have fin:∀(h':qQ) (tk:Nat) (B:qJ) (us:iJ) (ms:iK) (c:Nat),(∀b x,s.heap.get? b=some x->h'.get? b=some x)->s.heap.objs.size<=B->h'.get? B=some (seqObj "list" us.toArray c)->IntsAre us ms->ms.Perm ks->ms.Pairwise (·<=·)->EP X gV σ Q (.ref B) {s with heap:=h',toks:=tk}:=λh' tk B us ms c kk hB e1 e2 e3 e4=>by
  have hl:ms.length=ks.length:=e3.length_eq;exact⟨.ref B,_,I.laid (o:=.lst (ms.map V.int)) (t':=tk) kk hB ⟨by rw[aB,cG];omega,us,c,Lw e2,e1⟩,rfl,q B ms e3 e4 (I.hok.fresh hB)⟩
 rcases ha with ha|⟨kvs,hd,hk⟩
 ·exact Tb.sort_set (I.ok.hd hc) (M7 I.hok ha) kS fin
 ·obtain⟨z,hS,ws,rk,m⟩:=(show kvs.length<=sizeLine/\(a == sysModules)=false/\∃vs,KV kvs vs/\s.heap.DictOf (ZZ X.prog X.w) a vs from I.hok a _ hd)
  have kA:=kv_at rk hk;have kg:ws.length=ks.length:=by have:=cE List.length kA;simpa using this
  obtain⟨o,es,ep,ho,jL,jn,mM,hp,hn⟩:=m;refine QV kS (λR E' k=>?_) fin
  refine QH (T:="dict") (o:=o) (oi:={cls:=.type "dict_keyiterator",data:=.fields (List.toArray [.ref a,.int 0 0,.int ws.length 0,.int ep 0])}) (n:=ws.length) .(1) .(1) ho jL.1 (by rw[cG];omega) (λs1 Q' E1 hT q1=>FN hT q1)
   (λs1 Q' E1 h1 q1=>im (knd:=ZZ X.prog X.w) (kvs:=ws) (ep:=ep) hS ⟨o,es,h1,jL,jn,mM,hp,hn⟩ q1)
   (λI' hI=>Walks.dictKeys (knd:=ZZ X.prog X.w) (A:=X.A.in1.in1) (by simp[I.ok.hd hc]) I' a hI ws ep) (λI' h e1 e2=>⟨⟨_,e2,rfl,rfl⟩,⟨o,es,e1,jL,jn,mM,hp,hn⟩⟩) rfl λh' tk i7 kk hB hI=>?_
  refine k h' tk i7.toList ks kk hB ?_ (.refl _);have hal:i7.toList.length=ks.length:=by rw[aR,hI.1,kg]
  have hat:∀i (h1:i<i7.toList.length) (h2:i<ks.length),∃t,i7.toList[i]=.int ks[i] t:=λi h1 h2=>by
   obtain⟨k',x,e1,e2⟩:=hI.2 i i7.toList[i] (by rw[← eS];exact aK h1);have h3:(ws.map (·.1))[i]?=(ks.map Sum.inl)[i]?:=by rw[kA]
   rw[bB,bB,e1,aK h2]at h3;have h4:k'=Sum.inl ks[i]:=bM h3;rw[h4]at e2;exact gf (k:=ks[i]) e2
  clear hI k kA kg hp rk hk;generalize i7.toList=l at hal hat;clear hB kk fin q kS
  induction l generalizing ks with
  |nil=>
   cases ks with
   |nil=>exact .nil
   |cons _ _=>cases hal
  |cons y l ih=>
   cases ks with
   |nil=>cases hal
   |cons k0 ks=>
    obtain⟨t,e⟩:=hat 0 .(2) .(2);have e:y=.int k0 t:=e;rw[e];exact .cons k0 t (ih ks (by simpa using hal) λi h1 h2=>hat (i+1) (by simpa using h1) (by simpa using h2))
def sdL(ns ks:iK):iK:=XI ((YH [] ns).filter λk=>!ks.contains k)
def LD(x:Wv):Mw (iK):=λom=>match x with
 |.lst ws=>match Xv ws with
  |some ns=>if ns.length<31 then ns\om else none
  |none=>none
 |_=>none
def RI(ns:iK)(y:Wv):Mw (iR):=λom=>match y with
 |.o h=>match om[h]? with
  |some (.dk kvs)=>match Sn kvs with
   |some ks=>if ks.length<31/\((YH [] ns).length / 4<=(YH [] ks).length\/ks=[]) then ((sdL ns ks).map Wv.int)\om else none
   |none=>none
  |_=>none
 |_=>none
def Tt(k:iR->Mw Wv)(fa fb:FE):FE:=λsl=>bnd (fa sl) λx=>bnd (LD x) λns=>bnd (fb sl) λy=>bnd (RI ns y) k
variable{e a b:qS}{es:iN}{fa fb:FE}{fs:FA}{k:iR->Mw Wv}{p p1 p2 p3 pos kY kZ:Pos}
def QT:∀(js ks:iK),ks.Nodup->(YH ks js).Nodup
 |[],ks,h=>h
 |j::js,ks,h=>QT js (S6 ks j) (by
  unfold S6;split
  ·exact h
  ·rename_i hc
   rw[cq];refine⟨h,.(2),λx hx y hy z=>hc ?_⟩;rw[cZ]at hy;rw[← hy,← z];simpa using hx)
def RY(l:iK)(x:Int):x∈XI l ↔ x∈l:=(YD l).mem_iff
def II(hk:VR E k)(hc:X.calm=true)(hg:Gl X "sorted")(hm:X.mg "sorted"=none)(oK:Gl X "set")(jZ:X.mg "set"=none)(ha:PE X a (tE E fa))(hb:PE X b (tE E fb))(ea:starEach [a] X.env=(false,eval a X.env)::starEach [] X.env:=by rfl) (eb:starEach [b] X.env=(false,eval b X.env)::starEach [] X.env:=by rfl)(h0:starEach [.BinOp (.Call (.Name "set" p1) [a] [] kY) .Sub (.Call (.Name "set" p2) [b] [] kZ) p3] X.env=(false,eval (.BinOp (.Call (.Name "set" p1) [a] [] kY) .Sub (.Call (.Name "set" p2) [b] [] kZ) p3) X.env)::starEach [] X.env:=by rfl)(l1:(backTo kY (starEach [] X.env)).any (·.1)=false:=by rfl) (l2:(backTo kZ (starEach [] X.env)).any (·.1)=false:=by rfl) (l3:rF pos X:=by rfl):PE X (.Call (.Name "sorted" p) [.BinOp (.Call (.Name "set" p1) [a] [] kY) .Sub (.Call (.Name "set" p2) [b] [] kZ) p3] [] pos) (tE E (Tt k fa fb)):=
 (RF (OQ hc) hg hm eB (X1 (Bq B1 (Qy (JI hc) oK jZ (by rfl) (X1 ha Vq ea) .(1) .(1) ea l1) (Qy (JI hc) oK jZ (by rfl) (X1 hb Vq eb) .(1) .(1) eb l2)) Vq h0) .(1) .(1) h0 l3).weak λσ H Q ⟨F,β,om,sl,M,V,R⟩=>by
 refine⟨F,β,om,sl,M,V,R.bind λx qH F1 H1 ix g1 M1 R1 v rv=>?_⟩;cases rv with
 |@lst pl xs ws hl rs=>
  unfold bnd LD at R1;dsimp only at R1
  match hn:Xv ws,R1 with
  |none,R1=>exact R1.elim
  |some ns,R1=>
   dsimp only at R1;by_cases iZ:ns.length<31
   ·have R2:Res E ((bnd (fb sl) λy=>bnd (RI ns y) k) qH) F1 H1 ix (PV Q):=by
     rw[aC iZ]at R1;exact R1
    have exs:=VF rs hn;subst exs;refine⟨pl,ns,rfl,.inl (.inl (Rd.same M1.sub hl)),iZ,λp hp=>?_⟩;have MU:=M1.newU (o:=Rw (byT X.w) p (YH [] ns)) hp;have gU:=M1.gxU (o:=Rw (byT X.w) p (YH [] ns)) hp;refine⟨F1,ix,qH,sl,MU,V.mono g1.toGr,(Res.mono gU R2).bind λy om2 F2 H2 jo g2 M2 R3 u ru=>?_⟩
    have hpb:p ∉ ix:=λhb=>by
     obtain⟨i,hi⟩:=dI hb;obtain⟨z,hz⟩:=M1.there hi;rw[hp]at hz;cases hz
    have nY:H2 p=some (Rw (byT X.w) p (YH [] ns)):=g2.keep p _ ZF hpb;cases ru with
    |@o hh d ed=>
     unfold bnd RI at R3;dsimp only at R3
     match hx:om2[hh]?,R3 with
     |none,R3=>exact R3.elim
     |some (.ins _ _),R3=>exact R3.elim
     |some (.exc _),R3=>exact R3.elim
     |some (.dz _),R3=>exact R3.elim
     |some (.lst _),R3=>exact R3.elim
     |some (.dt _),R3=>exact R3.elim
     |some (.dk kvs),R3=>
      obtain⟨d',my,_,qs,nZ,rq⟩:=M2.at hx;rw[ed]at my;cases my;dsimp only at R3
      match jI:Sn kvs,R3 with
      |none,R3=>exact R3.elim
      |some ks,R3=>
       dsimp only at R3;by_cases hcond:ks.length<31/\((YH [] ns).length / 4<=(YH [] ks).length\/ks=[])
       ·have R4:Res E (k ((sdL ns ks).map Wv.int) om2) F2 H2 jo (PV Q):=by
         rw[aC hcond]at R3;exact R3
        obtain⟨c1,c2⟩:=hcond;have la:=XC ns [];have lb:=XC ks [];rw[cM]at la lb;refine⟨d,ks,rfl,.inr ⟨qs,nZ,by rw[LM rq,R6 jI]⟩,c1,λp2 kJ=>?_⟩;have M3:=M2.newU (o:=Rw (byT X.w) p2 (YH [] ks)) kJ;have g3:=M2.gxU (o:=Rw (byT X.w) p2 (YH [] ks)) kJ;refine⟨p,p2,YH [] ns,YH [] ks,rfl,rfl,by rw[Zy (Z5 nY kJ)];exact nY,ZF,.(0),.(0),c2.imp id (λz=>by rw[z];rfl),λp3 lq lM nd kX qB=>?_⟩;have M4:=M3.newU (o:=Rw (byT X.w) p3 lq) lM;have g4:=M3.gxU (o:=Rw (byT X.w) p3 lq) lM;refine⟨p3,lq,rfl,.inl ZF,.(0),λp4 ms mf p6 p9=>?_⟩
        have ems:ms=sdL ns ks:=by
         refine Sf (mf<|List.Perm.trans ?_ (YD _).symm) p6 (UI _);have ndA:(YH [] ns).Nodup:=QT _ _ gA;refine(List.perm_ext_iff_of_nodup nd (ndA.filter _)).mpr λz=>?_
         rw[kX z,aQ,T6 (js:=ks)];simp
        rw[ems];exact(hk M4 (Re _) (Res.mono (g3<|g4) R4)).2 p9
       ·rw[aD hcond]at R3;exact R3.elim
    |_=>exact R3.elim
   ·rw[aD iZ]at R1;exact R1.elim
 |_=>exact R1.elim
def Vm(k:iR->Mw Wv)(ws:iR):Mw Wv:=λom=>match ws with
 |[x]=>match x with
  |.o h=>match om[h]? with
   |some (.dk kvs)=>match Sn kvs with
    |some ns=>if ns.length<64 then k ((XI ns).map Wv.int) om else none
    |none=>none
   |_=>none
  |_=>none
 |_=>none
def Jk(lk:VR E k):Tf E (EV X) (Vm k):=by
 intro F H β om ws vs Q M rs R
 match ws,rs,R with
 |[],_,R=>exact R.elim
 |_::_::_,_,R=>exact R.elim
 |[x],.cons rx .nil,R=>
  cases rx with
  |@o hh d ed=>
   unfold Vm at R;dsimp only at R
   match hx:om[hh]?,R with
   |none,R=>exact R.elim
   |some (.ins _ _),R=>exact R.elim
   |some (.exc _),R=>exact R.elim
   |some (.dz _),R=>exact R.elim
   |some (.lst _),R=>exact R.elim
   |some (.dt _),R=>exact R.elim
   |some (.dk kvs),R=>
    obtain⟨d',my,_,qs,nZ,rq⟩:=M.at hx;rw[ed]at my;cases my;dsimp only at R
    match jI:Sn kvs,R with
    |none,R=>exact R.elim
    |some ns,R=>
     dsimp only at R;by_cases hl:ns.length<64
     ·rw[aC hl]at R
      refine⟨d,ns,rfl,.inr ⟨qs,nZ,by rw[LM rq,R6 jI]⟩,hl,λq ms h1 h2 hq=>?_⟩;have e:ms=XI ns:=Sf (h1.trans (YD ns).symm) h2 (UI ns);rw[e];exact(lk M (Re _) R).2 hq
     ·rw[aD hl]at R;exact R.elim
  |_=>exact R.elim
def JK(lk:VR E k)(hc:X.calm=true)(hg:Gl X "sorted")(hm:X.mg "sorted"=none)(ha:PA X [e] (tA E fs))(he:rD e X:=by rfl)(jb:rF pos X:=by rfl):PE X (.Call (.Name "sorted" p) [e] [] pos) (tE E (fA (Vm k) fs)):=WY (OQ hc) (Jk (X:=X) lk) hg hm eB ha .(1) .(1) he jb
end
end
end L2
namespace L2
noncomputable section
open PySem PySem.Spec PyProof.Rows
def mnL:iK->Int
 |[]=>0
 |a::l=>if l=[] then a else if a<=mnL l then a else mnL l
def mxL(ns:iK):Int:=-mnL (ns.map λa=>-a)
def LJ:∀{ns:iK},ns≠[]->mnL ns∈ns/\∀a∈ns,mnL ns<=a
 |a::l,_=>by
  unfold mnL;by_cases h:l=[]
  ·subst h;simp
  ·obtain⟨h1,h2⟩:=LJ h
   rw[aD h];by_cases c:a<=mnL l
   ·rw[aC c]
    refine⟨.head _,λb hb=>?_⟩;rcases aN.mp hb with rfl|hb
    ·omega
    ·have:=h2 b hb;omega
   ·rw[aD c]
    refine⟨.tail _ h1,λb hb=>?_⟩;rcases aN.mp hb with rfl|hb
    ·omega
    ·exact h2 b hb
def Dw{ns:iK}{m:Int}(h1:m∈ns)(h2:∀a∈ns,m<=a):m=mnL ns:=by
 obtain⟨a,b⟩:=LJ (ns:=ns) (λz=>by rw[z]at h1;cases h1);have:=h2 _ a;have:=b _ h1;omega
def mxL_of{ns:iK}{m:Int}(h1:m∈ns)(h2:∀a∈ns,a<=m):m=mxL ns:=by
 unfold mxL
 have:=Dw (ns:=ns.map λa=>-a) (m:=-m) (aY.mpr ⟨m,h1,rfl⟩) (λa ha=>by
  obtain⟨b,hb,rfl⟩:=aY.mp ha;have:=h2 b hb;omega)
 omega
def rExt(K:iC)(g:iK->Int):iQ->Hp->VK->Prop:=λxs H Q=>∃(l:qJ) (ns:iK),xs=[.ref l]/\SqL K H l (ns.map V.int)/\ns≠[]/\Q (.int (g ns)) H
def Tg(g:iK->Int)(ws:iR):Mw Wv:=λom=>match ws with
 |[x]=>match Hd om x with
  |some us=>match Xv us with
   |some ns=>if ns≠[] then (.int (g ns))\om else none
   |none=>none
  |none=>none
 |_=>none
section
variable{X:Cx}{E:XK}{e:qS}{fs:FA}{pos p:Pos}
def PQ:∀{us:iJ} {ns:iK},IntsAre us ns->∃xs:Array (Int × Tok),us.toArray=intItems xs/\xs.toList.map (·.1)=ns
 |_,_,.nil=>⟨#[],by simp[intItems],rfl⟩
 |_,_,.cons n t (vs:=vs) r=>by
  obtain⟨xs,e1,e2⟩:=PQ r;refine⟨⟨(n,t)::xs.toList⟩,?_,by rw[aS,e2]⟩
  have e1:vs=xs.toList.map λp=>Value.int p.1 p.2:=by
   have:=cE Array.toList e1;simpa [intItems] using this
  rw[e1];simp[intItems]
def Rx{xs:Array (Int × Tok)}{ns:iK}(e:xs.toList.map (·.1)=ns)(i:Nat)(h:i<ns.length):numAt xs i=ns[i]:=by
 subst e;rw[aB]at h;unfold numAt;rw[List.getElem_map];have:xs[i]?=some (xs.toList[i]):=by rw[← eS];exact aK h
 rw[this];rfl
def Cj(hc:X.calm=true):CallR X (.builtin "min") (rExt X.K mnL):=by
 intro gV s σ H xs us Q I r h;obtain⟨l,ns,rfl,hl,jw,q⟩:=h;obtain⟨u,rfl,ru⟩:=So r;cases (show u=Value.ref l from ru);obtain⟨iy,rv,p,hz⟩:=I.list hl;obtain⟨ys,e1,e2⟩:=PQ (Us rfl rv);have hp:=p.isList;rw[e1]at hp;have hl2:ys.size=ns.length:=by rw[← e2,aB];rfl
 have jY:0<ns.length:=List.length_pos_iff.mpr jw;refine min_intList (I.ok.hd hc) hp .(0) λv h' tk hv hk=>?_
 obtain⟨t,rfl⟩:=intItems_at hv;obtain⟨b1,b2⟩:=argBest_lt (numAt ys) (ys.size-1);generalize argBest (λi j=>decide (numAt ys i<numAt ys j)) (ys.size-1)=i at hv b1 b2;have hi:i<ns.length:=by omega
 have:numAt ys i=mnL ns:=Dw (by rw[Rx e2 i hi];exact du hi) (λa ha=>by
  obtain⟨j,hj,rfl⟩:=List.getElem_of_mem ha;rw[← Rx e2 j hj];exact b2 j .(0))
 rw[this];exact⟨.int _,H,I.kept (t':=tk) hk,⟨t,rfl⟩,q⟩
def Cu(hc:X.calm=true):CallR X (.builtin "max") (rExt X.K mxL):=by
 intro gV s σ H xs us Q I r h;obtain⟨l,ns,rfl,hl,jw,q⟩:=h;obtain⟨u,rfl,ru⟩:=So r;cases (show u=Value.ref l from ru);obtain⟨iy,rv,p,hz⟩:=I.list hl;obtain⟨ys,e1,e2⟩:=PQ (Us rfl rv);have hp:=p.isList;rw[e1]at hp;have hl2:ys.size=ns.length:=by rw[← e2,aB];rfl
 have jY:0<ns.length:=List.length_pos_iff.mpr jw;refine max_intList (I.ok.hd hc) hp .(0) λv h' tk hv hk=>?_
 obtain⟨t,rfl⟩:=intItems_at hv;obtain⟨b1,b2⟩:=argBest_gt (numAt ys) (ys.size-1);generalize argBest (λi j=>decide (numAt ys i > numAt ys j)) (ys.size-1)=i at hv b1 b2;have hi:i<ns.length:=by omega
 have:numAt ys i=mxL ns:=mxL_of (by rw[Rx e2 i hi];exact du hi) (λa ha=>by
  obtain⟨j,hj,rfl⟩:=List.getElem_of_mem ha;rw[← Rx e2 j hj];exact b2 j .(0))
 rw[this];exact⟨.int _,H,I.kept (t':=tk) hk,⟨t,rfl⟩,q⟩
def Ml{g:iK->Int}:Tf E (rExt X.K g) (Tg g):=by
 intro F H β om ws vs Q M rs R
 match ws,rs,R with
 |[],_,R=>exact R.elim
 |_::_::_,_,R=>exact R.elim
 |[x],.cons rx .nil,R=>
  unfold Tg at R;dsimp only at R
  match hx:Hd om x,R with
  |none,R=>exact R.elim
  |some us,R=>
   dsimp only at R
   match hn:Xv us,R with
   |none,R=>exact R.elim
   |some ns,R=>
    dsimp only at R;obtain⟨p,xs,rfl,hs,r2⟩:=O1 (X:=X) M rx hx;rw[VF r2 hn]at hs;by_cases c:ns≠[]
    ·rw[aC c]at R
     exact⟨p,ns,rfl,hs,c,(show Res E (ret (Wv.int (g ns)) om) F H β (PV Q) from R).now M _ (.int _)⟩
    ·rw[aD c]at R;exact R.elim
def qe_minL(hg:Gl X "min")(hc:X.calm=true)(hm:X.mg "min"=none)(hb:bootBuiltins "min"=some (.builtin "min"))(ha:PA X [e] (tA E fs))(he:rD e X:=by rfl)(jb:rF pos X:=by rfl):PE X (.Call (.Name "min" p) [e] [] pos) (tE E (fA (Tg mnL) fs)):=WY (Cj hc) (Ml (X:=X)) hg hm hb ha .(1) .(1) he jb
def qe_maxL(hg:Gl X "max")(hc:X.calm=true)(hm:X.mg "max"=none)(hb:bootBuiltins "max"=some (.builtin "max"))(ha:PA X [e] (tA E fs))(he:rD e X:=by rfl)(jb:rF pos X:=by rfl):PE X (.Call (.Name "max" p) [e] [] pos) (tE E (fA (Tg mxL) fs)):=WY (Cu hc) (Ml (X:=X)) hg hm hb ha .(1) .(1) he jb
end
end
open PySem PySem.Spec PyProof.Rows
def GF(K:iC)(mg:iB)(x:Str)(st:qR)(ps:iM):Prop:=∃f fd,Fun K x x st f fd/\Binds K fd ps []/\mg x=some (.ref f)/\PySem.W.keepIn K (.ref f)=true
def MF(K:iC)(C:qJ)(x q:Str)(st:qR)(ps:iM):Prop:=∃f fd,Fun K x q st f fd/\Binds K fd ps []/\Meth K C x f
def NF(K:iC)(C:qJ)(q:Str)(st:qR)(ps:iM):Prop:=∃f fd,Fun K "__init__" q st f fd/\Binds K fd ps []/\Mk K C f
abbrev FnO(K:iC)(mg:iB)(k:Nat)(f:qJ)(fd:qP)(ps:iM)(n:Nat)(g:iR->Mw Wv):Prop:=∀(P:qM) (w:qN) (base:qQ),FnOk P w K mg base (CXw P w) k f fd ps (spM n g)
def GO(K:iC)(mg:iB)(k:Nat)(x:Str)(n:Nat)(g:iR->Mw Wv):Prop:=∃f fd ps,mg x=some (.ref f)/\PySem.W.keepIn K (.ref f)=true/\Binds K fd ps []/\FnO K mg k f fd ps n g
def MO(K:iC)(mg:iB)(k:Nat)(C:qJ)(x:Str)(n:Nat)(g:iR->Mw Wv):Prop:=∃f fd ps,Meth K C x f/\Binds K fd ps []/\FnO K mg k f fd ps n g
def NO(K:iC)(mg:iB)(k:Nat)(C:qJ)(n:Nat)(g:iR->Mw Wv):Prop:=∃f fd ps,Mk K C f/\Binds K fd ps []/\FnO K mg k f fd ps n g
structure AtC(K:iC)(mg:iB)(C:qJ)(x:Str)(fs:iM):Prop where
 cl:Cls K C
 at_:mg x=some (.ref C)
 na:∀f∈fs,NoAttr K C f
structure ExF(K:iC)(mg:iB)(C:qJ)(x:Str):Prop where
 q:PySem.W.excIn K C [.type "ValueError",.type "Exception",.type "BaseException",.type "object"] "ValueError.__new__"=true
 at_:mg x=some (.ref C)
section
variable{K:iC}{mg:iB}{k:Nat}{S:FS}{st:qR}{x q:Str}{ps:iM}{C:qJ}{g:iR->Mw Wv}{n:Nat}
abbrev Bd(K:iC)(mg:iB)(k:Nat)(q:Str)(st:qR)(N ps:iM)(S:FS):Prop:=∀{P:qM} {w:qN} {base:qQ} {f:qJ} {jz:qI} {A:qO} {outer:List Env} {s:qK} {H:Hp} {E:XK},Room k (A.deeper (envOfC q (YC st) s.heap.objs.size f jz))->(A.deeper (envOfC q (YC st) s.heap.objs.size f jz)).units+64<cLine->FnScope N ps (YC st)->PSs (NC (CXw P w) P w K mg base N q (YC st) f jz A outer s H E) (UY st) (tS E S)
def HN{N:iM}{f:qJ}{fd:qP}(F:Fun K x q st f fd)(Sc:FnScope N ps (YC st))(h:Bd K mg k q st N ps S):FnO K mg (k+1) f fd ps ps.length (Yc N.length S):=λP w base=>fn_ok F Sc λ_ _ _ _ _ _ hr=>h hr hr.units Sc
def gOk(F:GF K mg x st ps)(N:iM)(h:Bd K mg k x st N ps S)(Sc:FnScope N ps (YC st):=by exact⟨rfl,rfl,rfl,.(5),rfl,.(5),.(5)⟩):GO K mg (k+1) x ps.length (Yc N.length S):=by
 obtain⟨f,fd,F,b,m,kp⟩:=F;exact⟨f,fd,ps,m,kp,b,HN F Sc h⟩
def mOk(F:MF K C x q st ps)(N:iM)(h:Bd K mg k q st N ps S)(Sc:FnScope N ps (YC st):=by exact⟨rfl,rfl,rfl,.(5),rfl,.(5),.(5)⟩):MO K mg (k+1) C x ps.length (Yc N.length S):=by
 obtain⟨f,fd,F,b,m⟩:=F;exact⟨f,fd,ps,m,b,HN F Sc h⟩
def nOk(F:NF K C q st ps)(N:iM)(h:Bd K mg k q st N ps S)(Sc:FnScope N ps (YC st):=by exact⟨rfl,rfl,rfl,.(5),rfl,.(5),.(5)⟩):NO K mg (k+1) C ps.length (Yc N.length S):=by
 obtain⟨f,fd,F,b,m⟩:=F;exact⟨f,fd,ps,m,b,HN F Sc h⟩
def GO.tidy(G:GO K mg k x n g):GO K mg k x n (tidyG g):=by
 obtain⟨f,fd,ps,m,kp,b,F⟩:=G;exact⟨f,fd,ps,m,kp,b,λP w base=>FnOk.tidyG (F P w base)⟩
end
section
variable{X:Cx}{E:XK}{k n:Nat}{g:iR->Mw Wv}{x m:Str}{p pos:Pos}{e o:qS}{es:iN}{fs:FA}{fo:FE}{C:qJ}{fl:iM}
def ZS(G:GO X.K X.mg k x n g)(ha:PA X (e::es) (tA E fs))(hx:XQ (CXw X.prog X.w) X E:=by first|exact HD|exact GS)(hr:Room k X.A:=by exact Room.mono ‹_› .(1))(hg:Gl X x:=by rfl)(jv:(x == ("__debug__":Str))=false:=by decide) (he:rA e es X:=by rfl) (jb:rB pos es X:=by rfl):PE X (.Call (.Name x p) (e::es) [] pos) (tE E (fA (kN n g) fs)):=by
 obtain⟨f,fd,ps,m,kp,b,F⟩:=G;exact By (F _ _ _) hr hg m kp b hx ha jv he jb
def Z4{iY:Pos}{pl:Sem Bool}(A:AtC X.K X.mg C x fl)(G:MO X.K X.mg k C m n g)(ho:PE X o (tE E fo))(ha:PA X (e::es) (tA E fs))(hx:XQ (CXw X.prog X.w) X E:=by first|exact HD|exact GS)(hr:Room k X.A:=by exact Room.mono ‹_› .(1))(jT:rA e es X:=by rfl) (jb:rB pos es X:=by rfl)(ht:eval (.Call (.Attribute o m iY) (e::es) [] pos) X.env=(do
     let ov ← eval o X.env
     standAt iY.atName
     let (f,first) ← holding [ov] (getMethod ov m pl)
     callWith pos f first (backTo pos (starEach (e::es) X.env)) (backToKw pos (keywordEach [] X.env))):=by rfl):
    PE X (.Call (.Attribute o m iY) (e::es) [] pos) (tE E (Zn C m n g fo fs)):=by
 obtain⟨f,fd,ps,m,b,F⟩:=G;exact AU ho A.cl m (F _ _ _) hr b hx ha jT jb ht
def YR{iY:Pos}{pl:Sem Bool}(A:AtC X.K X.mg C x fl)(G:MO X.K X.mg k C m n g)(ho:PE X o (tE E fo))(hx:XQ (CXw X.prog X.w) X E:=by first|exact HD|exact GS)(hr:Room k X.A:=by exact Room.mono ‹_› .(1))(ht:eval (.Call (.Attribute o m iY) [] [] pos) X.env=(do
     let ov ← eval o X.env
     standAt iY.atName
     let (f,first) ← holding [ov] (getMethod ov m pl)
     callWith pos f first (backTo pos (starEach [] X.env)) (backToKw pos (keywordEach [] X.env))):=by rfl):
    PE X (.Call (.Attribute o m iY) [] [] pos) (tE E (Zn C m n g fo Zi)):=by
 obtain⟨f,fd,ps,m,b,F⟩:=G;exact Bi ho A.cl m (F _ _ _) hr b hx ht
def Jw(A:AtC X.K X.mg C x fl)(G:NO X.K X.mg k C n g)(ha:PA X (e::es) (tA E fs))(hx:XQ (CXw X.prog X.w) X E:=by first|exact HD|exact GS)(hr:Room (k+1) X.A:=by exact Room.mono ‹_› .(1))(hg:Gl X x:=by rfl)(jv:(x == ("__debug__":Str))=false:=by decide) (he:rA e es X:=by rfl) (jb:rB pos es X:=by rfl):PE X (.Call (.Name x p) (e::es) [] pos) (tE E (fA (XS C n g) fs)):=by
 obtain⟨f,fd,ps,m,b,F⟩:=G;exact A0 m (F _ _ _) hr hg A.at_ b hx ha jv he jb
def Ym{f:FE}{at_:Str}(A:AtC X.K X.mg C at_ fl)(he:PE X e (tE E f))(hf:x∈fl:=by decide)(hb:attributeBase e x X.env (eval e X.env)=eval e X.env:=by rfl):PE X (.Attribute e x pos) (tE E (f1 (ZG C x) f)):=qe_fld A.cl (A.na _ hf) he hb
def Td{fv:FE}{v:qS}{at_:Str}(A:AtC X.K X.mg C at_ fl)(hv:PE X v (tE E fv))(ho:PE X o (tE E fo))(hf:x∈fl:=by decide)(hs:swapsWith v (some (.Attribute o x p)) pos.line X.env=pure false:=by rfl):PS X (.Assign [.Attribute o x p] v pos) (tS E (Xs C x fv fo)):=qs_fld A.cl (A.na _ hf) hv ho hs
def To{ji jj:qS}{rest:iN}{np i0 p2:Pos}{mm:Sl->Mw Unit}(A:ExF X.K X.mg C x)(h:PJ X 2000 (ji::jj::rest) (tM E mm))(hE:LY X E:=by exact throwX)(hg:Gl X x:=by rfl)(hc:X.calm=true:=by rfl)(hn:2000 * (ji::jj::rest).length<=16000000:=by decide)(hs:rL ji jj rest X:=by rfl)(he:starEach [.JoinedStr (ji::jj::rest) p2] X.env=(false,eval (.JoinedStr (ji::jj::rest) p2) X.env)::starEach [] X.env:=by rfl) (jb:rK i0 X:=by rfl) (jv:(x == ("__debug__":Str))=false:=by decide):PS X (.Raise (some (.Call (.Name x np) [.JoinedStr (ji::jj::rest) p2] [] i0)) none pos) (tS E (XR C mm)):=EG PySem.F.excBase_ValueError A.q hg A.at_ hc hE h hn hs he jb jv
def YE(i:Nat){f:FE}{jf:Pos}(he:PE X e (tE E f))(hN:X.N.Nodup:=by exact FnScope.nd ‹_›)(hi:X.N[i]?=some x:=by rfl)(hx:Loc X.env.scope x:=by first|exact .inl rfl|exact .inr rfl)(hs:swapsWith e (some (.Name x jf)) pos.line X.env=pure false:=by rfl)(hf:rG X x:=by first|exact .inl rfl|exact .inr rfl):PS X (.Assign [.Name x jf] e pos) (tS E (ZC i f)):=qs_set hN hi hx he hs hf
def qpg(i:Nat){x:Str}(hN:X.N.Nodup:=by exact FnScope.nd ‹_›)(hi:X.N[i]?=some x:=by rfl)(hx:Loc X.env.scope x:=by first|exact .inl rfl|exact .inr rfl)(hf:rG X x:=by first|exact .inl rfl|exact .inr rfl):PG X (.Name x pos) (Nd i):=Y0 hN hi hx hf
def Yn{f:FE}(he:PE X e (tE E f)):PSs X [.Return (some e) pos] (tS E (Ye f)):=Zs (qs_ret he)
def YV{c:FT}{S:FS}{t:qS}{a:List qR}(hc:PT X t (tT E c))(ha:PSs X a (tS E S)):PS X (.If t a [] pos) (tS E (sIf c S Yr)):=Kq hc ha qss_nil
def DL{fi:FI}{T:TgW}{S:FS}{tg iz:qS}{g:TG}{body:List qR}(hi:PI X tg iz (tI E fi))(hg:PG X tg g)(ht:Ip g T)(hb:PSs X body (tS E S))(hp:PassesOwn (model X.prog X.w) X.A X.env X.xe:=by exact gh)(hc:X.calm=true:=by rfl)(hs:∀x,foldedSetIterable iz X.env x=pure x:=by intro _;rfl):PS X (.For tg iz body [] pos) (tS E (Wf fi T S)):=Cd hp hc hi hg ht hb hs
def UC(i:Nat){fi:FI}{S:FS}{iz:qS}{body:List qR}(hi:PI X (.Name x p) iz (tI E fi))(hb:PSs X body (tS E S))(hN:X.N.Nodup:=by exact FnScope.nd ‹_›)(hj:X.N[i]?=some x:=by rfl)(hx:Loc X.env.scope x:=by first|exact .inl rfl|exact .inr rfl)(hf:rG X x:=by first|exact .inl rfl|exact .inr rfl)(hp:PassesOwn (model X.prog X.w) X.A X.env X.xe:=by exact gh)(hc:X.calm=true:=by rfl)(hs:∀x,foldedSetIterable iz X.env x=pure x:=by intro _;rfl):PS X (.For (.Name x p) iz body [] pos) (tS E (Wf fi (tgN i) S)):=Cd hp hc hi (Y0 hN hj hx hf) (NP i) hb hs
def TB{o i v:qS}{p1:Pos}{fv fo fi:FE}(hv:PE X v (tE E fv))(ho:PE X o (tE E fo))(hi:PE X i (tE E fi)){w}(ha:∀v,assign (.Subscript o i p1) X.env v=(do
      let ov ← holding [v] (eval o X.env)
      let iv ← holding [v,ov] (eval i X.env)
      standAt p1
      holding [v,ov,iv] (setItem ov iv v)
      release [v,ov,iv] []):=by intro _;rfl)
    (hs:swapsWithSole [.Subscript o i p1] v pos.line X.env=pure false:=by rfl) (hw:swappedStores [.Subscript o i p1] v X.env=pure w:=by rfl)
    (h1:(assignEach [.Subscript o i p1] X.env).map (·.2)=[assign (.Subscript o i p1) X.env]:=by rfl) (nC:w=none:=by rfl):PS X (.Assign [.Subscript o i p1] v pos) (tS E (Xn fv fo fi)):=AD hv ho hi (Dl ho hi L2.set_list ha) hs hw h1 nC
end
section
variable{X:Cx}{scope:Scope}{js:iL}
def cOk{x:Str}(cn:iM)(clos:rJ scope X:=by with_unfolding_all rfl)(jt:∀y∈scope.names,y.2≠.cell:=by decide +kernel)(kind:scope.kind=.function:=by rfl)(names:∀y∈scope.names,y.2=.local->scope.names.lookup y.1=some .local:=by decide +kernel) (hx:scope.names.lookup x=some .local:=by rfl)(has:rE scope X:=by with_unfolding_all rfl) (len:js.length=cn.length:=by rfl)(cap:rC cn js X scope:=by with_unfolding_all rfl)(nd:(x::cn).Nodup:=by decide +kernel):CompOk X none scope (Xr scope.names X.env) x cn js:=Ea clos jt kind names hx has len cap nd
def cOkO{x:Str}(cn:iM)(clos:rJ scope X:=by with_unfolding_all rfl)(cs:∀n,cellsFrom n scope.names (Xr scope.names X.env)=VQ (some x) n (Xr scope.names X.env):=by intro _;with_unfolding_all rfl)(pc:∀h,pushCells h scope.names=Jc (some x) h:=by intro _;with_unfolding_all rfl)(kind:scope.kind=.function:=by rfl)(names:∀y∈scope.names,y.2=.local->scope.names.lookup y.1=some .local:=by decide +kernel) (hx:(relabel scope X.env).names.lookup x=some .cell:=by with_unfolding_all rfl)(has:((relabel scope X.env).names.all λp=>!(Vb (some p.2)) || (decide (some x=some p.1) || ((Xr scope.names X.env).lookup p.1).isSome))=true:=by with_unfolding_all rfl) (len:js.length=cn.length:=by rfl)(cap:rC cn js X scope:=by with_unfolding_all rfl)(nd:(x::cn).Nodup:=by decide +kernel):CompOk X (some x) scope (Xr scope.names X.env) x cn js:=Ij clos cs pc kind names hx has len cap nd
def Fj(xs cn:iM)(clos:rJ scope X:=by with_unfolding_all rfl)(jt:∀y∈scope.names,y.2≠.cell:=by decide +kernel)(kind:scope.kind=.function:=by rfl)(names:∀y∈scope.names,y.2=.local->scope.names.lookup y.1=some .local:=by decide +kernel)(has:rE scope X:=by with_unfolding_all rfl) (len:js.length=cn.length:=by rfl)(cap:rC cn js X scope:=by with_unfolding_all rfl)(nd:(xs++cn).Nodup:=by decide +kernel):CompOkT X none scope (Xr scope.names X.env) xs cn js:=PH clos jt kind names has len cap nd
end
section
variable{X:Cx}{E:XK}{oc:Option Str}{scope:Scope}{cl:iE}{x:Str}{cn:iM}{js:iL}{jl iz:qS}{jk:iN}{px pos:Pos}{fi:FI}{k:iR->Mw Wv}{c:FT}{f:FE}
def TF(O:CompOk X oc scope cl x cn js)(hi:PI X (.Name x px) iz (tI E fi))(ht:∀{C ir iw fp},Tm (Xx X oc scope cl x cn C ir iw fp) jk (tT E0 c))(he:∀{C ir iw fp},PE (Xx X oc scope cl x cn C ir iw fp) jl (tE E0 f))(hk:VR E k:=by first|exact YO|exact QB)(hc:X.calm=true:=by rfl)(hs:∀v,foldedSetIterable iz X.env v=pure v:=by intro _;rfl):PE X (.ListComp jl [⟨.Name x px,iz,jk,0⟩] scope pos) (tE E (Yk k js fi c f)):=B5 hk O hc hi (λ_ _ _ _=>ht) (λ_ _ _ _=>he) hs
def Vy(j:Nat){y:Str}{py ju:Pos}(O:CompOk X oc scope cl x cn js)(hi:PI X (.Name x px) iz (tI E fi))(ht:∀{C ir iw fp},Tm (Xx X oc scope cl x cn C ir iw fp) jk (tT E0 c))(he:∀{C ir iw fp},PE (Xx X oc scope cl x cn C ir iw fp) jl (tE E0 f))(hk:VR E k:=by first|exact YO|exact QB)(hc:X.calm=true:=by rfl)(hN:X.N.Nodup:=by exact FnScope.nd ‹_›) (hj:X.N[j]?=some y:=by rfl) (hy:Loc X.env.scope y:=by first|exact .inl rfl|exact .inr rfl) (kz:swapsWith (.ListComp jl [⟨.Name x px,iz,jk,0⟩] scope pos) (some (.Name y py)) ju.line X.env=pure true:=by with_unfolding_all rfl)(hs:∀v,foldedSetIterable iz X.env v=pure v:=by intro _;rfl) (hf:rH X y:=by first|exact .inl rfl|exact .inr rfl):PS X (.Assign [.Name y py] (.ListComp jl [⟨.Name x px,iz,jk,0⟩] scope pos) ju) (tS E (ZC j (Yk k js fi c f))):=Iv hk O hc hi (λ_ _ _ _=>ht) (λ_ _ _ _=>he) hN hj hy kz hs hf
end
section
variable{X:Cx}{E:XK}{k n:Nat}{g:iR->Mw Wv}{x m:Str}{p pos:Pos}{e o:qS}{es:iN}{fs:FA}{fo:FE}{C:qJ}{fl:iM}{gV:iD}{σ:St}
def Eu{CX:CXT}{f:qJ}{fd:qP}{ps:iM}{sp:Sp}{t:TA}{ds:iJ}{dvs:iQ}(F:FnOk X.prog X.w X.K X.mg X.base CX k f fd ps sp)(hr:Room k X.A)(hg:Gl X x)(hm:X.mg x=some (.ref f))(hk:PySem.W.keepIn X.K (.ref f)=true)(hb:Binds X.K fd ps ds)(hd:Vals dvs ds)(hx:WV CX X gV σ E)(ha:PA X (e::es) t) (jv:(x == ("__debug__":Str))=false:=by decide) (he:rA e es X:=by rfl) (jb:rB pos es X:=by rfl):PEat X gV σ (.Call (.Name x p) (e::es) [] pos) (tCall sp dvs E t):=by
 intro s H Q I h;refine eR (T5 I hg hm ?_ jv);refine eG (h₀:=X.base) I.ok.mod.kin hk (thn (ha pos gV s σ H _ I h) λus s1 ⟨vs,H1,I1,r,q⟩=>⟨I1.kIn,?_⟩) he jb;exact K1 F hr hb hd hx I1 r q
def B3(hx:WV (CXw X.prog X.w) X gV σ E)(G:GO X.K X.mg k x n g)(ha:PA X (e::es) (tA E fs))(hr:Room k X.A:=by exact Room.mono ‹_› .(1))(hg:Gl X x:=by rfl)(jv:(x == ("__debug__":Str))=false:=by decide) (he:rA e es X:=by rfl) (jb:rB pos es X:=by rfl):PEat X gV σ (.Call (.Name x p) (e::es) [] pos) (tE E (fA (kN n g) fs)):=by
 obtain⟨f,fd,ps,m,kp,b,F⟩:=G;refine(Eu (F _ _ _) hr hg m kp b .nil hx ha jv he jb).weak λH Q ⟨F,β,om,sl,M,V,R⟩=>⟨F,β,om,sl,M,V,R.bind λws qH F1 H1 ix g1 M1 R1 vs rs=>?_⟩
 show spM n g (vs++[]) H1 Q E;rw[bF];exact OM M1 rs R1
def Ln{iY:Pos}{pl:Sem Bool}(hx:WV (CXw X.prog X.w) X gV σ E)(A:AtC X.K X.mg C x fl)(G:MO X.K X.mg k C m n g)(ho:PE X o (tE E fo))(ha:PA X (e::es) (tA E fs))(hr:Room k X.A:=by exact Room.mono ‹_› .(1))(jT:rA e es X:=by rfl) (jb:rB pos es X:=by rfl)(ht:eval (.Call (.Attribute o m iY) (e::es) [] pos) X.env=(do
     let ov ← eval o X.env
     standAt iY.atName
     let (f,first) ← holding [ov] (getMethod ov m pl)
     callWith pos f first (backTo pos (starEach (e::es) X.env)) (backToKw pos (keywordEach [] X.env))):=by rfl):
    PEat X gV σ (.Call (.Attribute o m iY) (e::es) [] pos) (tE E (Zn C m n g fo fs)):=by
 obtain⟨f,fd,ps,m,b,F⟩:=G;exact FJ ho A.cl m (F _ _ _) hr b hx ha jT jb ht
end
end L2
namespace MP
noncomputable section
open PySem L2
def Sy(c:CA):FE:=
 (f2 kNe ?b ?a)
def WP(c:CA):FE:=
 (Yk ZL [0] (λsl=>bnd ((f2 kIx ?b ?A) sl) YF) Xl (Sy c))
def Uj(c:CA):FS:=
 (Xn (f2 YI ?g ?C) ?d ?g)
def Um(c:CA):FS:=
 (Xn (f2 YI ?g ?C) ?d (f2 WD ?D ?g))
def MS(c:CA):FS:=
 (Zx (ZC 1 (fA (kN 1 (W9 c)) #[?a]))
  (Zx (sIf (fB (f2 kEq (f2 YI (fA (kN 2 (Zq c)) #[?a,?G]) ?E) ?B)) (ZC 1 (fA YU #[?F,fA JY #[f2 kIx ?b ?B,?J],fA KL #[f2 kIx ?b ?C,?F]])) Yr)
  (Zx (ZC 2 (fA (kN 2 (WN c)) #[?a,f2 kIx ?b ?A]))
  (Zx (ZC 3 (fA (kN 2 (Vc c)) #[?a,f2 kIx ?b ?A]))
  (Zx (ZC 4 (f2 kEq (f2 YI (fA (kN 2 (Zq c)) #[?a,?G]) ?E) ?B))
  (Zx (ZC 5 (UE (f2 kGt (f2 kIx ?b ?A) ?D) (f2 kEq (f2 YI (fA (kN 2 (Zq c)) #[?a,?G]) ?C) ?B)))
  (Zx (sIf (Xm ?f) (Zx (ZC 2 (Yk ZL [1] (λsl=>bnd ((f2 kIx ?b ?A) sl) YF) Xl (WP c)))
  (Wf (λsl=>bnd (?D sl) YF) (tgN 6) (Uj c))) Yr)
  (Zx (sIf (Xm ?e) (Zx (Wf (λsl=>bnd (?D sl) YF) (tgN 6) (Um c))
  (Xn (fC .non) ?d ?H)) Yr)
  (Zx (ZC 7 (fA (kN 3 (Wp c)) #[?a,?c,?d]))
  (Zx (sIf (Xm ?f) (Zx (Xn (fA YU #[fC (.str "move"),?B]) ?h ?A)
  (Zx (Xn (fA YU #[fC (.str "help"),?A,?B]) ?h ?C)
  (sIf (fB (f2 kGt (f2 YI (f2 Ue (fA (kN 2 (Zq c)) #[?a,?G]) ?E) ?D) ?A)) (Xn (fA YU #[fC (.str "stand")]) ?h ?B) Yr))) Yr)
  (Zx (sIf (Xm ?e) (Zx (Xn (fA YU #[fC (.str "move"),?E]) ?h ?D)
  (Zx (Xn (fA YU #[fC (.str "stand")]) ?h ?E)
  (Xn (fA YU #[fC (.str "help"),?D,?E]) ?h ?I))) Yr)
  (Ye (fA YU #[?b,?c,?d,?h])))))))))))))
def Vg(c:CA):iR->Mw Wv:=Yc 8 (MS c)
def VO(c:CA):FT:=
 (fB (f2 (Wz false) ?a ?c))
def VJ(c:CA):FE:=
 (fA YU #[f2 X9 ?c ?a,?b])
def VM(c:CA):FT:=
 (VS (fB (f2 (Wz true) ?a ?c)) (fB (f2 (Wz true) ?a ?d)))
def Vt(c:CA):FE:=
 (fA YU #[?a,?b])
def Nk(c:CA):FS:=
 (Zx (ZC 3 (Xy ZL 2 [1] (λsl=>bnd ((Zn c.Board "roll" 1 (ZJ c) ?a Zi) sl) ZO) (VO c) (VJ c)))
  (Zx (ZC 4 (Xy ZL 2 [1,2] (λsl=>bnd ((Zn c.Board "roll" 1 (ZJ c) ?a Zi) sl) ZO) (VM c) (Vt c)))
  (Ye (f2 Nq ?d ?e))))
def WG(c:CA):iR->Mw Wv:=Yc 5 (Nk c)
def U9(c:CA):FS:=
 (ZR (Zn c.Board "post" 3 (Vi c) ?c #[?d,?e]))
def PO(c:CA):FS:=
 (Zx (ZC 2 (fA (XS c.Board 2 (Xh c)) #[?a]))
  (Zx (Wf (λsl=>bnd (?b sl) ZO) (Sk [3,4]) (U9 c))
  (Ye ?c)))
def Xb(c:CA):iR->Mw Wv:=Yc 5 (PO c)
def Rg(c:CA):FS:=
 (Zx (YW (Zn c.Orders "goal_of" 2 (Zo c) ?b #[?c]) (f1 (ZG c.Turn "goals") ?a) ?c)
  (YW ?c (f1 (ZG c.Turn "comers") ?a) (Zn c.Orders "goal_of" 2 (Zo c) ?b #[?c])))
def RL(c:CA):FS:=
 (sIf (VS (fB (f2 (Wz false) ?c (f1 (ZG c.Turn "comers") ?a))) (fB (f2 (Wz true) ?c (f1 (ZG c.Turn "goals") ?a)))) (YW ?d (f1 (ZG c.Turn "pushed") ?a) ?c) Yr)
def Rl(c:CA):FE:=
 (Zn c.Orders "goal_of" 2 (Zo c) ?b #[?a])
def KM(c:CA):FS:=
 (Zx (Xs c.Turn "goals" (λ_=>newO (.dk [])) ?a)
  (Zx (Xs c.Turn "comers" (λ_=>newO (.dk [])) ?a)
  (Zx (Wf (λsl=>bnd ((fA (kN 1 (Se c)) #[?b]) sl) ZO) (tgN 2) (Rg c))
  (Zx (Xs c.Turn "pushed" (λ_=>newO (.dk [])) ?a)
  (Zx (Wf (λsl=>bnd ((Zn c.Board "roll" 1 (ZJ c) (f1 (ZG c.Orders "board") ?b) Zi) sl) ZO) (Sk [2,3]) (RL c))
  (Zx (ZC 4 (Yk ZL [1] (λsl=>bnd ((Zn c.Orders "movers" 1 (ZV c) ?b Zi) sl) ZO) Xl (Rl c)))
  (Zx (Xs c.Turn "closed" (Tt ZL ?e (f1 (ZG c.Turn "comers") ?a)) ?a)
  (Xs c.Turn "board" (fA (kN 2 (Xb c)) #[f1 (ZG c.Board "chart") (f1 (ZG c.Orders "board") ?b),fA (kN 3 (WG c)) #[f1 (ZG c.Orders "board") ?b,f1 (ZG c.Turn "goals") ?a,f1 (ZG c.Turn "comers") ?a]]) ?a))))))))
def WT(c:CA):iR->Mw Wv:=Yc 5 (KM c)
def J8(c:CA):FS:=
 (Ye (fA kList #[f1 (ZG c.Turn "closed") ?a]))
def WX(c:CA):iR->Mw Wv:=Yc 1 (J8 c)
def Nu(c:CA):FE:=
 (fA YU #[?a,f2 X9 (f1 (ZG c.Turn "pushed") ?b) ?a,f2 X9 (f1 (ZG c.Turn "comers") ?b) ?a])
def LN(c:CA):FS:=
 (Ye (Yk ZL [0] (λsl=>bnd ((fA (Vm ZL) #[f1 (ZG c.Turn "pushed") ?a]) sl) ZO) Xl (Nu c)))
def Yl(c:CA):iR->Mw Wv:=Yc 1 (LN c)
def Kv(c:CA):FS:=
 (Ye (RO ZL (f1 (ZG c.Turn "goals") ?a)))
def We(c:CA):iR->Mw Wv:=Yc 1 (Kv c)
def No(c:CA):FS:=
 (Zx (ZC 3 (fA (kN 2 (Zq c)) #[?a,?c]))
  (Zx (sIf (fB (f2 kEq (f2 YI ?d ?E) ?B)) (Ye (f2 kSub (f2 YI (f2 Ue ?d ?E) (fC (.int 200))) (fC (.int 70)))) Yr)
  (Ye (f2 WD (f2 kIx ?b ?B) (f2 YI (f2 Ue ?d ?E) (f2 kIx ?b ?A))))))
def Y5(c:CA):iR->Mw Wv:=Yc 4 (No c)
def Rh(c:CA):FS:=
 (sIf (fB (f2 (Wz true) ?b (f1 (ZG c.Turn "pushed") ?a))) (XR c.NoUnit (Sm ?b SU)) Yr)
def YL(c:CA):iR->Mw Wv:=Yc 2 (Rh c)
def TL(c:CA):FT:=
 (fB (f1 VA (Zn c.Board "side_at" 2 (Zz c) (f1 (ZG c.Turn "board") ?b) #[?a])))
def Ts(c:CA):FE:=
 ?a
def Og(c:CA):FT:=
 (VS (fB (f2 kNe ?a (f2 X9 (f1 (ZG c.Turn "comers") ?b) ?c))) (fB (f2 (W3 true) ?a (f1 (ZG c.Turn "closed") ?b))))
def Oc(c:CA):FE:=
 ?a
def Np(c:CA):FS:=
 (Zx (ZR (Zn c.Map "need_place" 2 (ZA c) (f1 (ZG c.Board "chart") (f1 (ZG c.Turn "board") ?a)) #[?b]))
  (Zx (ZR (Zn c.Turn "need_aside" 2 (YL c) ?a #[?b]))
  (Zx (ZC 2 (Yk ZL [0] (λsl=>bnd ((Zn c.Map "near" 2 (VD c) (f1 (ZG c.Board "chart") (f1 (ZG c.Turn "board") ?a)) #[?b]) sl) ZO) (TL c) (Ts c)))
  (Ye (Yk ZL [0,1] (λsl=>bnd (?c sl) ZO) (Og c) (Oc c))))))
def Yx(c:CA):iR->Mw Wv:=Yc 3 (Np c)
def WH(c:CA):FS:=
 (Zx (ZR (Zn c.Map "need_place" 2 (ZA c) (f1 (ZG c.Board "chart") (f1 (ZG c.Turn "board") ?a)) #[?c]))
  (ZR (Zn c.Map "need_place" 2 (ZA c) (f1 (ZG c.Board "chart") (f1 (ZG c.Turn "board") ?a)) #[?d])))
def Su(c:CA):FS:=
 (ZR (Zn c.Turn "need_aside" 2 (YL c) ?a #[?c]))
def La(c:CA):FS:=
 (Zx (Wf (λsl=>bnd (?b sl) ZO) (Sk [2,3]) (WH c))
  (Wf (λsl=>bnd (?b sl) ZO) (Sk [2,3]) (Su c)))
def Xj(c:CA):iR->Mw Wv:=Yc 4 (La c)
def O2(c:CA):FE:=
 ?b
def OO(c:CA):FS:=
 (sIf (VS (fB (f2 kEq (OU ?c ?f) ?B)) (fB (f2 (W3 false) ?f (Zn c.Turn "may_go" 2 (Yx c) ?a #[?e])))) (YW ?f ?d ?e) Yr)
def OW(c:CA):FT:=
 (fB (f2 (Wz false) ?a ?d))
def PM(c:CA):FE:=
 (fA YU #[f2 X9 ?d ?a,?b])
def PD(c:CA):FT:=
 (fB (f2 (Wz true) ?a ?d))
def Oh(c:CA):FE:=
 ?a
def S_after(c:CA):FS:=
 (Zx (ZR (fA (kN 2 (Xj c)) #[?a,?b]))
  (Zx (ZC 2 (Xy ZL 2 [] (λsl=>bnd (?b sl) ZO) Xl (O2 c)))
  (Zx (ZC 3 (λ_=>newO (.dk [])))
  (Zx (Wf (λsl=>bnd (?b sl) ZO) (Sk [4,5]) (OO c))
  (Zx (ZC 6 (Xy ZL 3 [3] (λsl=>bnd ((Zn c.Turn "aside" 1 (Yl c) ?a Zi) sl) ZO) (OW c) (PM c)))
  (Zx (ZC 7 (Xy ZL 3 [3] (λsl=>bnd ((Zn c.Turn "aside" 1 (Yl c) ?a Zi) sl) ZO) (PD c) (Oh c)))
  (Ye (fA YU #[fA (kN 2 (Xb c)) #[f1 (ZG c.Board "chart") (f1 (ZG c.Turn "board") ?a),f2 Nq (Zn c.Board "roll" 1 (ZJ c) (f1 (ZG c.Turn "board") ?a) Zi) ?g],?h]))))))))
def VZ(c:CA):iR->Mw Wv:=Yc 8 (S_after c)
def L6(c:CA):FS:=
 (Zx (ZC 5 (fA ZL Zi))
  (Zx (FK (c.caught c.OrderError) 6 (sIf (fB (f2 kEq ?c ?A)) (ZR (Zn c.Orders "told" 2 (Z6 c) ?a #[?d])) (sIf (fB (f2 kEq ?c ?B)) (ZR (Zn c.Board "side_at" 2 (Zz c) (f1 (ZG c.Orders "board") ?a) #[?d])) (sIf (fB (f2 kEq ?c ?C)) (ZR (Zn c.Turn "may_go" 2 (Yx c) ?b #[?d])) (ZR (fA (kN 2 (VZ c)) #[?b,?e]))))) (Zx (ZC 5 (fA ZL #[f1 (WA c.isE c.kit (.ref c.NoPlace)) ?g,f1 (WA c.isE c.kit (.ref c.NoUnit)) ?g,f1 (WA c.isE c.kit (.ref c.OutOfReach)) ?g,f1 (WA c.isE c.kit (.ref c.Crowded)) ?g]))
  (ZC 5 (f2 Nq ?f (fA ZL #[f1 (WA c.isE c.kit (.ref c.NoSide)) ?g,f1 (WA c.isE c.kit (.type "ValueError")) ?g])))))
  (Ye ?f)))
def Y2(c:CA):iR->Mw Wv:=Yc 7 (L6 c)
def Ii(c:CA):FS:=
 (Zx (sIf (Xm ?a) (Ye (fA ZL #[fC (.bl true),fC (.bl false),fC (.bl false),fC (.bl false),fC (.bl false),fC (.bl true)])) Yr)
  (Zx (sIf (Xm ?b) (Ye (fA ZL #[fC (.bl false),fC (.bl true),fC (.bl false),fC (.bl false),fC (.bl false),fC (.bl true)])) Yr)
  (Ye (fA ZL Zi))))
def Xw(c:CA):iR->Mw Wv:=Yc 2 (Ii c)
def Iq(c:CA):FE:=
 (f2 kIx ?a ?A)
def Ir(c:CA):FE:=
 (f2 kIx ?a ?A)
def S_law(c:CA):FS:=
 (Zx (ZC 1 (fA (kN 1 (Vg c)) #[?a]))
  (Zx (ZC 2 (f2 kIx (f2 kIx ?b ?A) ?C))
  (Zx (ZC 3 (fA (kN 4 (Wj c)) #[f2 kIx ?b ?A,f2 kIx ?b ?B,f2 kIx ?b ?C,f2 kIx ?b ?D]))
  (Zx (ZC 4 (fA (XS c.Turn 2 (WT c)) #[?d]))
  (Zx (ZC 5 (fA YU #[Zn c.Turn "done" 1 (We c) ?e Zi,Zn c.Turn "aside" 1 (Yl c) ?e Zi,Zn c.Turn "shut" 1 (WX c) ?e Zi,Zn c.Board "roll" 1 (ZJ c) (f1 (ZG c.Turn "board") ?e) Zi,Zn c.Board "roll" 1 (ZJ c) (f1 (ZG c.Orders "board") ?d) Zi]))
  (Zx (ZC 6 (Yk ZL [] (λsl=>bnd ((Zn c.Turn "aside" 1 (Yl c) ?e Zi) sl) ZO) Xl (Iq c)))
  (Zx (ZC 7 (fA (kN 3 (Y5 c)) #[?a,f2 kIx ?b ?A,fC (.int 17)]))
  (Zx (ZC 8 (fA (kN 3 (Y5 c)) #[?a,f2 kIx ?b ?A,fC (.int 18)]))
  (Zx (sIf (VS (fB (f2 kNe ?g (fA ZL Zi))) (fB (f2 kEq (f2 YI (fA (kN 2 (Zq c)) #[?a,?M]) ?C) ?B))) (ZC 7 (f2 kIx ?g (f2 YI (f2 Ue (fA (kN 2 (Zq c)) #[?a,?M]) ?C) (fA Ws #[?g])))) Yr)
  (Zx (sIf (VS (fB (f2 kNe ?g (fA ZL Zi))) (fB (f2 kEq (f2 YI (fA (kN 2 (Zq c)) #[?a,?N]) ?C) ?B))) (ZC 8 (f2 kIx ?g (f2 YI (f2 Ue (fA (kN 2 (Zq c)) #[?a,?N]) ?C) (fA Ws #[?g])))) Yr)
  (Zx (ZC 9 (fA ZL #[fA YU #[?h,fA (kN 3 (Y5 c)) #[?a,f2 kIx ?b ?A,fC (.int 19)]],fA YU #[?i,fA (kN 3 (Y5 c)) #[?a,f2 kIx ?b ?A,fC (.int 20)]]]))
  (Zx (ZC 10 (Yk ZL [] (λsl=>bnd ((Zn c.Board "roll" 1 (ZJ c) (f1 (ZG c.Orders "board") ?d) Zi) sl) ZO) Xl (Ir c)))
  (Zx (sIf (fB (f2 kNe (fA (kN 5 (Y2 c)) #[?d,?e,?A,?h,?j]) (fA (kN 2 (Xw c)) #[f1 Ma (TK kLe kLt ?A ?h ?c),f2 (W3 true) ?h ?k]))) (Ye (fC (.bl false))) Yr)
  (Zx (sIf (fB (f2 kNe (fA (kN 5 (Y2 c)) #[?d,?e,?B,?h,?j]) (fA (kN 2 (Xw c)) #[f1 Ma (TK kLe kLt ?A ?h ?c),fC (.bl false)]))) (Ye (fC (.bl false))) Yr)
  (Zx (sIf (fB (f2 kNe (fA (kN 5 (Y2 c)) #[?d,?e,?C,?h,?j]) (fA (kN 2 (Xw c)) #[f1 Ma (TK kLe kLt ?A ?h ?c),f2 (W3 true) ?h ?g]))) (Ye (fC (.bl false))) Yr)
  (Zx (sIf (fB (f2 kNe ?h ?i)) (Zx (ZC 11 (fA ZL #[?h,?i,f2 kIx (f2 kIx ?j ?A) ?B,f2 kIx (f2 kIx ?j ?B) ?B]))
  (Zx (ZC 12 (Jq (f2 kLt (fA (Tg mnL) #[?l]) ?A) (f2 kGe (fA (Tg mxL) #[?l]) ?c)))
  (sIf (fB (f2 kNe (fA (kN 5 (Y2 c)) #[?d,?e,?D,?h,?j]) (fA (kN 2 (Xw c)) #[Za 12,Jq (f2 (W3 true) ?h ?g) (f2 (W3 true) ?i ?g)]))) (Ye (fC (.bl false))) Yr))) Yr)
  (Ye (f2 kEq ?f (fA YU #[Zn c.Turn "done" 1 (We c) ?e Zi,Zn c.Turn "aside" 1 (Yl c) ?e Zi,Zn c.Turn "shut" 1 (WX c) ?e Zi,Zn c.Board "roll" 1 (ZJ c) (f1 (ZG c.Turn "board") ?e) Zi,Zn c.Board "roll" 1 (ZJ c) (f1 (ZG c.Orders "board") ?d) Zi])))))))))))))))))))
def g_law(c:CA):iR->Mw Wv:=Yc 13 (S_law c)
end
open PySem L2
def LF{om:iV}{h k:Nat}{ws:iR}{w:Wv}{sl:Sl}{fv fo fi:FE}(hv:fv sl om=w\om)(ho:fo sl om=(.o h)\om)(hi:fi sl om=(.int (k:Nat))\om)(hx:om[h]?=some (.lst ws))(hk:k<ws.length):Xn fv fo fi sl om=(.nx,sl)\om.set h (.lst (ws.set k w)):=by
 unfold Xn;rw[Zm hv,Zm ho,Zm hi];refine Zm (a:=()) (qH:=om.set h (.lst (ws.set k w))) ?_<|rfl
 have l2:ixN ws.length (k:Int)=some k:=by
  unfold ixN;rw[aC .(0),aC .(0),cu]
 unfold Gc;simp only[Vs,hx];rw[l2]
def Ti(n:Nat):Mx:=(List.range n).map λi=>(List.range n).map λj=>!decide (i=j)
def Px(n i j:Nat):X2 (Ti n) i j=(decide (i<n)&&(decide (j<n)&&!decide (i=j))):=by
 have row:(Ti n).getD i []=if i<n then (List.range n).map (λj=>!decide (i=j)) else []:=by
  unfold Ti;rw[aT,bB];by_cases h:i<n
  ·rw[dm h,aC h];rfl
  ·rw[bP (by rw[cB];omega),aD h];rfl
 unfold X2;rw[row];by_cases h:i<n
 ·rw[aC h,aT,bB]
  by_cases h2:j<n
  ·rw[dm h2]
   simp[h,h2]
  ·rw[bP (by rw[cB];omega)]
   simp[h2]
 ·rw[aD h]
  simp[h]
def B9(n:Nat):Lk n (Ti n):=by
 refine⟨by simp[Ti],λa ha=>?_,λa b=>?_,λa=>?_⟩
 ·unfold Ti
  rw[aT,bB,dm ha];simp
 ·rw[Px,Px]
  have:decide (a=b)=decide (b=a):=g7.mpr eq_comm;rw[this];cases decide (a<n) <;> cases decide (b<n) <;> rfl
 ·rw[Px];simp
def TZ{n i j:Nat}(hi:i<n)(hj:j<n)(h:i≠j):X2 (Ti n) i j=true:=by rw[Px];simp[hi,hj,h]
def Tq{α:Type}(l:List (Option α)){k:Nat}(hk:k<l.length)(x:Option α)(j:Nat):at' (l.set k x) j=if j=k then x else at' l j:=by
 unfold at';rw[aT,aT];by_cases h:j=k
 ·subst h;rw[aC rfl,bQ hk];rfl
 ·rw[aD h,bJ λz=>h z.symm]
def Givn.put{qF:Mx}{f:iF}{qD:iW}(G:Givn qF f qD){k:Nat}(hk:k<f.length){o:Od}(h:Fq qF f k (some o)):Givn qF f (qD.set k (some o)):=by
 refine⟨G.lk,by rw[dh];exact G.len,G.few,λj hj=>?_⟩;rw[Tq _ (by rw[G.len];exact hk)];by_cases e:j=k
 ·subst e;rw[aC rfl];exact h
 ·rw[aD e];exact G.ok j hj
def pF(f:iF):iF:=((f.set 0 (some 0)).set 1 (some 1)).set 2 (some 0)
def tF(f:iF):iF:=(((f.set 3 (some 0)).set 4 (some 1)).set 5 (some 0)).set 6 none
def pT(b:Bool)(t:iW):iW:=bif b then ((t.set 0 (some (.move 1))).set 2 (some (.help 0 1))).set 1 (some .stand) else (t.set 0 (some (.move 1))).set 2 (some (.help 0 1))
def tT(t:iW):iW:=((t.set 3 (some (.move 4))).set 4 (some .stand)).set 5 (some (.help 3 4))
def pF_at{f:iF}(h:3<f.length)(j:Nat):at' (pF f) j=if j=2 then some 0 else if j=1 then some 1 else if j=0 then some 0 else at' f j:=by
 unfold pF;rw[Tq _ .(6),Tq _ .(6),Tq _ .(0)]
def tF_at{f:iF}(h:6<f.length)(j:Nat):at' (tF f) j=if j=6 then none else if j=5 then some 0 else if j=4 then some 1 else if j=3 then some 0 else at' f j:=by
 unfold tF;rw[Tq _ .(6),Tq _ .(6),Tq _ .(6),Tq _ .(0)]
def pT_ok{n:Nat}{f:iF}{t:iW}(G:Givn (Ti n) f t)(hf:f.length=n)(h3:3<n)(a:∀j,j<3->(at' f j).isSome=true)(b:Bool):Givn (Ti n) f (pT b t):=by
 have g1:=G.put (k:=0) (o:=.move 1) .(0) ⟨a 0 .(0),.(0),TZ .(0) .(0) .(0)⟩;have g2:=g1.put (k:=2) (o:=.help 0 1) .(0) ⟨a 2 .(0),.(0),.(0),.(0),a 0 .(0),TZ .(0) .(0) .(0),.inr (TZ .(0) .(0) .(0))⟩;cases b with
 |false=>exact g2
 |true=>exact g2.put (k:=1) (o:=.stand) .(0) (a 1 .(0))
def tT_ok{n:Nat}{f:iF}{t:iW}(G:Givn (Ti n) f t)(hf:f.length=n)(h6:6<n)(a:∀j,3<=j->j<6->(at' f j).isSome=true):Givn (Ti n) f (tT t):=by
 have g1:=G.put (k:=3) (o:=.move 4) .(0) ⟨a 3 .(0) .(0),.(0),TZ .(0) .(0) .(0)⟩;have g2:=g1.put (k:=4) (o:=.stand) .(0) (a 4 .(0) .(0));exact g2.put (k:=5) (o:=.help 3 4) .(0) ⟨a 5 .(0) .(0),.(0),.(0),.(0),a 3 .(0) .(0),TZ .(0) .(0) .(0),.inr (TZ .(0) .(0) .(0))⟩
abbrev slW(ns:iK)(x1 x2 x3 x4 x5 x6 x7:Option Wv):Sl:=[some (Yj ns),x1,x2,x3,x4,x5,x6,x7]
def RM(o:Nat)(f:iF)(m:Nat):iF:=(List.range m).foldl (λf k=>f.set (o+k) (some ((k % 2:Nat):Int))) f
def Dx(o:Nat)(f:iF)(m:Nat):RM o f (m+1)=(RM o f m).set (o+m) (some ((m % 2:Nat):Int)):=by
 unfold RM;rw[df,dG];rfl
def OK(o:Nat)(f:iF):∀m,(RM o f m).length=f.length
 |0=>rfl
 |m+1=>by rw[Dx,dh,OK o f m]
section
variable(c:CA){ns:iK}{qG qE size:Nat}
def cell24{sl:Sl}{om:iV}(h:sl[0]?=↑(Yj ns)):fA (kN 2 (Zq c)) #[?a,?G] sl om=(.int (ns.getD 24 0))\om:=SN c (om:=om) (ns:=ns) (k:=24) (i:=0) (fe:=fC (.int 24)) h Zp
def ES{o:Nat}{B:FS}{f:iF}{sl:Sl}(h6:6<sl.length)(ho:o+3<=f.length)(hB:∀(m:Nat) (om:iV) (ws:iR),om=[.lst ws]->o+m<ws.length->B (sl.set 6 (some (.int (m:Nat)))) om=(.nx,sl.set 6 (some (.int (m:Nat))))\[.lst (ws.set (o+m) (.int ((m % 2:Nat):Int)))])(x:Option Wv):∃y,Wf (λsl=>bnd (?D sl) YF) (tgN 6) B (sl.set 6 x) [.lst (f.map ZK)]=(.nx,sl.set 6 y)\[.lst ((RM o f 3).map ZK)]:=by
 have ja:=ZT
 obtain⟨jc,iu,hf,y,rfl,rfl⟩:=WU (T:=tgN 6) (S:=B) (n:=3) (λm jc iu=>∃y,jc=sl.set 6 y/\iu=[.lst ((RM o f m).map ZK)]) (sl:=sl.set 6 x) (om:=[.lst (f.map ZK)]) (λm hm jc iu ⟨y,h1,h2⟩=>by
  subst h1 h2;have e:=hB m [.lst ((RM o f m).map ZK)] ((RM o f m).map ZK) rfl (by rw[aB,OK];omega);have e2:((RM o f m).map ZK).set (o+m) (.int ((m % 2:Nat):Int))=(RM o f (m+1)).map ZK:=by rw[Dx,f6];rfl
  rw[e2]at e;exact⟨_,.nx,_,_,by show some ((sl.set 6 y).set 6 _)=_;rw[fr],e,.inl rfl,_,rfl,rfl⟩) ⟨x,rfl,rfl⟩
 exact⟨y,YY (sl1:=[]) (Zm Zp<|Wc 3 _ .(0)) hf⟩
def AI{qF:Mx}{f:iF}{b4 b5:Bool}(h5:b5=true->3<qG)(h7:qG<=7)(L:Lk qG qF)(hf:f.length=qG)(hs:∀k s,at' f k=some s->0<=s/\s<=7):∃kE f' x6,Lk qG kE/\f'.length=qG/\(∀k s,at' f' k=some s->0<=s/\s<=7)/\(b5=true->kE=Ti qG/\∀j,j<3->(at' f' j).isSome=true) /\ sIf (Xm ?f) (Zx (ZC 2 (Yk ZL [1] (λsl=>bnd ((f2 kIx ?b ?A) sl) YF) Xl (WP c))) (Wf (λsl=>bnd (?D sl) YF) (tgN 6) (Uj c))) Yr (slW ns (some (ZH qG qE size)) (some (.lst (qF.map Yw))) (some (.o 0)) (some (.bl b4)) (some (.bl b5)) none none) [.lst (f.map ZK)]=(.nx,slW ns (some (ZH qG qE size)) (some (.lst (kE.map Yw))) (some (.o 0)) (some (.bl b4)) (some (.bl b5)) x6 none)\[.lst (f'.map ZK)]:=by
 have ja:=ZT;have tr:Xm ?f (slW ns (some (ZH qG qE size)) (some (.lst (qF.map Yw))) (some (.o 0)) (some (.bl b4)) (some (.bl b5)) none none) [.lst (f.map ZK)]=b5\[.lst (f.map ZK)]:=Y3 (Zb rfl);cases b5 with
 |false=>exact⟨qF,f,none,L,hf,hs,(λz=>(nomatch z)),ZM tr⟩
 |true=>
  have h3:=h5 rfl;have rg:∀(sl:Sl) (om:iV),sl[1]?=↑(ZH qG qE size)->(λsl=>bnd ((f2 kIx ?b ?A) sl) YF) sl om=(Vj qG)\om:=λsl om h=>Zm (Zr (Zb h) Zp<|ZP (k:=0) (v:=.int qG) rfl rfl)<|Wc _ _ .(0)
  have a1:ZC 2 (Yk ZL [1] (λsl=>bnd ((f2 kIx ?b ?A) sl) YF) Xl (WP c)) (slW ns (some (ZH qG qE size)) (some (.lst (qF.map Yw))) (some (.o 0)) (some (.bl b4)) (some (.bl true)) none none) [.lst (f.map ZK)]=(.nx,slW ns (some (ZH qG qE size)) (some (.lst ((Ti qG).map Yw))) (some (.o 0)) (some (.bl b4)) (some (.bl true)) none none)\[.lst (f.map ZK)]:=by
   generalize [Ob.lst (f.map ZK)]=om
   have cr:=Uv (cT:=Xl) (f:=WP c) (mk:=λw=>XN [1] w (slW ns (some (ZH qG qE size)) (some (.lst (qF.map Yw))) (some (.o 0)) (some (.bl b4)) (some (.bl true)) none none)) (om:=om) (n:=qG) (λ_=>true) (λa=>Yw ((List.range qG).map λj=>!decide (a=j))) (λ_ _=>rfl) (λa ha _=>by
    have ci:=Uv (cT:=Xl) (f:=Sy c) (mk:=λw=>XN [0] w (XN [1] (.int (a:Nat)) (slW ns (some (ZH qG qE size)) (some (.lst (qF.map Yw))) (some (.o 0)) (some (.bl b4)) (some (.bl true)) none none))) (om:=om) (n:=qG) (λ_=>true) (λb=>Wv.bl (!decide (a=b))) (λ_ _=>rfl) (λb hb _=>v2 rfl rfl<|D0 _ _ _);refine(XH (ws:=Vj qG) (qH:=om) (rg _ _ rfl) (by rw[WQ];omega) ci).trans ?_;rw[bV.mpr (λ_ _=>rfl)];refine(Z2 (by rw[aB,cB];omega)).trans ?_;show _=some (Except.ok (Wv.lst (((List.range qG).map λj=>!decide (a=j)).map Wv.bl)),om);rw[bA];rfl)
   refine Zt (i:=2) ((XH (ws:=Vj qG) (qH:=om) (rg _ _ rfl) (by rw[WQ];omega) cr).trans ?_);rw[bV.mpr (λ_ _=>rfl)];refine(Z2 (by rw[aB,cB];omega)).trans ?_;unfold Ti;rw[bA];rfl
  obtain⟨y,a2⟩:=ES (o:=0) (B:=Uj c) (f:=f) (sl:=slW ns (some (ZH qG qE size)) (some (.lst ((Ti qG).map Yw))) (some (.o 0)) (some (.bl b4)) (some (.bl true)) none none) .(2) .(0) (λm om ws h hl=>by
   subst h;rw[eK]at hl ⊢;exact LF (om:=[.lst ws]) (h:=0) (ws:=ws) (Wa (q:=2) (a:=(m:Int)) (Zb rfl) .(1)) (Zb rfl) (Zb rfl) rfl hl) none
  have at3:=pF_at (f:=f) .(0);refine⟨Ti qG,pF f,y,B9 qG,by simp[pF,hf],λk s h=>?_,λ_=>⟨rfl,λj hj=>?_⟩,Z9 tr<|(Zh a1).trans a2⟩
  ·rw[at3]at h
   split at h
   ·cases h;omega
   ·split at h
    ·cases h;omega
    ·split at h
     ·cases h;omega
     ·exact hs k s h
  ·rw[at3]
   split
   ·rfl
   ·split
    ·rfl
    ·rw[aC .(0)];rfl
def Bo{qF:Mx}{f:iF}{b4 b5:Bool}{x6:Option Wv}(h4:b4=true->qG=7)(hf:f.length=qG)(hs:∀k s,at' f k=some s->0<=s/\s<=7)(h3:b5=true->∀j,j<3->(at' f j).isSome=true):∃f' qa,f'.length=qG/\(∀k s,at' f' k=some s->0<=s/\s<=7)/\(b5=true->∀j,j<3->(at' f' j).isSome=true)/\(b4=true->∀j,3<=j->j<6->(at' f' j).isSome=true) /\ sIf (Xm ?e) (Zx (Wf (λsl=>bnd (?D sl) YF) (tgN 6) (Um c)) (Xn (fC .non) ?d ?H)) Yr (slW ns (some (ZH qG qE size)) (some (.lst (qF.map Yw))) (some (.o 0)) (some (.bl b4)) (some (.bl b5)) x6 none) [.lst (f.map ZK)]=(.nx,slW ns (some (ZH qG qE size)) (some (.lst (qF.map Yw))) (some (.o 0)) (some (.bl b4)) (some (.bl b5)) qa none)\[.lst (f'.map ZK)]:=by
 have tr:Xm ?e (slW ns (some (ZH qG qE size)) (some (.lst (qF.map Yw))) (some (.o 0)) (some (.bl b4)) (some (.bl b5)) x6 none) [.lst (f.map ZK)]=b4\[.lst (f.map ZK)]:=Y3 (Zb rfl);cases b4 with
 |false=>exact⟨f,x6,hf,hs,h3,(λz=>(nomatch z)),ZM tr⟩
 |true=>
  have h7:=h4 rfl
  obtain⟨y,a2⟩:=ES (o:=3) (B:=Um c) (f:=f) (sl:=slW ns (some (ZH qG qE size)) (some (.lst (qF.map Yw))) (some (.o 0)) (some (.bl true)) (some (.bl b5)) none none) .(2) .(0) (λm om ws h hl=>by
   subst h;exact LF (om:=[.lst ws]) (h:=0) (ws:=ws) (Wa (q:=2) (a:=(m:Int)) (Zb rfl) .(1)) (Zb rfl) (LA (q:=3) (Zb rfl)<|(by rw[show(3:Int)+(m:Int)=((3+m:Nat):Int) by omega])) rfl hl) x6
  have a3:=LF (sl:=slW ns (some (ZH qG qE size)) (some (.lst (qF.map Yw))) (some (.o 0)) (some (.bl true)) (some (.bl b5)) y none) (om:=[.lst ((RM 3 f 3).map ZK)]) (h:=0) (k:=6) (ws:=(RM 3 f 3).map ZK) (w:=.non) (fv:=fC .non) (fo:=Za 3) (fi:=fC (.int 6)) Zp (Zb rfl) Zp rfl (by rw[aB,OK];omega)
  have e:((RM 3 f 3).map ZK).set 6 .non=(tF f).map ZK:=by
   show _=(((RM 3 f 3)).set 6 none).map ZK;rw[f6];rfl
  rw[e]at a3;have at6:=tF_at (f:=f) .(0);refine⟨tF f,y,by simp[tF,hf],λk s h=>?_,λhb j hj=>?_,λ_ j qC h6=>?_,Z9 tr<|(Zh a2).trans a3⟩
  ·rw[at6]at h
   split at h
   ·cases h
   ·split at h
    ·cases h;omega
    ·split at h
     ·cases h;omega
     ·split at h
      ·cases h;omega
      ·exact hs k s h
  ·rw[at6,aD .(0),aD .(0),aD .(0),aD .(0)]
   exact h3 hb j hj
  ·rw[at6,aD .(0)]
   split
   ·rfl
   ·split
    ·rfl
    ·rw[aC .(0)];rfl
end
def puT{sl:Sl}{fv:FE}{t:iW}{k:Nat}{o:Option Od}{s:iR}(hv:fv sl [.lst s,.lst (t.map odW)]=(odW o)\[.lst s,.lst (t.map odW)])(h7:sl[7]?=↑(.o 1))(hk:k<t.length):Xn fv ?h (fC (.int (k:Nat))) sl [.lst s,.lst (t.map odW)]=(.nx,sl)\[.lst s,.lst ((t.set k o).map odW)]:=by
 have:=LF (om:=[.lst s,.lst (t.map odW)]) (h:=1) (k:=k) (ws:=t.map odW) (fo:=Za 7) (fi:=fC (.int (k:Nat))) hv (Zb h7) Zp rfl (by rw[aB];exact hk);rw[this,f6];rfl
section
variable(c:CA){ns:iK}{qG qE size:Nat}
def tmove{sl:Sl}{om:iV}(g:Nat):fA YU #[fC (.str "move"),fC (.int (g:Nat))] sl om=(odW (some (.move g)))\om:=ZB (Ze Zp (Ze Zp Zj))<|YX .(2)
def thelp{sl:Sl}{om:iV}(h g:Nat):fA YU #[fC (.str "help"),fC (.int (h:Nat)),fC (.int (g:Nat))] sl om=(odW (some (.help h g)))\om:=ZB (Ze Zp (Ze Zp (Ze Zp Zj)))<|YX .(2)
def Ca{sl:Sl}{om:iV}:fA YU #[fC (.str "stand")] sl om=(odW (some .stand))\om:=ZB (Ze Zp Zj)<|YX .(2)
noncomputable abbrev Si (c:CA):=fA (kN 2 (Zq c)) #[?a,?G]
noncomputable abbrev RH (ns:iK) (qG:Nat) (qE:Nat) (size:Nat) (qF:Mx) (b4) (b5):=slW ns (some (ZH qG qE size)) (some (.lst (qF.map Yw))) (some (.o 0)) (some (.bl b4)) (some (.bl b5))
noncomputable abbrev U0 (ns:iK) (qG:Nat):=(some (.lst ((TY ns qG).map Yw)):Option Wv)
def Dg(ns:iK):∃(qG qE size:Nat) (qF:Mx) (f:iF) (qD:iW),2<=qG/\qG<=7/\qE+qG<=size/\size<=60/\Lk qG qF/\f.length=qG/\(∀k s,at' f k=some s->0<=s/\s<=7)/\Givn qF f qD/\Vg c [Yj ns] []=(.tup [ZH qG qE size,.lst (qF.map Yw),.o 0,.o 1])\[.lst (f.map ZK),.lst (qD.map odW)]:=by
 have ja:=ZT;obtain⟨m0,o0,z0,p1,p2,p3,p4,p5,ef⟩:=Ce c ns;generalize hw:ns.getD 24 0=w;have cl:∀(sl:Sl) (om:iV),sl[0]?=↑(Yj ns)->fA (kN 2 (Zq c)) #[?a,?G] sl om=(.int w)\om:=λsl om h=>cell24 c h<|(by rw[hw])
 have s1:ZC 1 (fA (kN 1 (W9 c)) #[?a]) (slW ns none none none none none none none) []=(.nx,slW ns (some (ZH m0 o0 z0)) none none none none none none)\[]:=Zt (i:=1) (ZB (Ze (Zb rfl) Zj)<|(Yz rfl).trans (ef []))
 obtain⟨qG,qE,size,q1,q2,q3,q4,q7,s2⟩:∃qG qE size:Nat,2<=qG/\qG<=7/\qE+qG<=size/\size<=60/\(w % 4=1->qG=7)/\sIf (fB (f2 kEq (f2 YI (Si c) ?E) ?B)) (ZC 1 (fA YU #[?F,fA JY #[f2 kIx ?b ?B,?J],fA KL #[f2 kIx ?b ?C,?F]])) Yr (slW ns (some (ZH m0 o0 z0)) none none none none none none) []=(.nx,slW ns (some (ZH qG qE size)) none none none none none none)\[]:=by
  have t:fB (f2 kEq (f2 YI (Si c) ?E) ?B) (slW ns (some (ZH m0 o0 z0)) none none none none none none) []=(decide (w % 4=1))\[]:=N2 (Wa (cl _ _ rfl) .(1));by_cases h:w % 4=1
  ·rw[bG h]at t
   have i1:f2 kIx ?b ?B (slW ns (some (ZH m0 o0 z0)) none none none none none none) []=(.int (o0:Nat))\[]:=Zr (Zb rfl) Zp<|ZP (k:=1) rfl rfl;have i2:f2 kIx ?b ?C (slW ns (some (ZH m0 o0 z0)) none none none none none none) []=(.int (z0:Nat))\[]:=Zr (Zb rfl) Zp<|ZP (k:=2) rfl rfl
   have e1:fA JY #[f2 kIx ?b ?B,?J] (slW ns (some (ZH m0 o0 z0)) none none none none none none) []=(.int (min o0 53:Nat))\[]:=(ZB (Ze i1 (Ze Zp Zj))).trans (by
    show some (Except.ok (Wv.int (if (53:Int)<(o0:Int) then 53 else (o0:Int))),[])=_;rw[show(if (53:Int)<(o0:Int) then 53 else (o0:Int))=((min o0 53:Nat):Int) by split <;> omega])
   have e2:fA KL #[f2 kIx ?b ?C,?F] (slW ns (some (ZH m0 o0 z0)) none none none none none none) []=(.int (max z0 7:Nat))\[]:=(ZB (Ze i2 (Ze Zp Zj))).trans (by
    show some (Except.ok (Wv.int (if (7:Int) > (z0:Int) then 7 else (z0:Int))),[])=_;rw[show(if (7:Int) > (z0:Int) then 7 else (z0:Int))=((max z0 7:Nat):Int) by split <;> omega])
   exact⟨7,min o0 53,max z0 7,.(0),.(0),.(0),.(0),λ_=>rfl,Z9 t<|Zt (i:=1) (ZB (Ze Zp (Ze e1 (Ze e2 Zj)))<|YX .(2))⟩
  ·rw[aG h]at t
   exact⟨m0,o0,z0,p1,p2,p3,p4,λz=>absurd z h,ZM t⟩
 have s3:ZC 2 (fA (kN 2 (WN c)) #[?a,f2 kIx ?b ?A]) (slW ns (some (ZH qG qE size)) none none none none none none) []=(.nx,slW ns (some (ZH qG qE size)) (U0 ns qG) none none none none none)\[]:=Zt (i:=2) (ZB (Ze (Zb rfl) (Ze (Zr (Zb rfl) Zp<|ZP (k:=0) (v:=.int qG) rfl rfl) Zj))<|(Yz rfl).trans (ET c ns .(0) []));have s4:ZC 3 (fA (kN 2 (Vc c)) #[?a,f2 kIx ?b ?A]) (slW ns (some (ZH qG qE size)) (U0 ns qG) none none none none none) []=(.nx,slW ns (some (ZH qG qE size)) (U0 ns qG) (some (.o 0)) none none none none)\[.lst ((YK ns qG).map ZK)]:=Zt (i:=3) (ZB (Ze (Zb rfl) (Ze (Zr (Zb rfl) Zp<|ZP (k:=0) (v:=.int qG) rfl rfl) Zj))<|(Yz rfl).trans (DG c ns .(0) []));generalize hb4:decide (w % 4=1)=b4;generalize hb5:(decide ((qG:Int) > 3)&&decide (w % 2=1))=b5
 have s5:ZC 4 (f2 kEq (f2 YI (Si c) ?E) ?B) (slW ns (some (ZH qG qE size)) (U0 ns qG) (some (.o 0)) none none none none) [.lst ((YK ns qG).map ZK)]=(.nx,slW ns (some (ZH qG qE size)) (U0 ns qG) (some (.o 0)) (some (.bl b4)) none none none)\[.lst ((YK ns qG).map ZK)]:=by
  rw[← hb4];exact Zt (i:=4) (Zr (Wa (cl _ _ rfl) .(1)) Zp<|XM _ 1 _)
 have s6:ZC 5 (UE (f2 kGt (f2 kIx ?b ?A) ?D) (f2 kEq (f2 YI (Si c) ?C) ?B)) (slW ns (some (ZH qG qE size)) (U0 ns qG) (some (.o 0)) (some (.bl b4)) none none none) [.lst ((YK ns qG).map ZK)]=(.nx,slW ns (some (ZH qG qE size)) (U0 ns qG) (some (.o 0)) (some (.bl b4)) (some (.bl b5)) none none)\[.lst ((YK ns qG).map ZK)]:=by
  rw[← hb5];exact Zt (i:=5) (Pr (Zr (Zr (Zb rfl) Zp<|ZP (k:=0) (v:=.int qG) rfl rfl) Zp<|rfl) λ_=>Zr (Wa (cl _ _ rfl) .(1)) Zp<|XM _ 1 _)
 have h5:b5=true->3<qG:=λz=>by rw[← hb5,bW,bY]at z;omega
 have h4:b4=true->qG=7:=λz=>q7 (by rw[← hb4]at z;exact bC z)
 have h45:b4=true->b5=true:=λz=>by
  have z':=h4 z;rw[← hb4,bY]at z;rw[← hb5,bW,bY,bY];omega
 obtain⟨qF,f1,x6,L,qd,qe,n4,s7⟩:=AI c (ns:=ns) (qE:=qE) (size:=size) (b4:=b4) (qF:=TY ns qG) (f:=YK ns qG) h5 q2 (Oa ns qG) (QO ns qG) (λk s h=>by
  unfold at' at h;rw[aT]at h;unfold YK at h;rw[bB]at h;by_cases hk:k<qG
  ·rw[dm hk]at h;exact F7 h
  ·rw[bP .(6)]at h;cases h)
 obtain⟨f,y6,fl,fs,fp,ft,s8⟩:=Bo c (ns:=ns) (qE:=qE) (size:=size) (qF:=qF) (x6:=x6) h4 qd qe (λz=>(n4 z).2);have s9:ZC 7 (fA (kN 3 (Wp c)) #[?a,?c,?d]) (RH ns qG qE size qF b4 b5 y6 none) [.lst (f.map ZK)]=(.nx,slW ns (some (ZH qG qE size)) (some (.lst (qF.map Yw))) (some (.o 0)) (some (.bl b4)) (some (.bl b5)) y6 (some (.o 1)))\[.lst (f.map ZK),.lst ((VG 10 ns qF f).map odW)]:=Zt (i:=7) (ZB (Ze (Zb rfl) (Ze (Zb rfl) (Ze (Zb rfl) Zj)))<|(Yz rfl).trans (Iz c ns (by rw[fl];exact L) .(0) [.lst (f.map ZK)] (sw:=.o 0) rfl));have G0:Givn qF f (VG 10 ns qF f):=Fs 10 ns (by rw[fl];exact L) .(0);generalize VG 10 ns qF f=t0 at s9 G0;have tl:=G0.len
 obtain⟨t1,G1,kK⟩:∃t1,Givn qF f t1/\sIf (Xm ?f) (Zx (Xn (fA YU #[fC (.str "move"),?B]) ?h ?A) (Zx (Xn (fA YU #[fC (.str "help"),?A,?B]) ?h ?C) (sIf (fB (f2 kGt (f2 YI (f2 Ue (Si c) ?E) ?D) ?A)) (Xn (fA YU #[fC (.str "stand")]) ?h ?B) Yr))) Yr (RH ns qG qE size qF b4 b5 y6 (some (.o 1))) [.lst (f.map ZK),.lst (t0.map odW)]=(.nx,slW ns (some (ZH qG qE size)) (some (.lst (qF.map Yw))) (some (.o 0)) (some (.bl b4)) (some (.bl b5)) y6 (some (.o 1)))\[.lst (f.map ZK),.lst (t1.map odW)]:=by
  have tr:∀om,Xm ?f (RH ns qG qE size qF b4 b5 y6 (some (.o 1))) om=b5\om:=λom=>Y3 (Zb rfl)
  cases b5 with
  |false=>exact⟨t0,G0,ZM (tr _)⟩
  |true=>
   have h3:=h5 rfl;obtain⟨rfl,_⟩:=n4 rfl;refine⟨pT (decide (w / 4 % 3 > 0)) t0,pT_ok G0 fl h3 (fp rfl) _,Z9 (tr _)<|(Zh (puT (k:=0) (tmove 1) rfl .(0))).trans ((Zh (puT (k:=2) (thelp 0 1) rfl (by rw[dh];omega))).trans ?_)⟩;have g:∀om,fB (f2 kGt (f2 YI (f2 Ue (Si c) ?E) ?D) ?A) (slW ns (some (ZH qG qE size)) (some (.lst ((Ti qG).map Yw))) (some (.o 0)) (some (.bl b4)) (some (.bl true)) y6 (some (.o 1))) om=(decide (w / 4 % 3 > 0))\om:=λom=>ZQ (Zr (Wa (Tx (cl _ _ rfl) .(1)) .(1)) Zp<|rfl)
   generalize decide (w / 4 % 3 > 0)=b at g;cases b with
   |false=>exact ZM (g _)
   |true=>exact Z9 (g _)<|puT (k:=1) Ca rfl (by rw[dh,dh];omega)
 have tl1:=G1.len
 obtain⟨t2,G2,s11⟩:∃t2,Givn qF f t2/\sIf (Xm ?e) (Zx (Xn (fA YU #[fC (.str "move"),?E]) ?h ?D) (Zx (Xn (fA YU #[fC (.str "stand")]) ?h ?E) (Xn (fA YU #[fC (.str "help"),?D,?E]) ?h ?I))) Yr (RH ns qG qE size qF b4 b5 y6 (some (.o 1))) [.lst (f.map ZK),.lst (t1.map odW)]=(.nx,slW ns (some (ZH qG qE size)) (some (.lst (qF.map Yw))) (some (.o 0)) (some (.bl b4)) (some (.bl b5)) y6 (some (.o 1)))\[.lst (f.map ZK),.lst (t2.map odW)]:=by
  have tr:∀om,Xm ?e (RH ns qG qE size qF b4 b5 y6 (some (.o 1))) om=b4\om:=λom=>Y3 (Zb rfl)
  cases b4 with
  |false=>exact⟨t1,G1,ZM (tr _)⟩
  |true=>
   have h7:=h4 rfl;obtain⟨rfl,_⟩:=n4 (h45 rfl);exact⟨tT t1,tT_ok G1 fl .(0) (ft rfl),Z9 (tr _)<|(Zh (puT (k:=3) (tmove 4) rfl .(0))).trans (Zh (puT (k:=4) Ca rfl (by rw[dh];omega))<|puT (k:=5) (thelp 3 4) rfl (by rw[dh,dh];omega))⟩
 exact⟨qG,qE,size,qF,f,t2,q1,q2,q3,q4,L,fl,fs,G2,ZD (Zh s1<|(Zh s2).trans (Zh s3<|(Zh s4).trans (Zh s5<|(Zh s6).trans (Zh s7<|(Zh s8).trans (Zh s9<|(Zh kK).trans (Zh s11<|Zw (ZB (Ze (Zb rfl) (Ze (Zb rfl) (Ze (Zb rfl) (Ze (Zb rfl) Zj))))<|YX .(2))))))))⟩
end
def gO(qD:iW)(k:Nat):Nat:=match at' qD k with
 |some (.move g)=>g
 |_=>0
section
variable{qF:Mx}{f:iF}{qD:iW}
def C3(hf:f.length<=60){k:Nat}(h:k∈US qD f 100 (mvL qD f)):Yo qD f (US qD f 100 (mvL qD f)) k=0:=by
 have hl:=V8 qD f;have e:=NM qD f 100 (mvL qD f) .(0);unfold fallen at e;rw[List.filter_eq_nil_iff]at e;have:=e k h;simpa using this
def Al(hf:f.length<=60){k g:Nat}(h:k∈US qD f 100 (mvL qD f))(e:at' qD k=some (.move g)):JZ qD f k g=false:=by
 have z:=C3 hf h;unfold Yo at z;rw[e]at z;dsimp only at z;cases o:JZ qD f k g with
 |false=>rfl
 |true=>
  have:Tc qD f k g=1:=by unfold Tc;rw[o];rfl
  rw[this]at z;simp at z
def BX(hf:f.length<=60){i j g:Nat}(hi:i∈US qD f 100 (mvL qD f))(hj:j∈US qD f 100 (mvL qD f))(ei:at' qD i=some (.move g))(ej:at' qD j=some (.move g)):i=j:=by
 have sub:=Im qD f 100 (mvL qD f)
 have one:∀{a b:Nat},a∈US qD f 100 (mvL qD f)->b∈US qD f 100 (mvL qD f)->at' qD a=some (.move g)->at' qD b=some (.move g)->a≠b->¬ fN qD f a<=fN qD f b:=λ{a b} ha hb ea eb jQ hle=>by
  have o:=Al hf ha ea;unfold JZ at o;rw[fO]at o;exact o b (aQ.mpr ⟨sub.subset hb,by rw[bG eb,aG λz=>jQ z.symm];rfl⟩) (bG hle)
 by_cases h:i=j
 ·exact h
 ·have a:=one hi hj ei ej h
  have b:=one hj hi ej ei λz=>h z.symm
  omega
def CF{k:Nat}(h:k∈mvL qD f):at' qD k=some (.move (gO qD k)):=by
 obtain⟨_,g,e⟩:=Ua.mp h;unfold gO;rw[e]
end
open PySem L2 Tb
def Yu(om l:iV)(i:Nat):(om++l)[om.length+i]?=l[i]?:=by rw[bK .(0),eJ]
def Rk(om l:iV)(i:Nat)(x:Ob):(om++l).set (om.length+i) x=om++l.set i x:=by rw[cx _ _ .(0),eJ]
def VB{om l:iV}{i:Nat}{x:Ob}(h:om[i]?=some x):(om++l)[i]?=some x:=by rw[aZ (aJ.mp h).1,h]
section
variable{sl:Sl}{om qH:iV}{us:iG}{fv fd fk fo:FE}{h:Nat}{a s:Int}
def IS{C:qJ}{n:Str}{fs:iS}{v:Wv}(hv:fv sl om=v\qH)(ho:fo sl qH=(.o h)\qH)(hi:qH[h]?=some (.ins C fs))(hl:fs.length<900):Xs C n fv fo sl om=(.nx,sl)\qH.set h (.ins C (Wm n v fs)):=by
 unfold Xs;rw[Zm hv,Zm ho];refine Zm (a:=()) (qH:=qH.set h (.ins C (Wm n v fs))) ?_<|rfl;simp[N7,hi,hl]
def Ps(hv:fv sl om=(.int s)\om)(hd:fd sl om=(.o h)\om)(hk:fk sl om=(.int a)\om)(hx:om[h]?=some (.dk (ZE us)))(hn:us.lookup a=none)(hl:us.length<=60):YW fv fd fk sl om=(.nx,sl)\om.set h (.dk (ZE (us++[(a,s)]))):=by
 have ja:=ZT;have iZ:us.length<lim:=by omega
 unfold YW;rw[Zm hv,Zm hd,Zm hk];refine Zm (a:=()) (qH:=om.set h (.dk (ZE (us++[(a,s)])))) ?_<|rfl;simp[Om,Ng,hx,Y6,NE,iZ,HE s hn]
def Tj(hx:om[h]?=some (.dk (ZE us)))(neg:Bool):Wz neg (.int a) (.o h) om=(.bl (if neg then !(us.lookup a).isSome else (us.lookup a).isSome))\om:=by
 simp[Wz,WB,hx,Y6,Sg]
def RD(hx:om[h]?=some (.dk (ZE us)))(e:us.lookup a=some s):X9 (.o h) (.int a) om=(.int s)\om:=by
 simp[X9,WB,hx,Y6,Sg,e]
def PN{k:iR->Mw Wv}{n:Nat}{js:iL}{fi:FI}{c:FT}{f:FE}{ws us:iR}(h:fi sl om=ws\om)(hl:ws.length<=lim)(ht:ws.all (Ek n)=true)(hc:Xk c f (λw=>VV js w sl) ws om=us\om):Xy k n js fi c f sl om=k us om:=by
 unfold Xy;rw[Zm h];refine(Zm (a:=()) (qH:=om) (Lo ?_)).trans ?_
 ·rw[bG hl,ht];rfl
 ·exact Zm hc
end
def Qd{us:iG}{k:Int}(h:∀s,(k,s) ∉ us):us.lookup k=none:=by
 cases e:us.lookup k with
 |none=>rfl
 |some s=>exact absurd (Wy e) (h s)
abbrev goP(qE:Nat)(g:Nat->Nat)(F:iL):iG:=F.map λ(k:Nat)=>((qE:Int)+k,(qE:Int)+g k)
abbrev coP(qE:Nat)(g:Nat->Nat)(F:iL):iG:=F.map λ(k:Nat)=>((qE:Int)+g k,(qE:Int)+k)
abbrev sN(f:iF)(k:Nat):Int:=(at' f k).getD 0
abbrev unP(qE:Nat)(f:iF)(l:iL):iG:=l.map λ(k:Nat)=>((qE:Int)+k,sN f k)
abbrev gnP(qE:Nat)(f:iF)(g:Nat->Nat)(l:iL):iG:=l.map λ(k:Nat)=>((qE:Int)+g k,sN f k)
def Ge(qE a b:Nat):((qE:Int)+a == (qE:Int)+b)=decide (a=b):=by
 by_cases h:a=b
 ·subst h;simp
 ·rw[aG h,aU];omega
def NL(qE:Nat)(v:Nat->Int)(x:Nat):∀F:iL,(F.map λ(k:Nat)=>((qE:Int)+k,v k)).lookup ((qE:Int)+x)=if F.contains x=true then some (v x) else none
 |[]=>rfl
 |k::F=>by
  rw[aS,aH,Ge,dP];by_cases e:x=k
  ·subst e;simp
  ·rw[aG e,aU.mpr e,fQ]
   exact NL qE v x F
def Dr(qE:Nat)(g:Nat->Nat)(v:Nat->Int)(x:Nat):∀F:iL,((F.map λ(k:Nat)=>((qE:Int)+g k,v k)).lookup ((qE:Int)+x)).isSome=(F.map g).contains x
 |[]=>rfl
 |k::F=>by
  rw[aS,aH,Ge,aS,dP];by_cases e:x=g k
  ·subst e;simp
  ·rw[aG e,aU.mpr e,fQ]
   exact Dr qE g v x F
structure Trn(qE:Nat)(f:iF)(qD:iW)(g:Nat->Nat)(F:iL):Prop where
 fin:US qD f 100 (mvL qD f)=F
 mv:∀k∈mvL qD f,at' qD k=some (.move (g k))
 sub:∀k∈F,k∈mvL qD f
 nd:F.Nodup
 inj:∀i∈F,∀j∈F,g i=g j->i=j
 few:(mvL qD f).length<=30
 gap:(YH [] ((mvL qD f).map λ(k:Nat)=>(qE:Int)+g k)).length / 4<=(YH [] (F.map λ(k:Nat)=>(qE:Int)+g k)).length\/F=[]
abbrev tn1(a:Wv):iS:=[("goals",a)]
abbrev tn2(a b:Wv):iS:=[("goals",a),("comers",b)]
abbrev tn3(a b d:Wv):iS:=[("goals",a),("comers",b),("pushed",d)]
abbrev tn4(a b d e:Wv):iS:=[("goals",a),("comers",b),("pushed",d),("closed",e)]
abbrev tn5(a b d e g:Wv):iS:=[("goals",a),("comers",b),("pushed",d),("closed",e),("board",g)]
def pf2(a b:Wv):Wm (Str.ofString "comers") b (tn1 a)=tn2 a b:=by simp[Wm,WJ]
def pf3(a b d:Wv):Wm (Str.ofString "pushed") d (tn2 a b)=tn3 a b d:=by simp[Wm,WJ]
def pf4(a b d e:Wv):Wm (Str.ofString "closed") e (tn3 a b d)=tn4 a b d e:=by simp[Wm,WJ]
def pf5(a b d e g:Wv):Wm (Str.ofString "board") g (tn4 a b d e)=tn5 a b d e g:=by simp[Wm,WJ]
def lg(a:Wv)(r:iS):List.lookup (Str.ofString "goals") ((Str.ofString "goals",a)::r)=some a:=by simp[aH,YQ]
def lc(a b:Wv)(r:iS):List.lookup (Str.ofString "comers") ((Str.ofString "goals",a)::(Str.ofString "comers",b)::r)=some b:=by simp[aH,YQ]
def lp(a b d:Wv)(r:iS):List.lookup (Str.ofString "pushed") ((Str.ofString "goals",a)::(Str.ofString "comers",b)::(Str.ofString "pushed",d)::r)=some d:=by simp[aH,YQ]
section
variable{c:CA}{om:iV}{ho hb hm hu hl hg size qE:Nat}{f:iF}{kvs:iT}{gs:Gs}{qF:Mx}{qD:iW}{g:Nat->Nat}{F:iL}
def D2(A:Sit c om ho hb hm hu hl hg size qE f kvs gs qF qD){k gg:Nat}(e:at' qD k=some (.move gg)){sl:Sl}{i j:Nat}(s0:sl[i]?=↑(.o ho))(s1:sl[j]?=↑(.int ((qE:Int)+k))):Zn c.Orders "goal_of" 2 (Zo c) (Za i) #[Za j] sl om=(.int ((qE:Int)+gg))\om:=Qg A e s0 s1
def Mg(qE:Nat)(f:iF)(l:iL):(unP qE f l).map prW=l.map λ(k:Nat)=>prW ((qE:Int)+k,sN f k):=by rw[unP,bA];rfl
def gnP_W(qE:Nat)(f:iF)(g:Nat->Nat)(l:iL):(gnP qE f g l).map prW=l.map λ(k:Nat)=>prW ((qE:Int)+g k,sN f k):=by rw[gnP,bA];rfl
def D6(A:Sit c om ho hb hm hu hl hg size qE f kvs gs qF qD){sl:Sl}{fo:FE}(h:fo sl om=(.o hb)\om):(λsl=>bnd ((Zn c.Board "roll" 1 (ZJ c) fo Zi) sl) ZO) sl om=((unP qE f (ZY f f.length)).map prW)\om:=by
 refine(Zm (Zv h (Zu A.W.b) (Z1 _ _ _ .(1) .(1)) Zj rfl<|Iu A.W)).trans ?_;rw[Mg];rfl
def Rb{k:Nat}(h:k∈ZY f f.length):k<f.length/\at' f k=some (sN f k):=by
 obtain⟨h1,h2⟩:=aQ.mp h;obtain⟨s,e⟩:=aO.mp h2;exact⟨bR.mp h1,by unfold sN;rw[e];rfl⟩
def VN(f:iF):(ZY f f.length).Nodup:=fS.sublist bZ
def Lr(l:iG):(l.map prW).all (Ek 2)=true:=by
 rw[cS];intro w hw;obtain⟨x,_,rfl⟩:=aY.mp hw;rfl
abbrev Qb(f:iF)(F:iL):iL:=(ZY f f.length).filter λx=>F.contains x
abbrev kept(f:iF)(g:Nat->Nat)(F:iL):iL:=(ZY f f.length).filter λx=>!F.contains x&&!(F.map g).contains x
abbrev push(f:iF)(g:Nat->Nat)(F:iL):iL:=(ZY f f.length).filter λx=>(F.map g).contains x&&!F.contains x
def TJ(f:iF)(g:Nat->Nat)(F:iL):(Qb f F).length+(kept f g F).length<=(ZY f f.length).length:=by
 unfold Qb kept
 induction ZY f f.length with
 |nil=>simp
 |cons x l ih=>
  rw[cN,cN];cases F.contains x
  ·cases (F.map g).contains x <;> simp at ih ⊢ <;> omega
  ·simp at ih ⊢;omega
def SZ:∀{l m:iL},l.Nodup->(∀x∈l,x∈m)->l.length<=m.length
 |[],_,_,_=>cF _
 |x::l,m,nd,h=>by
  have hx:=h x (.head _);have nd:=cL.mp nd;have:=SZ (l:=l) (m:=m.erase x) nd.2 λy hy=>(List.mem_erase_of_ne λz:y=x=>nd.1 (z ▸ hy)).mpr (h y (.tail _ hy))
  have e:=List.length_erase_of_mem hx;have p:0<m.length:=List.length_pos_of_mem hx;show l.length+1<=m.length;omega
noncomputable abbrev Hl (hb:Nat) (hG) (hC) (qE:Nat) (f:iF) (g:Nat->Nat) (F:iL):=([some (.o hb),some (.o hG),some (.o hC),some (.lst ((gnP qE f g (Qb f F)).map prW)),none]:Sl)
noncomputable abbrev MR (qE:Nat) (f:iF) (g:Nat->Nat) (F:iL):=gnP qE f g (Qb f F)++unP qE f (kept f g F)
def OI(A:Sit c om ho hb hm hu hl hg size qE f kvs gs qF qD){hG hC:Nat}(e1:om[hG]?=some (.dk (ZE (goP qE g F))))(e2:om[hC]?=some (.dk (ZE (coP qE g F)))):WG c [.o hb,.o hG,.o hC] om=(.lst ((MR qE f g F).map prW))\om:=by
 have ja:=ZT;have jC:=A.few;have hu:=X7 f f.length;have l1:(Qb f F).length<=(ZY f f.length).length:=aI _ _;have l2:(kept f g F).length<=(ZY f f.length).length:=aI _ _
 have i1:∀(x:Nat) (neg:Bool),Wz neg (.int ((qE:Int)+x)) (.o hG) om=(.bl (if neg then !F.contains x else F.contains x))\om:=λx neg=>by
  rw[Tj e1,NL];cases F.contains x <;> cases neg <;> rfl
 have i2:∀(x:Nat) (neg:Bool),Wz neg (.int ((qE:Int)+x)) (.o hC) om=(.bl (if neg then !(F.map g).contains x else (F.map g).contains x))\om:=λx neg=>by
  rw[Tj e2,Dr]
 have a1:ZC 3 (Xy ZL 2 [1] (λsl=>bnd ((Zn c.Board "roll" 1 (ZJ c) ?a Zi) sl) ZO) (VO c) (VJ c)) [some (.o hb),some (.o hG),some (.o hC),none,none] om=(.nx,(Hl hb hG hC qE f g F))\om:=by
  have cm:=Yi (cT:=VO c) (f:=VJ c) (mk:=λw=>VV [1] w [some (.o hb),some (.o hG),some (.o hC),none,none]) (om:=om) (λ(k:Nat)=>prW ((qE:Int)+k,sN f k)) (λk=>F.contains k) (λk=>prW ((qE:Int)+g k,sN f k)) (l:=ZY f f.length) (λk hk=>ZQ (v2 rfl rfl<|i1 k false)) (λk hk hc=>ZB (Ze (v2 rfl rfl<|RD e1 (by rw[NL,aC hc])) (Ze (Zb rfl) Zj))<|YX .(2));refine Zt (i:=3) (PN (ws:=(unP qE f (ZY f f.length)).map prW) (D6 A (Zb rfl)) .(4) (Lr _) (us:=(gnP qE f g (Qb f F)).map prW) ?_<|Z2 .(4));rw[← Mg qE f (ZY f f.length),← gnP_W qE f g (Qb f F)]at cm;exact cm
 have a2:ZC 4 (Xy ZL 2 [1,2] (λsl=>bnd ((Zn c.Board "roll" 1 (ZJ c) ?a Zi) sl) ZO) (VM c) (Vt c)) (Hl hb hG hC qE f g F) om=(.nx,[some (.o hb),some (.o hG),some (.o hC),some (.lst ((gnP qE f g (Qb f F)).map prW)),some (.lst ((unP qE f (kept f g F)).map prW))])\om:=by
  have cm:=Yi (cT:=VM c) (f:=Vt c) (mk:=λw=>VV [1,2] w (Hl hb hG hC qE f g F)) (om:=om) (λ(k:Nat)=>prW ((qE:Int)+k,sN f k)) (λx=>!F.contains x&&!(F.map g).contains x) (λk=>prW ((qE:Int)+k,sN f k)) (l:=ZY f f.length) (λk hk=>Up (ZQ (v2 rfl rfl<|i1 k true)) λ_=>ZQ (v2 rfl rfl<|i2 k true)) (λk hk hc=>ZB (Ze (Zb rfl) (Ze (Zb rfl) Zj))<|YX .(2));refine Zt (i:=4) (PN (ws:=(unP qE f (ZY f f.length)).map prW) (D6 A (Zb rfl)) .(4) (Lr _) (us:=(unP qE f (kept f g F)).map prW) ?_<|Z2 .(4));rw[← Mg qE f (ZY f f.length),← Mg qE f (kept f g F)]at cm;exact cm
 refine ZD (Zh a1<|(Zh a2).trans (Zw ((v2 rfl rfl).trans ?_)));unfold Nq;dsimp only;rw[aC .(4),bX]
def Me{om:iV}{hm hl:Nat}{us:iG}(h2:om[hm]?=some (YT c (size:Nat) hl))(nd:(us.map (·.1)).Nodup)(hr:∀x∈us,(0<=x.1/\x.1<(size:Nat))/\0<=x.2/\x.2<=7)(n5:us.length<=60):Xb c [.o hm,.lst (us.map prW)] om=(.o om.length)\(om++[YM c hm (om.length+1),.dk (ZE us)]):=by
 have ja:=ZT;have a1:ZC 2 (fA (XS c.Board 2 (Xh c)) #[?a]) [some (.o hm),some (.lst (us.map prW)),none,none,none] om=(.nx,[some (.o hm),some (.lst (us.map prW)),some (.o om.length),none,none])\(om++[YM c hm (om.length+1),.dk (ZE [])]):=Zt (i:=2) (ZB (Ze (Zb rfl) Zj)<|Q1 (c:=c) om hm)
 obtain⟨jc,iu,a2,x3,x4,rfl,rfl⟩:=XY (T:=Sk [3,4]) (S:=U9 c) prW (λpre sl iu=>∃x3 x4,sl=[some (.o hm),some (.lst (us.map prW)),some (.o om.length),x3,x4]/\iu=om++[YM c hm (om.length+1),.dk (ZE pre)]) us [] (sl:=[some (.o hm),some (.lst (us.map prW)),some (.o om.length),none,none]) (om:=om++[YM c hm (om.length+1),.dk (ZE [])]) (λpre x post hq sl iu ⟨x3,x4,h1,jB⟩=>by
  subst h1 jB;have hq:us=pre++x::post:=hq;have hx:=hr x (by rw[hq];simp);have hln:pre.length<=60:=by rw[hq,aV]at n5;omega
  have hn:pre.lookup x.1=none:=Qd λs hs=>by
   rw[hq,bX,aS]at nd;have:=(cq.mp nd).2.2 x.1 (aY.mpr ⟨_,hs,rfl⟩) x.1 (.head _);exact this rfl
  have e:=Gf (c:=c) (om:=om++[YM c hm (om.length+1),.dk (ZE pre)]) (hb:=om.length) (hm:=hm) (hu:=om.length+1) (hl:=hl) (size:=(size:Nat)) (us:=pre) (Yu om _ 0) (VB h2) (Yu om _ 1) (a:=x.1) (s:=x.2) hx.1 hx.2 hn .(0);rw[Rk]at e;refine⟨_,_,_,rfl,ZW (Zv (Zb rfl) (Zu (Yu om _ 0)) (Z1 _ _ _ .(1) .(1)) (Ze (Zb rfl) (Ze (Zb rfl) Zj)) rfl<|e),_,_,rfl,rfl⟩) ⟨none,none,rfl,rfl⟩
 exact ZD (Zh a1<|(Zh (YY (sl1:=[]) (Zm (Zb (i:=1) (w:=.lst (us.map prW)) rfl)<|rfl) a2)).trans (Zw (Zb rfl)))
end
def Ro(om l:iV)(x:Ob):(om++l).set om.length x=om++l.set 0 x:=Rk om l 0 x
def Du(om l:iV)(x:Ob)(sl:Sl):(λ(_:Sl)=>newO x) sl (om++l)=(.o (om.length+l.length))\(om++(l++[x])):=by
 show some (Except.ok (Wv.o (om++l).length),om++l++[x])=_;rw[aV,bT]
def P8{C:qJ}{n:Str}{fs:iS}(om l:iV)(sl:Sl)(h0:sl[0]?=↑(.o om.length))(hi:l[0]?=some (.ins C fs))(hl:fs.length<900):Xs C n (λ_=>newO (.dk [])) ?a sl (om++l)=(.nx,sl)\(om++(l++[Ob.dk []]).set 0 (.ins C (Wm n (.o (om.length+l.length)) fs))):=by
 have:=IS (n:=n) (fv:=λ_=>newO (.dk [])) (fo:=Za 0) (sl:=sl) (om:=om++l) (h:=om.length) (Du om l (.dk []) sl) (Zb h0) (Yu om (l++[.dk []]) 0<|VB hi) hl;rw[Ro]at this;exact this
def PU:∀us:iG,Sn (ZE us)=some (us.map (·.1))
 |[]=>rfl
 |x::us=>by
  have:=PU us;show(match Sn (ZE us) with|some ns=>some (x.1::ns)|none=>none)=_;rw[this];rfl
def HF(ns ks:iK):(sdL ns ks).length<=ns.length:=by
 unfold sdL;rw[(YD _).length_eq];refine bL (aI _ _) ?_;have:=XC ns [];simpa using this
def Fk{sl:Sl}{om:iV}{fa fb:FE}{ns:iK}{us:iG}{h:Nat}(ha:fa sl om=(.lst (ns.map Wv.int))\om)(hb:fb sl om=(.o h)\om)(hx:om[h]?=some (.dk (ZE us)))(h1:ns.length<31)(h2:us.length<31)(gap:(YH [] ns).length / 4<=(YH [] (us.map (·.1))).length\/us.map (·.1)=[]):Tt ZL fa fb sl om=(.lst ((sdL ns (us.map (·.1))).map Wv.int))\om:=by
 have hl:=HF ns (us.map (·.1));unfold Tt;rw[Zm ha];refine(Zm (a:=ns) (qH:=om) ?_).trans ?_
 ·simp[LD,VL,h1]
 rw[Zm hb];refine Zm (a:=(sdL ns (us.map (·.1))).map Wv.int) (qH:=om) ?_<|Z2 .(3);unfold RI;dsimp only;rw[hx];dsimp only;rw[PU];dsimp only;rw[aC ⟨by rw[aB];exact h2,gap⟩]
section
variable{c:CA}{om:iV}{ho hb hm hu hl hg size qE:Nat}{f:iF}{kvs:iT}{gs:Gs}{qF:Mx}{qD:iW}{g:Nat->Nat}{F:iL}
def Trn.lt(A:Sit c om ho hb hm hu hl hg size qE f kvs gs qF qD)(T:Trn qE f qD g F){k:Nat}(h:k∈mvL qD f):g k<f.length:=by
 have h1:=(Ua.mp h).1;have:=A.G.ok k h1;rw[T.mv k h]at this;exact this.2.1
def Ji(T:Trn qE f qD g F):((MR qE f g F).map (·.1)).Nodup:=by
 rw[bX,bA,bA,cq];refine⟨?_,?_,?_⟩
 ·refine cp.mpr (List.Pairwise.imp_of_mem (λ{a b} ha hb h e=>?_) ((VN f).sublist bZ))
  have ha:=bH.mp (aQ.mp ha).2;have hb:=bH.mp (aQ.mp hb).2;have e:(qE:Int)+g a=(qE:Int)+g b:=e;exact h (T.inj a ha b hb .(0))
 ·refine cp.mpr (((VN f).sublist bZ).imp λ{a b} h e=>?_)
  have e:(qE:Int)+a=(qE:Int)+b:=e;exact h .(0)
 ·intro a ha b hb e
  obtain⟨i,hi,rfl⟩:=aY.mp ha;obtain⟨j,hj,rfl⟩:=aY.mp hb;have e:(qE:Int)+g i=(qE:Int)+j:=e;have hi:=bH.mp (aQ.mp hi).2;have hj:=(aQ.mp hj).2;rw[bW,eO,eO]at hj;have:j∈F.map g:=aY.mpr ⟨i,hi,.(0)⟩;rw[bH.mpr this]at hj;exact nomatch hj.2
def Ks(A:Sit c om ho hb hm hu hl hg size qE f kvs gs qF qD)(T:Trn qE f qD g F):∀x∈gnP qE f g (Qb f F)++unP qE f (kept f g F),(0<=x.1/\x.1<(size:Nat))/\0<=x.2/\x.2<=7:=λx hx=>by
 have hfit:=A.W.fit;rcases dD.mp hx with hx|hx
 ·obtain⟨k,hk,rfl⟩:=aY.mp hx
  obtain⟨h1,h2⟩:=aQ.mp hk;have h3:=T.lt A (T.sub k (bH.mp h2));exact⟨⟨by show(0:Int)<=(qE:Int)+g k;omega,by show(qE:Int)+g k<_;omega⟩,A.s7 k _ (Rb h1).2⟩
 ·obtain⟨k,hk,rfl⟩:=aY.mp hx
  obtain⟨h1,h2⟩:=aQ.mp hk;have h3:=(Rb h1).1;exact⟨⟨by show(0:Int)<=(qE:Int)+k;omega,by show(qE:Int)+k<_;omega⟩,A.s7 k _ (Rb h1).2⟩
abbrev tOf(c:CA)(N:Nat)(cl:iK):Ob:=.ins c.Turn (tn5 (.o (N+1)) (.o (N+2)) (.o (N+3)) (.lst (cl.map Wv.int)) (.o (N+4)))
abbrev clL(qE:Nat)(qD:iW)(f:iF)(g:Nat->Nat)(F:iL):iK:=sdL ((mvL qD f).map λ(k:Nat)=>(qE:Int)+g k) (F.map λ(k:Nat)=>(qE:Int)+g k)
abbrev t2(c:CA)(om:iV)(a b:iG):iV:=om++[.ins c.Turn (tn2 (.o (om.length+1)) (.o (om.length+2))),.dk (ZE a),.dk (ZE b)]
abbrev t3(c:CA)(om:iV)(a b d:iG):iV:=om++[.ins c.Turn (tn3 (.o (om.length+1)) (.o (om.length+2)) (.o (om.length+3))),.dk (ZE a),.dk (ZE b),.dk (ZE d)]
abbrev sT(om:iV)(ho:Nat)(x y z:Option Wv):Sl:=[some (.o om.length),some (.o ho),x,y,z]
def turn_in(A:Sit c om ho hb hm hu hl hg size qE f kvs gs qF qD)(T:Trn qE f qD g F):XS c.Turn 2 (WT c) [.o ho] om=(.o om.length)\(om++[tOf c om.length (clL qE qD f g F),.dk (ZE (goP qE g F)),.dk (ZE (coP qE g F)),.dk (ZE (unP qE f (push f g F))),YM c hm (om.length+5),.dk (ZE (MR qE f g F))]):=by
 have ja:=ZT;have jC:=A.few;have hml:=V8 qD f;have hul:=X7 f f.length;have hmf:=T.few;have hFl:F.length<=30:=bL (SZ T.nd T.sub) hmf;have s1:Xs c.Turn "goals" (λ_=>newO (.dk [])) ?a (sT om ho none none none) (om++[.ins c.Turn []])=(.nx,(sT om ho none none none))\(om++[.ins c.Turn (tn1 (.o (om.length+1))),.dk []]):=P8 om [.ins c.Turn []] _ rfl rfl .(2)<|rfl;have s2:Xs c.Turn "comers" (λ_=>newO (.dk [])) ?a (sT om ho none none none) (om++[.ins c.Turn (tn1 (.o (om.length+1))),.dk []])=(.nx,(sT om ho none none none))\t2 c om (goP qE g []) (coP qE g []):=P8 om [.ins c.Turn (tn1 (.o (om.length+1))),.dk []] _ rfl rfl .(2)<|(by rw[pf2];rfl)
 have i3:(λsl=>bnd ((fA (kN 1 (Se c)) #[?b]) sl) ZO) (sT om ho none none none) (t2 c om (goP qE g []) (coP qE g []))=(F.map λ(k:Nat)=>Wv.int ((qE:Int)+k))\t2 c om (goP qE g []) (coP qE g []):=by
  have:=ID (A.grow [.ins c.Turn (tn2 (.o (om.length+1)) (.o (om.length+2))),.dk (ZE (goP qE g [])),.dk (ZE (coP qE g []))]);rw[T.fin]at this;refine(Zm (ZB (Ze (Zb rfl) Zj)<|(Yz rfl).trans this)).trans ?_;rfl
 obtain⟨jc,iu,s3,x2,rfl,rfl⟩:=XY (T:=tgN 2) (S:=Rg c) (λ(k:Nat)=>Wv.int ((qE:Int)+k)) (λpre sl iu=>∃x,sl=(sT om ho x none none)/\iu=t2 c om (goP qE g pre) (coP qE g pre)) F [] (sl:=(sT om ho none none none)) (om:=t2 c om (goP qE g []) (coP qE g [])) (λpre k post hq sl iu ⟨x,h1,h2⟩=>by
  subst h1 h2;have hq:F=pre++k::post:=hq;have hkF:k∈F:=by rw[hq];simp
  have hmk:=T.mv k (T.sub k hkF);have jb:pre.length<=30:=by rw[hq,aV]at hFl;omega
  have hkn:k ∉ pre:=λz=>by
   have:=T.nd;rw[hq]at this;exact(cq.mp this).2.2 k z k (.head _) rfl
  have n1:(goP qE g pre).lookup ((qE:Int)+k)=none:=by
   rw[NL,aD λz=>hkn (bH.mp z)]
  have n2:(coP qE g pre).lookup ((qE:Int)+g k)=none:=Qd λs hs=>by
   obtain⟨j,hj,e⟩:=aY.mp hs;have e:(qE:Int)+g j=(qE:Int)+g k:=cE Prod.fst e;have:=T.inj j (by rw[hq];exact gC _ hj) k hkF .(0);exact hkn (this ▸ hj)
  have e1:=Ps (om:=t2 c om (goP qE g pre) (coP qE g pre)) (sl:=(sT om ho (some (.int ((qE:Int)+k))) none none)) (us:=goP qE g pre) (a:=((qE:Int)+k)) (s:=((qE:Int)+g k)) (h:=om.length+1) (fd:=f1 (ZG c.Turn "goals") ?a) (fk:=Za 2) (D2 (A.grow _) hmk (i:=1) (j:=2) rfl rfl) (Yd rfl (Yu om _ 0) (lg ..)) (Zb rfl) (Yu om _ 1) n1 .(3);rw[Rk,show goP qE g pre++[(((qE:Int)+k),((qE:Int)+g k))]=goP qE g (pre++[k]) by rw[goP,goP,bX];rfl]at e1;have e2:=Ps (om:=t2 c om (goP qE g (pre++[k])) (coP qE g pre)) (sl:=(sT om ho (some (.int ((qE:Int)+k))) none none)) (us:=coP qE g pre) (a:=((qE:Int)+g k)) (s:=((qE:Int)+k)) (h:=om.length+2) (fv:=Za 2) (fd:=f1 (ZG c.Turn "comers") ?a) (Zb rfl) (Yd rfl (Yu om _ 0) (lc ..)) (D2 (A.grow _) hmk (i:=1) (j:=2) rfl rfl) (Yu om _ 2) n2 .(3);rw[Rk,show coP qE g pre++[(((qE:Int)+g k),((qE:Int)+k))]=coP qE g (pre++[k]) by rw[coP,coP,bX];rfl]at e2;exact⟨_,_,_,rfl,Zh e1<|e2,_,rfl,rfl⟩) ⟨none,rfl,rfl⟩
 have s4:Xs c.Turn "pushed" (λ_=>newO (.dk [])) ?a (sT om ho x2 none none) (t2 c om (goP qE g ([]++F)) (coP qE g ([]++F)))=(.nx,(sT om ho x2 none none))\t3 c om (goP qE g F) (coP qE g F) (unP qE f []):=P8 om [.ins c.Turn (tn2 (.o (om.length+1)) (.o (om.length+2))),.dk (ZE (goP qE g ([]++F))),.dk (ZE (coP qE g ([]++F)))] _ rfl rfl .(2)<|(by rw[pf3];rfl);have i5:=D6 (A.grow [.ins c.Turn (tn3 (.o (om.length+1)) (.o (om.length+2)) (.o (om.length+3))),.dk (ZE (goP qE g F)),.dk (ZE (coP qE g F)),.dk (ZE (unP qE f []))]) (sl:=(sT om ho x2 none none)) (fo:=f1 (ZG c.Orders "board") ?b) (X8 (A.grow _).S rfl);rw[Mg]at i5
 obtain⟨jc,iu,s5,y2,y3,rfl,rfl⟩:=XY (T:=Sk [2,3]) (S:=RL c) (λ(k:Nat)=>prW ((qE:Int)+k,sN f k)) (λpre sl iu=>∃y2 y3,sl=(sT om ho y2 y3 none)/\iu=t3 c om (goP qE g F) (coP qE g F) (unP qE f (pre.filter λx=>(F.map g).contains x&&!F.contains x))) (ZY f f.length) [] (sl:=(sT om ho x2 none none)) (om:=t3 c om (goP qE g F) (coP qE g F) (unP qE f [])) (λpre k post hq sl iu ⟨y2,y3,h1,h2⟩=>by
  subst h1 h2;have hq:ZY f f.length=pre++k::post:=hq
  have hkn:k ∉ pre:=λz=>by
   have:=VN f;rw[hq]at this;exact(cq.mp this).2.2 k z k (.head _) rfl
  have jb:pre.length<=60:=by rw[hq,aV]at hul;omega
  have hpf:=aI (λx=>(F.map g).contains x&&!F.contains x) pre
  have cc:∀P:iG,VS (fB (f2 (Wz false) ?c (f1 (ZG c.Turn "comers") ?a))) (fB (f2 (Wz true) ?c (f1 (ZG c.Turn "goals") ?a))) (sT om ho (some (.int ((qE:Int)+k))) (some (.int (sN f k))) none) (t3 c om (goP qE g F) (coP qE g F) P)=((F.map g).contains k&&!F.contains k)\t3 c om (goP qE g F) (coP qE g F) P:=λP=>by
   refine Up (ZQ (Zr (Zb rfl) (Yd rfl (Yu om _ 0) (lc ..))<|(Tj (Yu om _ 2) false).trans ?_)) λ_=>ZQ (Zr (Zb rfl) (Yd rfl (Yu om _ 0) (lg ..))<|(Tj (Yu om _ 1) true).trans ?_)
   ·rw[Dr];rfl
   ·rw[NL]
    cases F.contains k <;> rfl
  by_cases hp:((F.map g).contains k&&!F.contains k)=true
  ·rw[hp]at cc
   have n1:(unP qE f (pre.filter λx=>(F.map g).contains x&&!F.contains x)).lookup ((qE:Int)+k)=none:=by
    rw[NL,aD λz=>hkn (aQ.mp (bH.mp z)).1]
   have e1:=Ps (om:=t3 c om (goP qE g F) (coP qE g F) (unP qE f (pre.filter λx=>(F.map g).contains x&&!F.contains x))) (sl:=(sT om ho (some (.int ((qE:Int)+k))) (some (.int (sN f k))) none)) (us:=unP qE f (pre.filter λx=>(F.map g).contains x&&!F.contains x)) (a:=((qE:Int)+k)) (s:=sN f k) (h:=om.length+3) (fv:=Za 3) (fd:=f1 (ZG c.Turn "pushed") ?a) (fk:=Za 2) (Zb rfl) (Yd rfl (Yu om _ 0) (lp ..)) (Zb rfl) (Yu om _ 3) n1 .(3);rw[Rk,show unP qE f (pre.filter λx=>(F.map g).contains x&&!F.contains x)++[(((qE:Int)+k),sN f k)]=unP qE f ((pre++[k]).filter λx=>(F.map g).contains x&&!F.contains x) by rw[dO,unP,unP,bX,List.filter_cons_of_pos (p:=λx=>(F.map g).contains x&&!F.contains x) hp];rfl]at e1;exact⟨_,_,_,rfl,Z9 (cc _)<|e1,_,_,rfl,rfl⟩
  ·rw[hY]at hp
   rw[hp]at cc;refine⟨_,_,_,rfl,ZM (cc _),_,_,rfl,?_⟩;rw[dO,List.filter_cons_of_neg (p:=λx=>(F.map g).contains x&&!F.contains x) (by rw[hp];exact aF),gp,bF]) ⟨x2,none,rfl,rfl⟩
 have s5':=YY (fi:=λsl=>bnd ((Zn c.Board "roll" 1 (ZJ c) (f1 (ZG c.Orders "board") ?b) Zi) sl) ZO) (sl1:=[]) i5 s5;rw[gn]at s5';generalize hP:(ZY f f.length).filter (λx=>(F.map g).contains x&&!F.contains x)=P at s5'
 have s6:ZC 4 (Yk ZL [1] (λsl=>bnd ((Zn c.Orders "movers" 1 (ZV c) ?b Zi) sl) ZO) Xl (Rl c)) (sT om ho y2 y3 none) (t3 c om (goP qE g F) (coP qE g F) (unP qE f P))=(.nx,(sT om ho y2 y3 (some (.lst (((mvL qD f).map λ(k:Nat)=>(qE:Int)+g k).map Wv.int)))))\t3 c om (goP qE g F) (coP qE g F) (unP qE f P):=by
  have AA:Sit c (t3 c om (goP qE g F) (coP qE g F) (unP qE f P)) ho hb hm hu hl hg size qE f kvs gs qF qD:=A.grow _;generalize t3 c om (goP qE g F) (coP qE g F) (unP qE f P)=st at AA;have mv:=Rv AA;refine Zt (i:=4) ((XH (ws:=(mvL qD f).map λ(k:Nat)=>Wv.int ((qE:Int)+k)) (qH:=st) (Zm (Zv (Zb rfl) (Zu AA.S.o) (Z8 _ _ _ .(1) .(1)) Zj rfl<|mv)<|rfl) .(3) (Yi (λ(k:Nat)=>Wv.int ((qE:Int)+k)) (λ_=>true) (λk=>Wv.int ((qE:Int)+g k)) (λk hk=>rfl) (λk hk _=>D2 AA (T.mv k hk) rfl rfl))).trans ?_);rw[bV.mpr (λ_ _=>rfl),bA];exact Z2 .(3)
 have s7:Xs c.Turn "closed" (Tt ZL ?e (f1 (ZG c.Turn "comers") ?a)) ?a (sT om ho y2 y3 (some (.lst (((mvL qD f).map λ(k:Nat)=>(qE:Int)+g k).map Wv.int)))) (t3 c om (goP qE g F) (coP qE g F) (unP qE f P))=(.nx,(sT om ho y2 y3 (some (.lst (((mvL qD f).map λ(k:Nat)=>(qE:Int)+g k).map Wv.int)))))\(om++[.ins c.Turn (tn4 (.o (om.length+1)) (.o (om.length+2)) (.o (om.length+3)) (.lst ((clL qE qD f g F).map Wv.int))),.dk (ZE (goP qE g F)),.dk (ZE (coP qE g F)),.dk (ZE (unP qE f P))]):=by
  have ek:(coP qE g F).map (·.1)=F.map λ(k:Nat)=>(qE:Int)+g k:=by rw[bA];rfl
  have sd:=Fk (sl:=(sT om ho y2 y3 (some (.lst (((mvL qD f).map λ(k:Nat)=>(qE:Int)+g k).map Wv.int))))) (om:=t3 c om (goP qE g F) (coP qE g F) (unP qE f P)) (fa:=Za 4) (fb:=f1 (ZG c.Turn "comers") ?a) (ns:=(mvL qD f).map λ(k:Nat)=>(qE:Int)+g k) (us:=coP qE g F) (h:=om.length+2) (Zb rfl) (Yd rfl (Yu om _ 0) (lc ..)) (Yu om _ 2) .(3) .(3) (by
   rw[ek];exact T.gap.imp id λh=>by rw[h];rfl)
  rw[ek]at sd;exact IS (h:=om.length) sd (Zb rfl) (Yu om _ 0) .(2)<|(by rw[Ro,pf4];rfl)
 generalize hC:clL qE qD f g F=cl at s7 ⊢
 have s8:Xs c.Turn "board" (fA (kN 2 (Xb c)) #[f1 (ZG c.Board "chart") (f1 (ZG c.Orders "board") ?b),fA (kN 3 (WG c)) #[f1 (ZG c.Orders "board") ?b,f1 (ZG c.Turn "goals") ?a,f1 (ZG c.Turn "comers") ?a]]) ?a (sT om ho y2 y3 (some (.lst (((mvL qD f).map λ(k:Nat)=>(qE:Int)+g k).map Wv.int)))) (om++[.ins c.Turn (tn4 (.o (om.length+1)) (.o (om.length+2)) (.o (om.length+3)) (.lst (cl.map Wv.int))),.dk (ZE (goP qE g F)),.dk (ZE (coP qE g F)),.dk (ZE (unP qE f P))])=(.nx,(sT om ho y2 y3 (some (.lst (((mvL qD f).map λ(k:Nat)=>(qE:Int)+g k).map Wv.int)))))\(om++[tOf c om.length cl,.dk (ZE (goP qE g F)),.dk (ZE (coP qE g F)),.dk (ZE (unP qE f P)),YM c hm (om.length+5),.dk (ZE (MR qE f g F))]):=by
  have AA:=A.grow [.ins c.Turn (tn4 (.o (om.length+1)) (.o (om.length+2)) (.o (om.length+3)) (.lst (cl.map Wv.int))),.dk (ZE (goP qE g F)),.dk (ZE (coP qE g F)),.dk (ZE (unP qE f P))];have l1:(Qb f F).length<=(ZY f f.length).length:=aI _ _;have l2:=TJ f g F;have ua:=OI (g:=g) (F:=F) AA (hG:=om.length+1) (hC:=om.length+2) (Yu om _ 1) (Yu om _ 2);have pb:=Me (c:=c) (size:=size) AA.W.m (Ji T) (Ks A T) (by rw[aV,aB,aB];omega);rw[aV,bT]at pb;have e:=ZB (k:=kN 2 (Xb c)) (Ze (Lg (X8 AA.S (sl:=(sT om ho y2 y3 (some (.lst (((mvL qD f).map λ(k:Nat)=>(qE:Int)+g k).map Wv.int))))) (i:=1) rfl) AA.W.b (Wx ..)) (Ze (ZB (Ze (X8 AA.S (i:=1) rfl) (Ze (Yd (i:=0) (h:=om.length) rfl (Yu om _ 0) (lg ..)) (Ze (Yd (i:=0) (h:=om.length) rfl (Yu om _ 0) (lc ..)) Zj)))<|(Yz rfl).trans ua) Zj))<|(Yz rfl).trans pb;exact IS (h:=om.length) e (Zb rfl) (Yu om _ 0) .(2)<|(by rw[Ro,pf5];rfl)
 have hPP:unP qE f P=unP qE f (push f g F):=by rw[← hP]
 rw[← hPP];exact Zm (Yz rfl<|Wi (Zh s1<|(Zh s2).trans (Zh (YY (sl1:=[]) i3 s3)<|(Zh s4).trans (Zh s5'<|(Zh s6).trans (Zh s7<|s8)))))<|rfl
def BZ{om:iV}{h hG:Nat}{r:iS}{us:iG}(e0:om[h]?=some (.ins c.Turn ((Str.ofString "goals",.o hG)::r)))(e1:om[hG]?=some (.dk (ZE us)))(hl:us.length<64):We c [.o h] om=(.lst ((Y7 us).map prW))\om:=by
 have hls:(Y7 us).length=us.length:=(YN us).length_eq;refine ZD (Zw ?_);unfold RO;refine(Zm (Yd rfl e0 (lg ..))).trans ?_;refine Zm (a:=(Y7 us).map prW) (qH:=om) ?_<|Z2 .(3);simp[Po,e1,O0,hl]
def Cm{om:iV}{h hP hC:Nat}{a:Wv}{r:iS}{us co:iG}{v:Int->Int}(e0:om[h]?=some (.ins c.Turn ((Str.ofString "goals",a)::(Str.ofString "comers",.o hC)::(Str.ofString "pushed",.o hP)::r)))(e1:om[hP]?=some (.dk (ZE us)))(e2:om[hC]?=some (.dk (ZE co)))(hl:us.length<64)(nd:(us.map (·.1)).Nodup)(hv:∀x∈us,co.lookup x.1=some (v x.1)):Yl c [.o h] om=(.lst ((XI (us.map (·.1))).map λx=>Wv.tup [.int x,.int ((us.lookup x).getD 0),.int (v x)]))\om:=by
 have ja:=ZT;have hls:(XI (us.map (·.1))).length=us.length:=by rw[(YD _).length_eq,aB]
 have ek:fA (Vm ZL) #[f1 (ZG c.Turn "pushed") ?a] [some (.o h)] om=(.lst ((XI (us.map (·.1))).map Wv.int))\om:=by
  refine(ZB (Ze (Yd rfl e0 (lp ..)) Zj)).trans ?_;unfold Vm;dsimp only;rw[e1];dsimp only;rw[PU];dsimp only;rw[aC (by rw[aB];exact hl)];exact Z2 .(3)
 refine ZD (Zw ((XH (ws:=(XI (us.map (·.1))).map Wv.int) (qH:=om) (Zm ek<|rfl) .(3) (Yi Wv.int (λ_=>true) (λx=>Wv.tup [.int x,.int ((us.lookup x).getD 0),.int (v x)]) (λ_ _=>rfl) (λx hx _=>?_))).trans ?_))
 ·obtain⟨y,hy,rfl⟩:=aY.mp ((RY _ _).mp hx)
  have q1:us.lookup y.1=some ((us.lookup y.1).getD 0):=by rw[Wt nd (k:=y.1) (s:=y.2) hy];rfl
  exact ZB (Ze (Zb rfl) (Ze (Zr (Yd rfl e0 (lp ..)) (Zb rfl)<|RD e1 q1) (Ze (Zr (Yd rfl e0 (lc ..)) (Zb rfl)<|RD e2 (hv y hy)) Zj)))<|YX .(2)
 ·rw[bV.mpr (λ_ _=>rfl)]
  exact Z2 .(3)
end
def aCy(qE:Nat)(g:Nat->Nat)(F:iL)(x:Int):Int:=((coP qE g F).lookup x).getD 0
def co_nd(qE:Nat){g:Nat->Nat}{F:iL}(nd:F.Nodup)(inj:∀i∈F,∀j∈F,g i=g j->i=j):((coP qE g F).map (·.1)).Nodup:=by
 rw[bA];refine cp.mpr (nd.imp_of_mem λ{a b} ha hb h e=>h (inj a ha b hb ?_));have e:(qE:Int)+(g a:Nat)=(qE:Int)+(g b:Nat):=e;omega
def Gw(qE:Nat)(f:iF){l:iL}(nd:l.Nodup):((unP qE f l).map (·.1)).Nodup:=by
 rw[bA];refine cp.mpr (nd.imp λ{a b} h e=>h ?_);have e:(qE:Int)+(a:Nat)=(qE:Int)+(b:Nat):=e;omega
def aCy_at(qE:Nat){g:Nat->Nat}{F:iL}(nd:F.Nodup)(inj:∀i∈F,∀j∈F,g i=g j->i=j){k:Nat}(h:k∈F):(coP qE g F).lookup ((qE:Int)+(g k:Nat))=some ((qE:Int)+k):=Wt (co_nd qE nd inj) (aY.mpr ⟨k,h,rfl⟩)
def trn_of{qF:Mx}{f:iF}{qD:iW}(qE:Nat)(G:Givn qF f qD)(h7:f.length<=7):Trn qE f qD (gO qD) (US qD f 100 (mvL qD f)):=by
 have s1:=Im qD f 100 (mvL qD f);have ml:=V8 qD f;refine⟨rfl,λk h=>CF h,λk h=>s1.subset h,(Lz _ _).sublist s1,λi hi j hj e=>?_,.(0),?_⟩
 ·have ei:=CF (s1.subset hi)
  have ej:=CF (s1.subset hj);rw[← e]at ej;exact BX .(0) hi hj ei ej
 ·generalize US qD f 100 (mvL qD f)=F
  cases F with
  |nil=>exact .inr rfl
  |cons a F=>
   left
   have l1:=XC ((mvL qD f).map λ(k:Nat)=>(qE:Int)+(gO qD k:Nat)) [];have l2:0<(YH [] ((a::F).map λ(k:Nat)=>(qE:Int)+(gO qD k:Nat))).length:=List.length_pos_of_mem (T6.mpr (.inr (.head _)));rw[aB,cM]at l1;omega
structure Tk(c:CA)(om:iV)(N:Nat)(cl:iK)(go co pu af:iG)(hm:Nat):Prop where
 t:om[N]?=some (tOf c N cl)
 g:om[N+1]?=some (.dk (ZE go))
 k:om[N+2]?=some (.dk (ZE co))
 p:om[N+3]?=some (.dk (ZE pu))
 b:om[N+4]?=some (YM c hm (N+5))
 u:om[N+5]?=some (.dk (ZE af))
def U3(m:String)(a b d e g:Wv)(h1:m≠"goals")(h2:m≠"comers")(h3:m≠"pushed")(h4:m≠"closed")(h5:m≠"board"):List.lookup (Str.ofString m) (tn5 a b d e g)=none:=by simp[aH,YQ,h1,h2,h3,h4,h5]
def lk_cl(a b d e g:Wv):List.lookup (Str.ofString "closed") (tn5 a b d e g)=some e:=by simp[aH,YQ]
def DV(a b d e g:Wv):List.lookup (Str.ofString "board") (tn5 a b d e g)=some g:=by simp[aH,YQ]
section
variable{c:CA}{om:iV}{N hm i:Nat}{cl:iK}{go co pu af:iG}{sl:Sl}
def Tk.grow(K:Tk c om N cl go co pu af hm)(l:iV):Tk c (om++l) N cl go co pu af hm:=⟨VB K.t,VB K.g,VB K.k,VB K.p,VB K.b,VB K.u⟩
def done_e(K:Tk c om N cl go co pu af hm)(hv:sl[i]?=↑(.o N))(hl:go.length<64):Zn c.Turn "done" 1 (We c) (Za i) Zi sl om=(.lst ((Y7 go).map prW))\om:=Zv (Zb hv) (Zu K.t) (U3 "done" _ _ _ _ _ .(1) .(1) .(1) .(1) .(1)) Zj rfl<|BZ K.t K.g hl
def L5{v:Int->Int}(K:Tk c om N cl go co pu af hm)(hv:sl[i]?=↑(.o N))(hl:pu.length<64)(nd:(pu.map (·.1)).Nodup)(hc:∀x∈pu,co.lookup x.1=some (v x.1)):Zn c.Turn "aside" 1 (Yl c) (Za i) Zi sl om=(.lst ((XI (pu.map (·.1))).map λx=>Wv.tup [.int x,.int ((pu.lookup x).getD 0),.int (v x)]))\om:=Zv (Zb hv) (Zu K.t) (U3 "aside" _ _ _ _ _ .(1) .(1) .(1) .(1) .(1)) Zj rfl<|Cm K.t K.p K.k hl nd hc
def Bc(K:Tk c om N cl go co pu af hm)(hv:sl[i]?=↑(.o N))(hl:af.length<64):Zn c.Board "roll" 1 (ZJ c) (f1 (ZG c.Turn "board") (Za i)) Zi sl om=(.lst ((Y7 af).map prW))\om:=Zv (Yd hv K.t (DV ..)) (Zu K.b) (Z1 _ _ _ .(1) .(1)) Zj rfl<|HR c K.b K.u hl
def turn_k{ho hb hu hl hg size qE:Nat}{f:iF}{kvs:iT}{gs:Gs}{qF:Mx}{qD:iW}{g:Nat->Nat}{F:iL}(A:Sit c om ho hb hm hu hl hg size qE f kvs gs qF qD)(T:Trn qE f qD g F):∃l,XS c.Turn 2 (WT c) [.o ho] om=(.o om.length)\(om++l)/\Tk c (om++l) om.length (clL qE qD f g F) (goP qE g F) (coP qE g F) (unP qE f (push f g F)) (gnP qE f g (Qb f F)++unP qE f (kept f g F)) hm:=
 ⟨_,turn_in A T,⟨Yu om _ 0,Yu om _ 1,Yu om _ 2,Yu om _ 3,Yu om _ 4,Yu om _ 5⟩⟩
end
def JH{om iu:iV}{i:Nat}{ws:iR}(h:om[i]?=some (.lst ws))(hk:∀j,j<om.length->iu[j]?=om[j]?):Y4 iu (.o i)=some ws:=by
 show(match iu[i]? with|some (.lst ws)=>some ws|_=>none)=_;rw[hk i (aJ.mp h).1,h]
def Pu{qE:Nat}{f:iF}{g:Nat->Nat}{F:iL}(nd:F.Nodup)(inj:∀i∈F,∀j∈F,g i=g j->i=j):∀x∈unP qE f (push f g F),(coP qE g F).lookup x.1=some (aCy qE g F x.1):=λx hx=>by
 obtain⟨y,hy,rfl⟩:=aY.mp hx;have hc:=(aQ.mp hy).2;rw[bW]at hc;obtain⟨k,hk,rfl⟩:=aY.mp (bH.mp hc.1);unfold aCy;show(coP qE g F).lookup ((qE:Int)+(g k:Nat))=some (((coP qE g F).lookup ((qE:Int)+(g k:Nat))).getD 0);rw[aCy_at qE nd inj hk];rfl
def inV_i(a:Int):∀l:iK,inV (.int a) (l.map V.int)=l.contains a
 |[]=>rfl
 |k::l=>by
  have ih:=inV_i a l;unfold inV at ih ⊢;rw[aS,dq,ih,dP]
  congr 1
  show(k == a)=(a == k);by_cases h:a=k
  ·subst h;simp
  ·rw[aU.mpr h,aU.mpr (λz=>h z.symm)]
def TQ{om:iV}{pw:Wv}{l:iK}(a:Int)(hp:Y4 om pw=some (l.map Wv.int))(neg:Bool):W3 neg (.int a) pw om=(.bl (if neg then !l.contains a else l.contains a))\om:=by
 unfold W3;rw[hp];dsimp only
 have h1:(U7 (.int a)&&(l.map Wv.int).all U7)=true:=by
  rw[List.all_map];simp[U7]
 rw[aC h1,bA];show some (Except.ok (Wv.bl (if neg=true then !inV (.int a) (l.map V.int) else inV (.int a) (l.map V.int))),om)=_;rw[inV_i]
def fld_e{om:iV}{sl:Sl}{fe:FE}{h:Nat}{C:qJ}{n:Str}{fs:iS}{w:Wv}(he:fe sl om=(.o h)\om)(hm:om[h]?=some (.ins C fs))(hw:fs.lookup n=some w):f1 (ZG C n) fe sl om=w\om:=
 (XU he).trans ((XU (f:=Za 0) (sl:=[some (.o h)]) (Zb rfl)).symm.trans (Yd rfl hm hw))
def lk_pu(a b d e g:Wv):List.lookup (Str.ofString "pushed") (tn5 a b d e g)=some d:=by simp[aH,YQ]
def lk_co(a b d e g:Wv):List.lookup (Str.ofString "comers") (tn5 a b d e g)=some b:=by simp[aH,YQ]
def Ci(kvs:iT)(af:iG)(cl:iK)(n:Nat)(a ca:Int):iL:=(((List.range n).filter λ(b:Nat)=>Ut kvs a (b:Nat)).filter λ(b:Nat)=>(af.lookup (b:Int)).isNone).filter λ(b:Nat)=>!decide ((b:Int)=ca)&&!cl.contains (b:Int)
def Ap{kvs:iT}{af:iG}{cl:iK}{n:Nat}{a ca:Int}{b:Nat}(h:b∈Ci kvs af cl n a ca):b<n/\af.lookup (b:Int)=none:=by
 obtain⟨h1,_⟩:=aQ.mp h;obtain⟨h2,h3⟩:=aQ.mp h1;obtain⟨h4,_⟩:=aQ.mp h2;exact⟨bR.mp h4,Option.isNone_iff_eq_none.mp h3⟩
def Dq(kvs:iT)(af:iG)(cl:iK)(n:Nat)(a ca:Int):(Ci kvs af cl n a ca).length<=n:=bL (aI _ _) (bL (aI _ _) (bL (aI _ _) .(2)))
section
variable{c:CA}{om:iV}{N hm hl i n:Nat}{cl:iK}{go co pu af:iG}{kvs:iT}{sl:Sl}{a ca:Int}
def LV(K:Tk c om N cl go co pu af hm)(hv:sl[i]?=↑(.o N)):f1 (ZG c.Board "chart") (f1 (ZG c.Turn "board") (Za i)) sl om=(.o hm)\om:=fld_e (Yd hv K.t (DV ..)) K.b (Wx ..)
def tside{fe:FE}(K:Tk c om N cl go co pu af hm)(h2:om[hm]?=some (YT c (n:Nat) hl))(hv:sl[i]?=↑(.o N))(he:fe sl om=(.int a)\om)(ha:0<=a/\a<n):Zn c.Board "side_at" 2 (Zz c) (f1 (ZG c.Turn "board") (Za i)) #[fe] sl om=(ZK (af.lookup a))\om:=
 (Zv (Yd hv K.t (DV ..)) (Zu K.b) (Z1 "side_at" _ _ .(1) .(1)) (Ze he Zj) rfl).trans (Pt c K.b h2 K.u ha)
def QL{fe:FE}(K:Tk c om N cl go co pu af hm)(h2:om[hm]?=some (YT c (n:Nat) hl))(hv:sl[i]?=↑(.o N))(he:fe sl om=(.int a)\om)(ha:0<=a/\a<n):ZR (Zn c.Map "need_place" 2 (ZA c) (f1 (ZG c.Board "chart") (f1 (ZG c.Turn "board") (Za i))) #[fe]) sl om=(.nx,sl)\om:=
 ZW (Zv (LV K hv) (Zu h2) (Xa _ _ _ .(1) .(1)) (Ze he Zj) rfl<|TV c h2 ha.1 ha.2)
def aneed(K:Tk c om N cl go co pu af hm)(h:(pu.lookup a).isSome=true):YL c [.o N,.int a] om=.non\om:=
 Wi (ZM (ZQ (Zr (Zb rfl) (Yd rfl K.t (lk_pu ..))<|(Tj K.p true).trans (by rw[aC rfl,h];rfl))))
def My{fe:FE}(K:Tk c om N cl go co pu af hm)(hv:sl[i]?=↑(.o N))(he:fe sl om=(.int a)\om)(h:(pu.lookup a).isSome=true):ZR (Zn c.Turn "need_aside" 2 (YL c) (Za i) #[fe]) sl om=(.nx,sl)\om:=
 ZW (Zv (Zb hv) (Zu K.t) (U3 "need_aside" _ _ _ _ _ .(1) .(1) .(1) .(1) .(1)) (Ze he Zj) rfl<|aneed K h)
def Do(K:Tk c om N cl go co pu af hm)(h2:om[hm]?=some (YT c (n:Nat) hl))(h3:om[hl]?=some (.dt kvs))(hn:n<=60)(ha:0<=a/\a<n)(hp:(pu.lookup a).isSome=true)(hc:co.lookup a=some ca):Yx c [.o N,.int a] om=(.lst ((Ci kvs af cl n a ca).map λ(b:Nat)=>Wv.int b))\om:=by
 have ja:=ZT;have l1:((List.range n).filter λ(b:Nat)=>Ut kvs a (b:Nat)).length<=n:=bL (aI _ _) .(2);have l2:(((List.range n).filter λ(b:Nat)=>Ut kvs a (b:Nat)).filter λ(b:Nat)=>(af.lookup (b:Int)).isNone).length<=n:=bL (aI _ _) l1;have l3:=Dq kvs af cl n a ca;have s1:=QL (sl:=[some (.o N),some (.int a),none]) (i:=0) (fe:=Za 1) K h2 rfl (Zb rfl) ha;have s2:=My (sl:=[some (.o N),some (.int a),none]) (i:=0) (fe:=Za 1) K rfl (Zb rfl) hp
 have e1:Zn c.Map "near" 2 (VD c) (f1 (ZG c.Board "chart") (f1 (ZG c.Turn "board") ?a)) #[?b] [some (.o N),some (.int a),none] om=(.lst (((List.range n).filter λ(b:Nat)=>Ut kvs a (b:Nat)).map λ(b:Nat)=>Wv.int b))\om:=
  (Zv (LV K rfl) (Zu h2) (Xa _ _ _ .(1) .(1)) (Ze (Zb rfl) Zj) rfl).trans (A6 c h2 h3 hn ha)
 have s3:ZC 2 (Yk ZL [0] (λsl=>bnd ((Zn c.Map "near" 2 (VD c) (f1 (ZG c.Board "chart") (f1 (ZG c.Turn "board") ?a)) #[?b]) sl) ZO) (TL c) (Ts c)) [some (.o N),some (.int a),none] om=(.nx,[some (.o N),some (.int a),some (.lst ((((List.range n).filter λ(b:Nat)=>Ut kvs a (b:Nat)).filter λ(b:Nat)=>(af.lookup (b:Int)).isNone).map λ(b:Nat)=>Wv.int b))])\om:=by
  refine Zt (i:=2) (XH (qH:=om) (Zm e1<|rfl) .(3) (Yi (λ(b:Nat)=>Wv.int b) (λ(b:Nat)=>(af.lookup (b:Int)).isNone) (λ(b:Nat)=>Wv.int b) (λb hb=>?_) (λb _ _=>Zb rfl))<|Z2 .(3));have:=bR.mp (aQ.mp hb).1;exact ZQ (XU (tside (i:=1) K h2 rfl (Zb (w:=.int b) rfl) ⟨.(0),.(0)⟩)<|Tv _ _)
 refine ZD (Zh s1<|(Zh s2).trans (Zh s3<|Zw (XH (qH:=om) rfl .(3) (Yi (λ(b:Nat)=>Wv.int b) (λ(b:Nat)=>!decide ((b:Int)=ca)&&!cl.contains (b:Int)) (λ(b:Nat)=>Wv.int b) (λb hb=>?_) (λb _ _=>Zb rfl))<|Z2 (by rw[aB];exact bL l3 .(0)))));refine Up (ZQ (Zr (Zb rfl) (Zr (Yd (i:=1) rfl K.t (lk_co ..)) (Zb rfl)<|RD K.k hc)<|Tw _ _ _)) λ_=>?_
 exact ZQ (Zr (Zb rfl) (Yd (i:=1) rfl K.t (lk_cl ..))<|TQ _ rfl true)
def may_e{fe:FE}(K:Tk c om N cl go co pu af hm)(h2:om[hm]?=some (YT c (n:Nat) hl))(h3:om[hl]?=some (.dt kvs))(hn:n<=60)(hv:sl[i]?=↑(.o N))(he:fe sl om=(.int a)\om)(ha:0<=a/\a<n)(hp:(pu.lookup a).isSome=true)(hc:co.lookup a=some ca):Zn c.Turn "may_go" 2 (Yx c) (Za i) #[fe] sl om=(.lst ((Ci kvs af cl n a ca).map λ(b:Nat)=>Wv.int b))\om:=
 (Zv (Zb hv) (Zu K.t) (U3 "may_go" _ _ _ _ _ .(1) .(1) .(1) .(1) .(1)) (Ze he Zj) rfl).trans (Do K h2 h3 hn ha hp hc)
end
def cnt_e{om:iV}{sl:Sl}{i j:Nat}{gs:iK}{a:Int}(hi:sl[i]?=↑(.lst (gs.map Wv.int)))(hj:sl[j]?=↑(.int a)):OU (Za i) (Za j) sl om=(.int ((gs.count a:Nat):Int))\om:=by
 unfold OU;refine Zm (Zb hi)<|(Zm (a:=()) (qH:=om) rfl).trans ((Zm (Zb hj)).trans ?_);unfold IL;dsimp only;rw[VL]
def cat_e{om:iV}{sl:Sl}{fa fb:FE}{xs ys:iR}(ha:fa sl om=(.lst xs)\om)(hb:fb sl om=(.lst ys)\om)(hl:xs.length+ys.length<=100):f2 Nq fa fb sl om=(.lst (xs++ys))\om:=by
 have:=ZT;refine(Zr ha hb).trans ?_;unfold Nq;dsimp only;rw[aC .(0)]
abbrev arW(pu:iG)(v:Int->Int)(x:Int):Wv:=.tup [.int x,.int ((pu.lookup x).getD 0),.int (v x)]
abbrev arL(pu:iG):iK:=XI (pu.map (·.1))
def Q9(kvs:iT)(af:iG)(cl:iK)(n:Nat)(v:Int->Int)(x:Int):iK:=(Ci kvs af cl n x (v x)).map λ(b:Nat)=>(b:Int)
def Rs(kvs:iT)(af:iG)(cl:iK)(n:Nat)(v:Int->Int)(ps:iG):iG:=ps.filter λx=>decide ((ps.map (·.2)).count x.2=1)&&(Q9 kvs af cl n v x.1).contains x.2
def VE(gr pu:iG):iG:=((arL pu).filter λx=>(gr.lookup x).isSome).map λx=>((gr.lookup x).getD 0,(pu.lookup x).getD 0)
def Jn(gr pu:iG):iK:=(arL pu).filter λx=>!(gr.lookup x).isSome
section
variable{c:CA}{om:iV}{N hm hl i n:Nat}{cl:iK}{go co pu af:iG}{kvs:iT}{sl:Sl}{v:Int->Int}{ps:iG}
def Cr(K:Tk c om N cl go co pu af hm)(h2:om[hm]?=some (YT c (n:Nat) hl))(hp:∀x∈ps,(pu.lookup x.1).isSome=true/\(0<=x.1/\x.1<n)/\0<=x.2/\x.2<n):Xj c [.o N,.lst (ps.map prW)] om=.non\om:=by
 obtain⟨sl1,qH,a1,x2,x3,rfl,rfl⟩:=XY (T:=Sk [2,3]) (S:=WH c) prW (λpre sl iu=>∃x2 x3,sl=[some (.o N),some (.lst (ps.map prW)),x2,x3]/\iu=om) ps [] (sl:=[some (.o N),some (.lst (ps.map prW)),none,none]) (om:=om) (λpre x post hq sl iu ⟨x2,x3,h1,jB⟩=>by
  subst h1 jB;have hx:=hp x (by rw[show ps=pre++x::post from hq];simp);refine⟨_,_,_,rfl,Zh (QL (i:=0) K h2 rfl (Zb (i:=2) (w:=.int x.1) rfl) hx.2.1)<|QL (i:=0) K h2 rfl (Zb (i:=3) (w:=.int x.2) rfl) hx.2.2,_,_,rfl,rfl⟩) ⟨none,none,rfl,rfl⟩
 obtain⟨jd,om2,a2,y2,y3,rfl,rfl⟩:=XY (T:=Sk [2,3]) (S:=Su c) prW (λpre sl iu=>∃x2 x3,sl=[some (.o N),some (.lst (ps.map prW)),x2,x3]/\iu=qH) ps [] (sl:=[some (.o N),some (.lst (ps.map prW)),x2,x3]) (om:=qH) (λpre x post hq sl iu ⟨x2,x3,h1,jB⟩=>by
  subst h1 jB;have hx:=hp x (by rw[show ps=pre++x::post from hq];simp);refine⟨_,_,_,rfl,My (i:=0) K rfl (Zb (i:=2) (w:=.int x.1) rfl) hx.1,_,_,rfl,rfl⟩) ⟨x2,x3,rfl,rfl⟩
 exact Wi (Zh (YY (sl1:=[]) (Zm (Zb (i:=1) (w:=.lst (ps.map prW)) rfl)<|rfl) a1)<|YY (sl1:=[]) (Zm (Zb (i:=1) (w:=.lst (ps.map prW)) rfl)<|rfl) a2)
noncomputable abbrev Pk (N:Nat) (ps:iG) (om:iV) (x4) (x5):=([some (.o N),some (.lst (ps.map prW)),some (.lst ((ps.map (·.2)).map Wv.int)),some (.o om.length),x4,x5,none,none]:Sl)
noncomputable abbrev MN (N:Nat) (ps:iG) (om:iV) (x4) (x5) (gr:iG) (pu:iG):=([some (.o N),some (.lst (ps.map prW)),some (.lst ((ps.map (·.2)).map Wv.int)),some (.o om.length),x4,x5,some (.lst ((VE gr pu).map prW)),none]:Sl)
noncomputable abbrev Lx (N:Nat) (ps:iG):=([some (.o N),some (.lst (ps.map prW)),some (.lst ((ps.map (·.2)).map Wv.int)),none,none,none,none,none]:Sl)
noncomputable abbrev Pp (N:Nat) (ps:iG):=([some (.o N),some (.lst (ps.map prW)),none,none,none,none,none,none]:Sl)
def aft_in(K:Tk c om N cl go co pu af hm)(h2:om[hm]?=some (YT c (n:Nat) hl))(h3:om[hl]?=some (.dt kvs))(hn:n<=60)(hv:∀x∈pu,co.lookup x.1=some (v x.1))(np:(pu.map (·.1)).Nodup)(nd:(ps.map (·.1)).Nodup)(hp:∀x∈ps,(pu.lookup x.1).isSome=true/\(0<=x.1/\x.1<n)/\0<=x.2/\x.2<n)(lp:ps.length<=30)(lu:pu.length<=30)(la:af.length<=30)(hk:((Y7 af++VE (Rs kvs af cl n v ps) pu).map (·.1)).Nodup) (hr:∀x∈Y7 af++VE (Rs kvs af cl n v ps) pu,(0<=x.1/\x.1<(n:Nat))/\0<=x.2/\x.2<=7):VZ c [.o N,.lst (ps.map prW)] om=(.tup [.o (om.length+1),.lst ((Jn (Rs kvs af cl n v ps) pu).map Wv.int)])\(om++[.dk (ZE (Rs kvs af cl n v ps)),YM c hm (om.length+2),.dk (ZE (Y7 af++VE (Rs kvs af cl n v ps) pu))]):=by
 have ja:=ZT;have lar:(arL pu).length=pu.length:=by rw[(YD _).length_eq,aB]
 have las:(Y7 af).length=af.length:=(YN af).length_eq;have s1:ZR (fA (kN 2 (Xj c)) #[?a,?b]) (Pp N ps) om=(.nx,(Pp N ps))\om:=ZW (ZB (Ze (Zb rfl) (Ze (Zb rfl) Zj))<|(Yz rfl).trans (Cr K h2 hp))
 have s2:ZC 2 (Xy ZL 2 [] (λsl=>bnd (?b sl) ZO) Xl (O2 c)) (Pp N ps) om=(.nx,(Lx N ps))\om:=by
  have cm:=Yi (cT:=Xl) (f:=O2 c) (mk:=λw=>VV [] w (Pp N ps)) (om:=om) prW (λ_=>true) (λx=>Wv.int x.2) (l:=ps) (λx hx=>rfl) (λx hx _=>Zb rfl);rw[bV.mpr (λ_ _=>rfl)]at cm;refine Zt (i:=2) (PN (ws:=ps.map prW) rfl .(4) (Lr _) (us:=(ps.map (·.2)).map Wv.int) ?_<|Z2 .(4));rw[bA];exact cm
 have s3:ZC 3 (λ_=>newO (.dk [])) (Lx N ps) om=(.nx,[some (.o N),some (.lst (ps.map prW)),some (.lst ((ps.map (·.2)).map Wv.int)),some (.o om.length),none,none,none,none])\(om++[.dk (ZE [])]):=by
  have:=Du om [] (.dk []) (Lx N ps);rw[bF]at this;exact Zt (i:=3) this
 obtain⟨sl1,qH,a4,x4,x5,rfl,rfl⟩:=XY (T:=Sk [4,5]) (S:=OO c) prW (λpre sl iu=>∃x4 x5,sl=(Pk N ps om x4 x5)/\iu=om++[.dk (ZE (pre.filter λx=>decide ((ps.map (·.2)).count x.2=1)&&(Q9 kvs af cl n v x.1).contains x.2))]) ps [] (sl:=[some (.o N),some (.lst (ps.map prW)),some (.lst ((ps.map (·.2)).map Wv.int)),some (.o om.length),none,none,none,none]) (om:=om++[.dk (ZE [])]) (λpre x post hq sl iu ⟨x4,x5,h1,jB⟩=>by
  subst h1 jB;have hq:ps=pre++x::post:=hq;have hx:=hp x (by rw[hq];simp);have Kg:=K.grow [.dk (ZE (pre.filter λx=>decide ((ps.map (·.2)).count x.2=1)&&(Q9 kvs af cl n v x.1).contains x.2))]
  obtain⟨px,hpx,ex⟩:∃y∈pu,y.1=x.1:=by
   obtain⟨s,e⟩:=aO.mp hx.1;exact⟨_,Wy e,rfl⟩
  have hcv:=hv px hpx;rw[ex]at hcv;have lpre:pre.length<=30:=by rw[hq,aV]at lp;omega
  have lf:=aI (λ(x:Int × Int)=>decide ((ps.map (·.2)).count x.2=1)&&(Q9 kvs af cl n v x.1).contains x.2) pre
  have hnone:(pre.filter λ(x:Int × Int)=>decide ((ps.map (·.2)).count x.2=1)&&(Q9 kvs af cl n v x.1).contains x.2).lookup x.1=none:=Qd λs hs=>by
   have hs:=(aQ.mp hs).1;rw[hq,bX,aS]at nd;exact(cq.mp nd).2.2 x.1 (aY.mpr ⟨_,hs,rfl⟩) x.1 (.head _) rfl
  have t:VS (fB (f2 kEq (OU ?c ?f) ?B)) (fB (f2 (W3 false) ?f (Zn c.Turn "may_go" 2 (Yx c) ?a #[?e]))) [some (.o N),some (.lst (ps.map prW)),some (.lst ((ps.map (·.2)).map Wv.int)),some (.o om.length),some (.int x.1),some (.int x.2),none,none] (om++[.dk (ZE (pre.filter λx=>decide ((ps.map (·.2)).count x.2=1)&&(Q9 kvs af cl n v x.1).contains x.2))])=(decide ((ps.map (·.2)).count x.2=1)&&(Q9 kvs af cl n v x.1).contains x.2)\(om++[.dk (ZE (pre.filter λx=>decide ((ps.map (·.2)).count x.2=1)&&(Q9 kvs af cl n v x.1).contains x.2))]):=by
   refine Up (ZQ (Zr (cnt_e rfl rfl) Zp<|(XM _ _ _).trans ?_)) λ_=>ZQ (Zr (Zb rfl) (may_e (i:=0) Kg (VB h2) (VB h3) hn rfl (Zb rfl) hx.2.1 hx.1 hcv)<|(TQ x.2 (l:=Q9 kvs af cl n v x.1) (by unfold Q9;rw[bA];rfl) false).trans rfl)
   rw[show decide (((List.count x.2 (ps.map (·.2)):Nat):Int)=1)=decide ((ps.map (·.2)).count x.2=1) from g7.mpr .(0)]
  by_cases hb:(decide ((ps.map (·.2)).count x.2=1)&&(Q9 kvs af cl n v x.1).contains x.2)=true
  ·rw[hb]at t
   have p:=Ps (fv:=Za 5) (fd:=Za 3) (fk:=Za 4) (sl:=[some (.o N),some (.lst (ps.map prW)),some (.lst ((ps.map (·.2)).map Wv.int)),some (.o om.length),some (.int x.1),some (.int x.2),none,none]) (om:=om++[.dk (ZE (pre.filter λx=>decide ((ps.map (·.2)).count x.2=1)&&(Q9 kvs af cl n v x.1).contains x.2))]) (h:=om.length) (a:=x.1) (s:=x.2) (Zb rfl) (Zb rfl) (Zb rfl) (Yu om _ 0) hnone .(0);rw[Ro]at p;refine⟨_,_,_,rfl,Z9 t<|p,_,_,rfl,?_⟩;rw[dO,cN,aC hb];rfl
  ·rw[hY]at hb
   rw[hb]at t;refine⟨_,_,_,rfl,ZM t,_,_,rfl,?_⟩;rw[dO,cN,aD (by rw[hb];exact aF),gp,bF]) ⟨none,none,rfl,rfl⟩
 rw[gn]at a4;change WS (Sk [4,5]) (OO c) (ps.map prW) _ _=(.nx,(Pk N ps om x4 x5))\(om++[.dk (ZE (Rs kvs af cl n v ps))]) at a4;generalize hgr:Rs kvs af cl n v ps=gr at a4 hk hr ⊢;have Kg:=K.grow [.dk (ZE gr)];have hd:(om++[.dk (ZE gr)])[om.length]?=some (.dk (ZE gr)):=Yu om _ 0;have as:∀sl:Sl,sl[0]?=↑(.o N)->Zn c.Turn "aside" 1 (Yl c) ?a Zi sl (om++[.dk (ZE gr)])=(.lst ((arL pu).map (arW pu v)))\(om++[.dk (ZE gr)]):=λsl h=>L5 Kg h .(0) np hv
 have lw:(VE gr pu).length<=30:=by
  unfold VE;rw[aB];exact bL (aI _ _) .(0)
 have ep:=Me (c:=c) (om:=om++[.dk (ZE gr)]) (us:=Y7 af++VE gr pu) (VB h2) hk hr (by rw[aV];omega);generalize hom2:om++[Ob.dk (ZE gr)]=om2 at a4 Kg hd as ep
 have all3:((arL pu).map (arW pu v)).all (Ek 3)=true:=by
  rw[List.all_map];exact cS.mpr λ_ _=>rfl
 have ll:(Jn gr pu).length<=30:=bL (aI _ _) .(0)
 have s5:ZC 6 (Xy ZL 3 [3] (λsl=>bnd ((Zn c.Turn "aside" 1 (Yl c) ?a Zi) sl) ZO) (OW c) (PM c)) (Pk N ps om x4 x5) om2=(.nx,(MN N ps om x4 x5 gr pu))\om2:=by
  have cm:=Yi (cT:=OW c) (f:=PM c) (mk:=λw=>VV [3] w (Pk N ps om x4 x5)) (om:=om2) (arW pu v) (λx=>(gr.lookup x).isSome) (λx=>prW ((gr.lookup x).getD 0,(pu.lookup x).getD 0)) (l:=arL pu) (λx hx=>ZQ (v2 rfl rfl<|(Tj hd false).trans rfl)) (λx hx hc=>ZB (Ze (v2 rfl rfl<|RD (s:=(gr.lookup x).getD 0) hd (by obtain⟨s,e⟩:=aO.mp hc;rw[e];rfl)) (Ze (Zb rfl) Zj))<|YX .(2));refine Zt (i:=6) (PN (ws:=(arL pu).map (arW pu v)) (Zm (as _ rfl)<|rfl) .(4) all3 (us:=(VE gr pu).map prW) ?_<|Z2 .(4));rw[show(VE gr pu).map prW=((arL pu).filter λx=>(gr.lookup x).isSome).map λx=>prW ((gr.lookup x).getD 0,(pu.lookup x).getD 0) by unfold VE;rw[bA];rfl];exact cm
 have s6:ZC 7 (Xy ZL 3 [3] (λsl=>bnd ((Zn c.Turn "aside" 1 (Yl c) ?a Zi) sl) ZO) (PD c) (Oh c)) (MN N ps om x4 x5 gr pu) om2=(.nx,[some (.o N),some (.lst (ps.map prW)),some (.lst ((ps.map (·.2)).map Wv.int)),some (.o om.length),x4,x5,some (.lst ((VE gr pu).map prW)),some (.lst ((Jn gr pu).map Wv.int))])\om2:=by
  have cm:=Yi (cT:=PD c) (f:=Oh c) (mk:=λw=>VV [3] w (MN N ps om x4 x5 gr pu)) (om:=om2) (arW pu v) (λx=>!(gr.lookup x).isSome) (λx=>Wv.int x) (l:=arL pu) (λx hx=>ZQ (v2 rfl rfl<|(Tj hd true).trans rfl)) (λx hx hc=>Zb rfl);exact Zt (i:=7) (PN (ws:=(arL pu).map (arW pu v)) (Zm (as _ rfl)<|rfl) .(4) all3 (us:=(Jn gr pu).map Wv.int) cm<|Z2 .(4))
 have ec:=cat_e (sl:=[some (.o N),some (.lst (ps.map prW)),some (.lst ((ps.map (·.2)).map Wv.int)),some (.o om.length),x4,x5,some (.lst ((VE gr pu).map prW)),some (.lst ((Jn gr pu).map Wv.int))]) (Bc (i:=0) Kg rfl .(0)) (Zb (i:=6) rfl) .(4);rw[← bX]at ec;refine ZD (Zh s1<|(Zh s2).trans (Zh s3<|(Zh (YY (sl1:=[]) (Zm (Zb (i:=1) (w:=.lst (ps.map prW)) rfl)<|rfl) a4)).trans (Zh s5<|(Zh s6).trans (Zw (ZB (Ze (ZB (Ze (LV (i:=0) Kg rfl) (Ze ec Zj))<|(Yz rfl).trans ep) (Ze (Zb rfl) Zj))<|(YX .(2)).trans ?_)))));subst hom2;rw[aV,bT];rfl
end
def GP{fi:FI}{T:TgW}{S:FS}{sl:Sl}{om qH:iV}{ws:iR}{C:qJ}(h:fi sl om=ws\om)(e:WS T S ws sl om=C∩qH):Wf fi T S sl om=C∩qH:=by
 unfold Wf;rw[Zm h];exact e
def inP(size:Nat)(x:Int):Bool:=decide (0<=x)&&decide (x<size)
def Q0{size:Nat}{x:Int}(h:inP size x=true):0<=x/\x<(size:Nat):=by
 obtain⟨a,b⟩:=bO.mp h;exact⟨bC a,bC b⟩
def D1{size:Nat}{x:Int}(h:inP size x=false):¬ (0<=x/\x<(size:Nat)):=λ⟨a,b⟩=>by
 unfold inP at h;rw[bG a,bG b]at h;cases h
def mU(qE:Nat)(f:iF)(x:Int):Bool:=((Xf qE f f.length).lookup x).isSome
def mU_t{qE:Nat}{f:iF}{x:Int}(h:mU qE f x=true):∃(k:Nat) (s:Int),x=(qE:Int)+k/\at' f k=some s:=by
 unfold mU at h;rw[Qm]at h;by_cases hx:0<=x-qE/\x-qE<(f.length:Nat)
 ·rw[aC hx]at h
  obtain⟨s,hs⟩:=aO.mp h;exact⟨(x-qE).toNat,s,.(0),hs⟩
 ·rw[aD hx]at h;cases h
section
variable{c:CA}{om:iV}{ho hb hm hu hl hg size qE:Nat}{f:iF}{kvs:iT}{gs:Gs}{qF:Mx}{qD:iW}
def unitE(W:Wd c om hb hm hu hl size qE f kvs){x:Int}(hx:x.natAbs<1000):Yg c [.o hb,.int x] om=if inP size x then (if mU qE f x then .non\om else (c.NoUnit∩om)) else (c.NoPlace∩om):=by
 have r:XR c.NoUnit (Sm ?b SU) [some (.o hb),some (.int x)] om=c.NoUnit∩om:=by
  simp[XR,Sm,SU,Au,Za,bnd,L2.ret,L2.KS,chk,show x.natAbs<1000000000000 by omega]
 cases hp:inP size x with
 |false=>
  rw[aD aF]
  have e:fB (f1 VA (Zn c.Board "side_at" 2 (Zz c) ?a #[?b])) [some (.o hb),some (.int x)] om=c.NoPlace∩om:=by
   have e0:Zn c.Board "side_at" 2 (Zz c) ?a #[?b] [some (.o hb),some (.int x)] om=c.NoPlace∩om:=Zv (Zb rfl) (Zu W.b) (Z1 _ _ _ .(1) .(1)) (Ze (Zb rfl) Zj) rfl<|Je c W.b W.m (D1 hp) .(0);simp[fB,f1,bnd,e0]
  refine W5 ?_;show sIf _ _ _ _ om=_;unfold sIf;exact Wl e
 |true=>
  rw[aC rfl]
  have e:fB (f1 VA (Zn c.Board "side_at" 2 (Zz c) ?a #[?b])) [some (.o hb),some (.int x)] om=(!mU qE f x)\om:=by
   refine ZQ (XU (Zv (Zb rfl) (Zu W.b) (Z1 _ _ _ .(1) .(1)) (Ze (Zb rfl) Zj) rfl<|(let ⟨us,e,p⟩:=W.u;Pt c W.b W.m e (Q0 hp)<|(by rw[O3 p (N5 qE f f.length)])))<|(Tv _ _).trans ?_);unfold mU;cases (Xf qE f f.length).lookup x <;> rfl
  cases hm':mU qE f x with
  |false=>rw[hm']at e;rw[aD aF];exact W5 (Z9 e<|r)
  |true=>rw[hm']at e;rw[aC rfl];exact Wi (ZM e)
end
abbrev blL(l:iO):Wv:=.lst (l.map Wv.bl)
def HB(om:iV):∀l:iO,pysOf om (l.map Wv.bl)=some (l.map PyData.bool)
 |[]=>rfl
 |b::r=>by
  show(match XJ om (.bl b),pysOf om (r.map Wv.bl) with|some d,some ds=>some (d::ds)|_,_=>none)=_;rw[HB om r];rfl
def Co(l:iO):VI (.list (l.map PyData.bool))=true:=by
 have a:PyData.canLayAll0 (l.map PyData.bool)=true/\PyData.depthAll (l.map PyData.bool)=0:=by
  induction l with
  |nil=>exact⟨rfl,rfl⟩
  |cons n r ih=>exact⟨by simp[PyData.canLayAll0,PyData.canLay0];exact ih.1,by simp[PyData.depthAll,PyData.depth];exact ih.2⟩
 simp[VI,PyData.canLay0,PyData.depth,a.1,a.2]
def Dp(om:iV)(l:iO):Xz om (blL l)=some (.list (l.map PyData.bool)):=by
 show(pysOf om (l.map Wv.bl)).map PyData.list=_;rw[HB];rfl
structure CAok(c:CA):Prop where
 np:[.ref c.NoPlace,.ref c.NoSide,.ref c.Crowded,.ref c.NoUnit,.ref c.OutOfReach,.type "ValueError"].map (c.kit c.NoPlace)=[true,false,false,false,false,true]
 nu:[.ref c.NoPlace,.ref c.NoSide,.ref c.Crowded,.ref c.NoUnit,.ref c.OutOfReach,.type "ValueError"].map (c.kit c.NoUnit)=[false,false,false,true,false,true]
 ct:c.caught c.OrderError c.NoPlace=true/\c.caught c.OrderError c.NoUnit=true
def exV(c:CA)(v:Nat):qJ:=if v=1 then c.NoPlace else c.NoUnit
def JR(v:Nat):iO:=if v=0 then [] else if v=1 then [true,false,false,false,false,true] else [false,true,false,false,false,true]
def ex_kit{c:CA}(hc:CAok c){v:Nat}(h0:v≠0):c.caught c.OrderError (exV c v)=true/\c.isE (exV c v)=true/\[.ref c.NoPlace,.ref c.NoUnit,.ref c.OutOfReach,.ref c.Crowded,.ref c.NoSide,.type "ValueError"].map (c.kit (exV c v))=JR v:=by
 have np:=hc.np;have nu:=hc.nu;have ct:=hc.ct;simp only[aS,gW,ij]at np nu;by_cases h1:v=1
 ·subst h1
  refine⟨ct.1,by simp[exV,CA.isE],?_⟩;simp[exV,JR,np]
 ·refine⟨by rw[exV,aD h1];exact ct.2,by rw[exV,aD h1];simp[CA.isE],?_⟩
  rw[exV,aD h1,JR,aD h0,aD h1];simp[nu]
def Ah{ca:qJ->Bool}{i:Nat}{S T:FS}{sl:Sl}{om qH:iV}{r:Fl × Sl}(h:S sl om=r\qH):FK ca i S T sl om=r\qH:=by
 unfold FK;rw[h]
noncomputable abbrev opA (c:CA):FS:=(sIf (fB (f2 kEq ?c ?A)) (ZR (Zn c.Orders "told" 2 (Z6 c) ?a #[?d])) (sIf (fB (f2 kEq ?c ?B)) (ZR (Zn c.Board "side_at" 2 (Zz c) (f1 (ZG c.Orders "board") ?a) #[?d])) (sIf (fB (f2 kEq ?c ?C)) (ZR (Zn c.Turn "may_go" 2 (Yx c) ?b #[?d])) (ZR (fA (kN 2 (VZ c)) #[?b,?e])))))
abbrev slA(ho N jJ:Nat)(a:Int)(rw':Wv)(x5 x6:Option Wv):Sl:=[some (.o ho),some (.o N),some (.int (jJ:Nat)),some (.int a),some rw',x5,x6]
def Vd(c:CA)(v:Nat)(sl:Sl)(om l:iV):Prop:=opA c sl om=if v=0 then (.nx,sl)\(om++l) else ((exV c v)∩(om++l))
def ask_in{c:CA}(hc:CAok c){ho N jJ v:Nat}{a:Int}{rw':Wv}{om l:iV}(h:Vd c v (slA ho N jJ a rw' (some (.lst [])) none) om l):∃l',Y2 c [.o ho,.o N,.int (jJ:Nat),.int a,rw'] om=(blL (JR v))\(om++l'):=by
 have e1:ZC 5 (fA ZL Zi) (slA ho N jJ a rw' none none) om=(.nx,slA ho N jJ a rw' (some (.lst [])) none)\om:=Zt (i:=5) (ZB Zj<|Z2 .(2));by_cases h0:v=0
 ·subst h0
  have h:opA c (slA ho N jJ a rw' (some (.lst [])) none) om=(.nx,slA ho N jJ a rw' (some (.lst [])) none)\(om++l):=h;exact⟨l,ZD (Zh e1<|(Zh (Ah h)).trans (Zw (Zb rfl)))⟩
 ·unfold Vd at h
  rw[aD h0]at h;obtain⟨c1,c2,c3⟩:=ex_kit hc h0;generalize exV c v=C at *;refine⟨l++[.exc C],?_⟩;rw[← bT];generalize om++l=qH at h
  have hk:∀(D:qI) (sl:Sl),sl[6]?=↑(.o qH.length)->f1 (WA c.isE c.kit D) ?g sl (qH++[.exc C])=(.bl (c.kit C D))\(qH++[.exc C]):=λD sl h6=>(XU (Zb h6)).trans (by
   have:(qH++[Ob.exc C])[qH.length]?=some (.exc C):=by simp
   simp[WA,this,c2])
  simp only[aS,gW]at c3;have b1:ZC 5 (fA ZL #[f1 (WA c.isE c.kit (.ref c.NoPlace)) ?g,f1 (WA c.isE c.kit (.ref c.NoUnit)) ?g,f1 (WA c.isE c.kit (.ref c.OutOfReach)) ?g,f1 (WA c.isE c.kit (.ref c.Crowded)) ?g]) (slA ho N jJ a rw' (some (.lst [])) (some (.o qH.length))) (qH++[.exc C])=(.nx,slA ho N jJ a rw' (some (.lst [.bl (c.kit C (.ref c.NoPlace)),.bl (c.kit C (.ref c.NoUnit)),.bl (c.kit C (.ref c.OutOfReach)),.bl (c.kit C (.ref c.Crowded))])) (some (.o qH.length)))\(qH++[.exc C]):=Zt (i:=5) (ZB (Ze (hk _ _ rfl) (Ze (hk _ _ rfl) (Ze (hk _ _ rfl) (Ze (hk _ _ rfl) Zj))))<|Z2 .(2))
  have b2:ZC 5 (f2 Nq ?f (fA ZL #[f1 (WA c.isE c.kit (.ref c.NoSide)) ?g,f1 (WA c.isE c.kit (.type "ValueError")) ?g])) (slA ho N jJ a rw' (some (.lst [.bl (c.kit C (.ref c.NoPlace)),.bl (c.kit C (.ref c.NoUnit)),.bl (c.kit C (.ref c.OutOfReach)),.bl (c.kit C (.ref c.Crowded))])) (some (.o qH.length))) (qH++[.exc C])=(.nx,slA ho N jJ a rw' (some (blL (JR v))) (some (.o qH.length)))\(qH++[.exc C]):=by
   rw[← c3];exact Zt (i:=5) (cat_e (xs:=[.bl (c.kit C (.ref c.NoPlace)),.bl (c.kit C (.ref c.NoUnit)),.bl (c.kit C (.ref c.OutOfReach)),.bl (c.kit C (.ref c.Crowded))]) (ys:=[.bl (c.kit C (.ref c.NoSide)),.bl (c.kit C (.type "ValueError"))]) (Zb (i:=5) rfl) (ZB (Ze (hk _ _ rfl) (Ze (hk _ _ rfl) Zj))<|Z2 .(2)) .(2))
  have e2:FK (c.caught c.OrderError) 6 (opA c) (Zx (ZC 5 (fA ZL #[f1 (WA c.isE c.kit (.ref c.NoPlace)) ?g,f1 (WA c.isE c.kit (.ref c.NoUnit)) ?g,f1 (WA c.isE c.kit (.ref c.OutOfReach)) ?g,f1 (WA c.isE c.kit (.ref c.Crowded)) ?g])) (ZC 5 (f2 Nq ?f (fA ZL #[f1 (WA c.isE c.kit (.ref c.NoSide)) ?g,f1 (WA c.isE c.kit (.type "ValueError")) ?g])))) (slA ho N jJ a rw' (some (.lst [])) none) om=(.nx,slA ho N jJ a rw' (some (blL (JR v))) none)\(qH++[.exc C]):=by
   unfold FK;rw[h];dsimp only;rw[aC c1]
   have q:Z0 ((Zx (ZC 5 (fA ZL #[f1 (WA c.isE c.kit (.ref c.NoPlace)) ?g,f1 (WA c.isE c.kit (.ref c.NoUnit)) ?g,f1 (WA c.isE c.kit (.ref c.OutOfReach)) ?g,f1 (WA c.isE c.kit (.ref c.Crowded)) ?g])) (ZC 5 (f2 Nq ?f (fA ZL #[f1 (WA c.isE c.kit (.ref c.NoSide)) ?g,f1 (WA c.isE c.kit (.type "ValueError")) ?g])))) ((slA ho N jJ a rw' (some (.lst [])) none).set 6 (some (.o qH.length)))) (qH++[.exc C])=(.nx,slA ho N jJ a rw' (some (blL (JR v))) (some (.o qH.length)))\(qH++[.exc C]):=by
    have:=Zh b1<|b2;unfold Z0;rw[show(slA ho N jJ a rw' (some (.lst [])) none).set 6 (some (.o qH.length))=slA ho N jJ a rw' (some (.lst [])) (some (.o qH.length)) from rfl,this]
   rw[Zm q];rfl
  exact ZD (Zh e1<|(Zh e2).trans (Zw (Zb rfl)))
def due_in(c:CA)(m e:Bool)(om:iV):Xw c [.bl m,.bl e] om=(blL (JR (if m then 1 else if e then 2 else 0)))\om:=by
 cases m with
 |true=>exact ZD (Ys (Z9 (Y3 (Zb rfl))<|Zw (ZB (Ze Zp (Ze Zp (Ze Zp (Ze Zp (Ze Zp (Ze Zp Zj))))))<|Z2 .(2))))
 |false=>
  cases e with
  |true=>exact ZD (Zh (ZM (Y3 (Zb rfl)))<|Ys (Z9 (Y3 (Zb rfl))<|Zw (ZB (Ze Zp (Ze Zp (Ze Zp (Ze Zp (Ze Zp (Ze Zp Zj))))))<|Z2 .(2))))
  |false=>exact ZD (Zh (ZM (Y3 (Zb rfl)))<|(Zh (ZM (Y3 (Zb rfl)))).trans (Zw (ZB Zj<|Z2 .(2))))
section
variable{c:CA}{om:iV}{ho hb hm hu hl hg size qE N:Nat}{f:iF}{kvs:iT}{gs:Gs}{qF:Mx}{qD:iW}{a:Int}{rw':Wv}{x5 x6:Option Wv}{cl:iK}{go co pu af:iG}{v:Int->Int}
def Ur(jJ k:Nat):fB (f2 kEq ?c (fC (.int (k:Nat)))) (slA ho N jJ a rw' x5 x6) om=(decide (jJ=k))\om:=ZQ (Zr (Zb rfl) Zp<|(XM _ _ _).trans (by rw[show decide (((jJ:Nat):Int)=((k:Nat):Int))=decide (jJ=k) from g7.mpr .(0)]))
def HM{sl:Sl}{l:iV}(h:opA c sl om=(.nx,sl)\(om++l)):Vd c 0 sl om l:=by unfold Vd;rw[aC rfl];exact h
def OF{sl:Sl}{l:iV}{k:Nat}(hk:k≠0)(h:opA c sl om=(exV c k)∩(om++l)):Vd c k sl om l:=by unfold Vd;rw[aD hk];exact h
def ask0(A:Sit c om ho hb hm hu hl hg size qE f kvs gs qF qD)(hx:a.natAbs<1000):Vd c (if inP size a=true then (if mU qE f a=true then 0 else 2) else 1) (slA ho N 0 a rw' x5 x6) om []:=by
 have go:∀{r:Option (Except qJ Wv × iV)},Z6 c [.o ho,.int a] om=r->Zn c.Orders "told" 2 (Z6 c) ?a #[?d] (slA ho N 0 a rw' x5 x6) om=r:=λe=>Zv (Zb rfl) (Zu A.S.o) (Z8 _ _ _ .(1) .(1)) (Ze (Zb rfl) Zj) rfl<|e
 have u:=unitE A.W hx;have un:∀{C:qJ},Yg c [.o hb,.int a] om=(C∩om)->Z6 c [.o ho,.int a] om=C∩om:=λe=>W5 (UN (Wl (Zv (X8 A.S rfl) (Zu A.W.b) (Z1 _ _ _ .(1) .(1)) (Ze (Zb rfl) Zj) rfl<|e)))
 cases hp:inP size a with
 |false=>
  rw[hp,aD aF]at u;rw[aD aF];exact OF .(1) (Z9 (Ur 0 0)<|(by rw[bF];exact Wl (go (un u))))
 |true=>
  rw[hp,aC rfl]at u;rw[aC rfl];cases hm':mU qE f a with
  |false=>
   rw[hm',aD aF]at u;rw[aD aF];exact OF .(1) (Z9 (Ur 0 0)<|(by rw[bF];exact Wl (go (un u))))
  |true=>
   rw[aC rfl];obtain⟨k,s,rfl,hs⟩:=mU_t hm';exact HM (Z9 (Ur 0 0)<|(by rw[bF];exact ZW (go (Hz A.W A.S hs))))
def ask1(A:Sit c om ho hb hm hu hl hg size qE f kvs gs qF qD)(hx:a.natAbs<1000):Vd c (if inP size a=true then 0 else 1) (slA ho N 1 a rw' x5 x6) om []:=by
 have go:∀{r:Option (Except qJ Wv × iV)},Zz c [.o hb,.int a] om=r->Zn c.Board "side_at" 2 (Zz c) (f1 (ZG c.Orders "board") ?a) #[?d] (slA ho N 1 a rw' x5 x6) om=r:=λe=>Zv (X8 A.S rfl) (Zu A.W.b) (Z1 _ _ _ .(1) .(1)) (Ze (Zb rfl) Zj) rfl<|e
 cases hp:inP size a with
 |false=>
  rw[aD aF];exact OF .(1) (VT (Ur 1 0)<|(Z9 (Ur 1 1)).trans (by rw[bF];exact Wl (go (Je c A.W.b A.W.m (D1 hp) .(0)))))
 |true=>
  rw[aC rfl];obtain⟨us,e,p⟩:=A.W.u;exact HM (VT (Ur 1 0)<|(Z9 (Ur 1 1)).trans (by rw[bF];exact ZW (go (Pt c A.W.b A.W.m e (Q0 hp)))))
def MK{sl:Sl}{i:Nat}{fe:FE}(K:Tk c om N cl go co pu af hm)(h2:om[hm]?=some (YT c (size:Nat) hl))(hv:sl[i]?=↑(.o N))(he:fe sl om=(.int a)\om)(hx:a.natAbs<1000)(hp:inP size a=false):ZR (Zn c.Map "need_place" 2 (ZA c) (f1 (ZG c.Board "chart") (f1 (ZG c.Turn "board") (Za i))) #[fe]) sl om=c.NoPlace∩om:=
 Wl (Zv (LV K hv) (Zu h2) (Xa _ _ _ .(1) .(1)) (Ze he Zj) rfl<|JO c h2 (D1 hp) .(0))
def MT{sl:Sl}{i:Nat}{fe:FE}(K:Tk c om N cl go co pu af hm)(hv:sl[i]?=↑(.o N))(he:fe sl om=(.int a)\om)(hx:a.natAbs<1000)(h:(pu.lookup a).isSome=false):ZR (Zn c.Turn "need_aside" 2 (YL c) (Za i) #[fe]) sl om=c.NoUnit∩om:=by
 have r:XR c.NoUnit (Sm ?b SU) [some (.o N),some (.int a)] om=c.NoUnit∩om:=by
  simp[XR,Sm,SU,Au,Za,bnd,L2.ret,L2.KS,chk,show a.natAbs<1000000000000 by omega]
 exact Wl (Zv (Zb hv) (Zu K.t) (U3 "need_aside" _ _ _ _ _ .(1) .(1) .(1) .(1) .(1)) (Ze he Zj) rfl<|W5 (Z9 (ZQ (Zr (Zb rfl) (Yd rfl K.t (lk_pu ..))<|(Tj K.p true).trans (by rw[aC rfl,h];rfl)))<|r))
def ask2(K:Tk c om N cl go co pu af hm)(h2:om[hm]?=some (YT c (size:Nat) hl))(h3:om[hl]?=some (.dt kvs))(lv:size<=60)(hv:∀x∈pu,co.lookup x.1=some (v x.1))(hx:a.natAbs<1000):Vd c (if inP size a=true then (if (pu.lookup a).isSome=true then 0 else 2) else 1) (slA ho N 2 a rw' x5 x6) om []:=by
 have go:∀{r:Option (Except qJ Wv × iV)},Yx c [.o N,.int a] om=r->Zn c.Turn "may_go" 2 (Yx c) ?b #[?d] (slA ho N 2 a rw' x5 x6) om=r:=λe=>Zv (Zb rfl) (Zu K.t) (U3 "may_go" _ _ _ _ _ .(1) .(1) .(1) .(1) .(1)) (Ze (Zb rfl) Zj) rfl<|e
 have st:∀{r:Option (Except qJ (Fl × Sl) × iV)},ZR (Zn c.Turn "may_go" 2 (Yx c) ?b #[?d]) (slA ho N 2 a rw' x5 x6) om=r->opA c (slA ho N 2 a rw' x5 x6) om=r:=λe=>VT (Ur 2 0)<|(VT (Ur 2 1)).trans (Z9 (Ur 2 2)<|e)
 cases hp:inP size a with
 |false=>
  rw[aD aF];exact OF .(1) (by rw[bF];exact st (Wl (go (W5 (UN (MK (i:=0) K h2 rfl (Zb (i:=1) rfl) hx hp))))))
 |true=>
  rw[aC rfl];cases hq:(pu.lookup a).isSome with
  |false=>
   rw[aD aF];exact OF .(1) (by rw[bF];exact st (Wl (go (W5 (Zh (QL (i:=0) (fe:=Za 1) K h2 rfl (Zb rfl) (Q0 hp))<|UN (MT (i:=0) K rfl (Zb (i:=1) rfl) hx hq))))))
  |true=>
   rw[aC rfl];obtain⟨s,es⟩:=aO.mp hq;exact HM (by rw[bF];exact st (ZW (go (Do K h2 h3 lv (Q0 hp) hq (hv _ (Wy es))))))
end
section
variable{c:CA}{om:iV}{ho hb hm hu hl hg size qE N:Nat}{f:iF}{kvs:iT}{gs:Gs}{qF:Mx}{qD:iW}{g:Nat->Nat}{F:iL}{cl:iK}
abbrev TkO(c:CA)(om:iV)(N:Nat)(qE:Nat)(f:iF)(qD:iW)(g:Nat->Nat)(F:iL)(hm:Nat):Prop:=Tk c om N (clL qE qD f g F) (goP qE g F) (coP qE g F) (unP qE f (push f g F)) (gnP qE f g (Qb f F)++unP qE f (kept f g F)) hm
def B6{om:iV}{sl:Sl}{i:Nat}(k:Nat){ws:iR}{w:Wv}(h:sl[i]?=↑(.tup ws))(hw:ws[k]?=some w):f2 kIx (Za i) (fC (.int (k:Nat))) sl om=w\om:=Zr (Zb h) Zp<|ZP (k:=k) rfl hw
end
section
variable{c:CA}{om:iV}{ho hb hm hu hl hg size qE N:Nat}{f:iF}{kvs:iT}{gs:Gs}{qF:Mx}{qD:iW}{g:Nat->Nat}{F:iL}{cl:iK}
def pu_at{y:Nat}(qE:Nat)(h:y∈push f g F):(unP qE f (push f g F)).lookup ((qE:Int)+y)=some (sN f y):=Wt (Gw qE f ((VN f).sublist bZ)) (aY.mpr ⟨y,h,rfl⟩)
def EK{x:Int}(h:x∈arL (unP qE f (push f g F))):∃y∈push f g F,x=(qE:Int)+y:=by
 obtain⟨q,hq,e⟩:=aY.mp ((RY _ _).mp h);obtain⟨j,hj,rfl⟩:=aY.mp hq;exact⟨j,hj,e.symm⟩
def Gz{y:Nat}(h:y∈push f g F):y∈ZY f f.length/\y ∉ F/\∃k∈F,g k=y:=by
 obtain⟨h1,h2⟩:=aQ.mp h;rw[bW]at h2;obtain⟨k,hk,e⟩:=aY.mp (bH.mp h2.1);exact⟨h1,λz=>(by rw[bH.mpr z]at h2;exact absurd h2.2 aF),k,hk,e⟩
end
def cnt1{a:Int}:∀{qs:iG},(qs.map (·.2)).count a=1->∀{p q:Int × Int},p∈qs->q∈qs->p.2=a->q.2=a->p=q
 |r::l,h,p,q,hp,hq,ep,eq=>by
  rw[aS,List.count_cons]at h;by_cases hr:r.2=a
  ·rw[aC (cX.mpr hr)]at h
   have h0:(l.map (·.2)).count a=0:=by omega
   have no:∀x∈l,x.2≠a:=λx hx e=>List.count_eq_zero.mp h0 (aY.mpr ⟨x,hx,e⟩)
   rcases aN.mp hp with rfl|hp
   ·rcases aN.mp hq with rfl|hq
    ·rfl
    ·exact absurd eq (no q hq)
   ·exact absurd ep (no p hp)
  ·rw[aD (λz=>hr (cX.mp z))]at h
   have hp:p∈l:=(aN.mp hp).resolve_left λz=>hr (z ▸ ep)
   have hq:q∈l:=(aN.mp hq).resolve_left λz=>hr (z ▸ eq)
   exact cnt1 .(0) hp hq ep eq
section
variable{kvs:iT}{af pu qs:iG}{cl:iK}{n:Nat}{v:Int->Int}
def Py{x a:Int}(h:(Rs kvs af cl n v qs).lookup x=some a):(x,a)∈qs/\(qs.map (·.2)).count a=1/\af.lookup a=none:=by
 obtain⟨h1,h2⟩:=aQ.mp (Wy h);rw[bW]at h2;refine⟨h1,bC h2.1,?_⟩;obtain⟨b,hb,e⟩:=aY.mp (bH.mp h2.2);have:=(Ap hb).2;rw[e]at this;exact this
def JJ{p:Int × Int}(h:p∈VE (Rs kvs af cl n v qs) pu):∃x∈arL pu,(Rs kvs af cl n v qs).lookup x=some p.1/\p.2=(pu.lookup x).getD 0:=by
 obtain⟨x,hx,rfl⟩:=aY.mp h;obtain⟨h1,h2⟩:=aQ.mp hx;obtain⟨s,e⟩:=aO.mp h2;exact⟨x,h1,by rw[e];rfl,rfl⟩
def A4(np:(pu.map (·.1)).Nodup)(na:(af.map (·.1)).Nodup):((Y7 af++VE (Rs kvs af cl n v qs) pu).map (·.1)).Nodup:=by
 rw[bX];refine cq.mpr ⟨((YN af).map _).nodup_iff.mpr na,?_,λa ha b hb e=>?_⟩
 ·unfold VE
  rw[bA];have hs:(((arL pu).filter λx=>((Rs kvs af cl n v qs).lookup x).isSome)).Nodup:=((YD _).nodup_iff.mpr np).sublist bZ;refine cp.mpr (List.Pairwise.imp_of_mem (λ{x y} hx hy ne e=>ne ?_) hs);obtain⟨a,ea⟩:=aO.mp (aQ.mp hx).2;obtain⟨b,eb⟩:=aO.mp (aQ.mp hy).2;have e:((Rs kvs af cl n v qs).lookup x).getD 0=((Rs kvs af cl n v qs).lookup y).getD 0:=e;rw[ea,eb]at e;have e:a=b:=e;subst e;obtain⟨m1,c1,_⟩:=Py ea;obtain⟨m2,_,_⟩:=Py eb;exact(dE (cnt1 c1 m1 m2 rfl rfl)).1
 ·subst e
  obtain⟨p,hp,rfl⟩:=aY.mp hb;obtain⟨x,_,ex,_⟩:=JJ hp;obtain⟨q,hq,eq⟩:=aY.mp ha;have hq:=(YN af).mem_iff.mp hq;have:=Wt na (k:=q.1) (s:=q.2) hq;rw[eq,(Py ex).2.2]at this;cases this
end
section
variable{c:CA}{ns:iK}{om:iV}{ho hb hm hu hl hg size qE N:Nat}{f:iF}{kvs:iT}{gs:Gs}{qF:Mx}{qD:iW}{g:Nat->Nat}{F:iL}
def oroll{sl:Sl}{i:Nat}(A:Sit c om ho hb hm hu hl hg size qE f kvs gs qF qD)(h:sl[i]?=↑(.o ho)):Zn c.Board "roll" 1 (ZJ c) (f1 (ZG c.Orders "board") (Za i)) Zi sl om=(.lst ((unP qE f (ZY f f.length)).map prW))\om:=by
 refine Zv (X8 A.S h) (Zu A.W.b) (Z1 _ _ _ .(1) .(1)) Zj rfl<|(Iu A.W).trans ?_;rw[Mg];rfl
end
def Ay(a:Int){m:Nat}(h:0<m):∃k:Nat,a % (m:Int)=k/\k<m:=by
 have h1:=eF a (show(m:Int)≠0 by omega);have h2:=dw a (show 0<(m:Int) by omega);exact⟨(a % m).toNat,.(0),.(0)⟩
def modv5{sl:Sl}{om:iV}{fa fb:FE}{a q:Int}(h:fa sl om=(.int a)\om)(h2:fb sl om=(.int q)\om)(hq:0<q):f2 YI fa fb sl om=(.int (a % q))\om:=Zr h h2<|(by simp[kIc,L2.ret,hq])
section
variable{c:CA}{om:iV}{N hm i:Nat}{cl:iK}{go co pu af:iG}{sl:Sl}
def shut_e(K:Tk c om N cl go co pu af hm)(hv:sl[i]?=↑(.o N))(hl:cl.length<=60):Zn c.Turn "shut" 1 (WX c) (Za i) Zi sl om=(.lst (cl.map Wv.int))\om:=by
 refine Zv (Zb hv) (Zu K.t) (U3 "shut" _ _ _ _ _ .(1) .(1) .(1) .(1) .(1)) Zj rfl<|ZD (Zw ((ZB (Ze (Yd rfl K.t (lk_cl ..)) Zj)).trans ?_));show ZL (cl.map Wv.int) om=_;exact Z2 .(3)
end
def MY{S:FS}{om:iV}{N:Nat}{tw:Wv}{C:qJ}:∀{ps:iG} (x2 x3:Option Wv),(∀p∈ps,S [some (.o N),some tw,some (.int p.1),some (.int p.2)] om=(.nx,[some (.o N),some tw,some (.int p.1),some (.int p.2)])\om\/S [some (.o N),some tw,some (.int p.1),some (.int p.2)] om=C∩om)->(∃p∈ps,S [some (.o N),some tw,some (.int p.1),some (.int p.2)] om=C∩om)->WS (Sk [2,3]) S (ps.map prW) [some (.o N),some tw,x2,x3] om=C∩om
 |[],_,_,_,h=>by obtain⟨w,hw,_⟩:=h;cases hw
 |p::ps,x2,x3,h,h2=>by
  have e0:WS (Sk [2,3]) S ((p::ps).map prW) [some (.o N),some tw,x2,x3] om=bnd (S [some (.o N),some tw,some (.int p.1),some (.int p.2)]) (Qe λjd=>WS (Sk [2,3]) S (ps.map prW) jd) om:=rfl;rw[e0];rcases h p (.head _) with q|q
  ·rw[Zm q]
   obtain⟨u,hu,eu⟩:=h2;rcases aN.mp hu with rfl|hu
   ·rw[q]at eu;cases eu
   ·exact MY (some (.int p.1)) (some (.int p.2)) (λv hv=>h v (.tail _ hv)) ⟨u,hu,eu⟩
  ·exact Wl q
section
variable{c:CA}{om:iV}{ho hb hm hu hl hg size qE N:Nat}{f:iF}{kvs:iT}{gs:Gs}{qF:Mx}{qD:iW}{a:Int}{rw':Wv}{x5 x6:Option Wv}{cl:iK}{go co pu af:iG}{v:Int->Int}{ps:iG}{g:Nat->Nat}{F:iL}
def check_1(K:Tk c om N cl go co pu af hm)(h2:om[hm]?=some (YT c (size:Nat) hl))(hs:∀p∈ps,p.1.natAbs<1000/\p.2.natAbs<1000)(h:(ps.all λp=>inP size p.1&&inP size p.2)=false):Xj c [.o N,.lst (ps.map prW)] om=c.NoPlace∩om:=by
 obtain⟨q,hq,eq⟩:=List.all_eq_false.mp h
 have one:∀p∈ps,WH c [some (.o N),some (.lst (ps.map prW)),some (.int p.1),some (.int p.2)] om=if (inP size p.1&&inP size p.2)=true then (.nx,[some (.o N),some (.lst (ps.map prW)),some (.int p.1),some (.int p.2)])\om else (c.NoPlace∩om):=λp hp=>by
  obtain⟨s1,s2⟩:=hs p hp;cases c1:inP size p.1 with
  |false=>exact UN (MK (i:=0) K h2 rfl (Zb (i:=2) rfl) s1 c1)<|rfl
  |true=>
   refine(Zh (QL (i:=0) K h2 rfl (Zb (i:=2) rfl) (Q0 c1))).trans ?_;cases c2:inP size p.2 with
   |false=>exact MK (i:=0) K h2 rfl (Zb (i:=3) rfl) s2 c2<|rfl
   |true=>exact QL (i:=0) K h2 rfl (Zb (i:=3) rfl) (Q0 c2)<|rfl
 refine W5 (UN (GP (Zm (Zb (i:=1) (w:=.lst (ps.map prW)) rfl)<|rfl) (MY none none (λp hp=>?_) ⟨q,hq,?_⟩)))
 ·rw[one p hp]
  by_cases z:(inP size p.1&&inP size p.2)=true
  ·rw[aC z];exact .inl rfl
  ·rw[aD z];exact .inr rfl
 ·rw[one q hq,aD eq]
def B0(K:Tk c om N cl go co pu af hm)(h2:om[hm]?=some (YT c (size:Nat) hl))(hs:∀p∈ps,p.1.natAbs<1000)(h1:∀p∈ps,(0<=p.1/\p.1<(size:Nat))/\0<=p.2/\p.2<(size:Nat))(h:(ps.all λp=>(pu.lookup p.1).isSome)=false):Xj c [.o N,.lst (ps.map prW)] om=c.NoUnit∩om:=by
 obtain⟨q,hq,eq⟩:=List.all_eq_false.mp h
 obtain⟨sl1,qH,a1,x2,x3,rfl,rfl⟩:=XY (T:=Sk [2,3]) (S:=WH c) prW (λpre sl iu=>∃x2 x3,sl=[some (.o N),some (.lst (ps.map prW)),x2,x3]/\iu=om) ps [] (sl:=[some (.o N),some (.lst (ps.map prW)),none,none]) (om:=om) (λpre x post hq sl iu ⟨x2,x3,e1,e2⟩=>by
  subst e1 e2;have hx:=h1 x (by rw[show ps=pre++x::post from hq];simp);exact⟨_,_,_,rfl,Zh (QL (i:=0) K h2 rfl (Zb (i:=2) (w:=.int x.1) rfl) hx.1)<|QL (i:=0) K h2 rfl (Zb (i:=3) (w:=.int x.2) rfl) hx.2,_,_,rfl,rfl⟩) ⟨none,none,rfl,rfl⟩
 refine W5 (Zh (YY (sl1:=[]) (Zm (Zb (i:=1) (w:=.lst (ps.map prW)) rfl)<|rfl) a1)<|GP (Zm (Zb (i:=1) (w:=.lst (ps.map prW)) rfl)<|rfl) (MY x2 x3 (λp hp=>?_) ⟨q,hq,?_⟩))
 ·cases z:(pu.lookup p.1).isSome with
  |true=>exact .inl (My (i:=0) K rfl (Zb (i:=2) rfl) z)
  |false=>exact .inr (MT (i:=0) K rfl (Zb (i:=2) rfl) (hs p hp) z)
 ·exact MT (i:=0) K rfl (Zb (i:=2) rfl) (hs q hq) (by rw[hY]at eq;exact eq)
def ask3(A:Sit c om ho hb hm hu hl hg size qE f kvs gs qF qD)(T:Trn qE f qD g F)(K:TkO c om N qE f qD g F hm)(h7:f.length<=7)(hs:∀p∈ps,p.1.natAbs<1000/\p.2.natAbs<1000)(nd:(ps.map (·.1)).Nodup)(lp:ps.length<=30):∃l,Vd c (if (ps.all λp=>inP size p.1&&inP size p.2)=true then (if (ps.all λp=>((unP qE f (push f g F)).lookup p.1).isSome)=true then 0 else 2) else 1) (slA ho N 3 a (.lst (ps.map prW)) x5 x6) om l:=by
 have st:∀{r:Option (Except qJ (Fl × Sl) × iV)},ZR (fA (kN 2 (VZ c)) #[?b,?e]) (slA ho N 3 a (.lst (ps.map prW)) x5 x6) om=r->opA c (slA ho N 3 a (.lst (ps.map prW)) x5 x6) om=r:=λe=>VT (Ur 3 0)<|(VT (Ur 3 1)).trans (VT (Ur 3 2)<|e)
 have go:∀{r:Option (Except qJ Wv × iV)},VZ c [.o N,.lst (ps.map prW)] om=r->fA (kN 2 (VZ c)) #[?b,?e] (slA ho N 3 a (.lst (ps.map prW)) x5 x6) om=r:=λe=>ZB (Ze (Zb rfl) (Ze (Zb rfl) Zj))<|(Yz rfl).trans e
 have er:∀{C:qJ},Xj c [.o N,.lst (ps.map prW)] om=(C∩om)->VZ c [.o N,.lst (ps.map prW)] om=C∩om:=λe=>W5 (UN (Wl (ZB (Ze (Zb rfl) (Ze (Zb rfl) Zj))<|(Yz rfl).trans e)))
 cases hp:(ps.all λp=>inP size p.1&&inP size p.2) with
 |false=>
  rw[aD aF];exact⟨[],OF .(1) (by rw[bF];exact st (Wl (go (er (check_1 K A.W.m hs hp)))))⟩
 |true=>
  rw[aC rfl]
  have h1:∀p∈ps,(0<=p.1/\p.1<(size:Nat))/\0<=p.2/\p.2<(size:Nat):=λp hq=>by
   have:=cS.mp hp p hq;rw[bW]at this;exact⟨Q0 this.1,Q0 this.2⟩
  cases hq:(ps.all λp=>((unP qE f (push f g F)).lookup p.1).isSome) with
  |false=>
   rw[aD aF];exact⟨[],OF .(1) (by rw[bF];exact st (Wl (go (er (B0 K A.W.m (λp hp=>(hs p hp).1) h1 hq)))))⟩
  |true=>
   rw[aC rfl];have ul:=X7 f f.length;have pl:(push f g F).length<=(ZY f f.length).length:=aI _ _;have gk:=TJ f g F;have np:=Gw qE f ((VN f).sublist (bZ (p:=λx=>(F.map g).contains x&&!F.contains x)))
   have e8:=aft_in (v:=aCy qE g F) (ps:=ps) K A.W.m A.W.l A.W.few (Pu T.nd T.inj) np nd (λx hx=>⟨cS.mp hq x hx,h1 x hx⟩) lp .(3) (by rw[aV,aB,aB];omega) (A4 np (Ji T)) (λp hp=>by
    rcases dD.mp hp with hp|hp
    ·exact Ks A T p ((YN _).mem_iff.mp hp)
    ·obtain⟨x,hx,ex,e2⟩:=JJ hp
     obtain⟨m1,_,_⟩:=Py ex;obtain⟨y,hy,qf⟩:=EK hx;refine⟨(h1 _ m1).2,?_⟩;rw[e2,qf,pu_at qE hy];exact A.s7 y _ (Rb (Gz hy).1).2)
   exact⟨_,HM (st (ZW (go e8)))⟩
end
def chainI{fa fb fc:FE}{sl:Sl}{om:iV}{a b d:Int}(h1:fa sl om=(.int a)\om)(h2:fb sl om=(.int b)\om)(h3:fc sl om=(.int d)\om):TK kLe kLt fa fb fc sl om=(.bl (decide (a<=b)&&decide (b<d)))\om:=by
 unfold TK;refine Zm h1<|(Zm h2).trans ((Zm (a:=.bl (decide (a<=b))) (qH:=om) rfl).trans ?_);refine(Zm (a:=decide (a<=b)) (qH:=om) rfl).trans ?_;by_cases h:a<=b
 ·rw[bG h,aC rfl];exact Zm h3<|rfl
 ·rw[aG h,aD aF];rfl
def Dt{fa fb:FE}{sl:Sl}{om:iV}{a b:Bool}(h:fa sl om=(.bl a)\om)(h2:fb sl om=(.bl b)\om):Jq fa fb sl om=(.bl (a || b))\om:=by
 cases a <;> simp[Jq,bnd,h,h2,kB,L2.ret]
section
variable{c:CA}{ns:iK}
def num_in{qG qE size:Nat}(hm:0<qG)(h7:qG<=7)(ho:qE<=60)(k:Nat)(om:iV):∃x:Int,x.natAbs<1000/\Y5 c [Yj ns,ZH qG qE size,.int (k:Nat)] om=(.int x)\om:=by
 have s1:ZC 3 (fA (kN 2 (Zq c)) #[?a,?c]) [some (Yj ns),some (ZH qG qE size),some (.int (k:Nat)),none] om=(.nx,[some (Yj ns),some (ZH qG qE size),some (.int (k:Nat)),some (.int (ns.getD k 0))])\om:=Zt (i:=3) (SN c (i:=0) rfl (Zb rfl));have v3:Za 3 [some (Yj ns),some (ZH qG qE size),some (.int (k:Nat)),some (.int (ns.getD k 0))] om=(.int (ns.getD k 0))\om:=Zb rfl;have t:=ZQ (Zr (Wa (q:=4) v3 .(1)) Zp<|XM _ (1:Int) om);have d4:=Tx (q:=4) v3 ⟨.(1),.(1)⟩;generalize ns.getD k 0=cl at *;by_cases h:cl % 4=1
 ·rw[bG h]at t
  refine⟨cl / 4 % 200-70,.(0),ZD (Zh s1<|Ys (Z9 t<|Zw (Zr (Wa (q:=200) d4 .(1)) Zp<|rfl)))⟩
 ·rw[aG h]at t
  have e1:=modv5 d4 (B6 (om:=om) (sl:=[some (Yj ns),some (ZH qG qE size),some (.int (k:Nat)),some (.int cl)]) 0 (i:=1) (w:=.int (qG:Nat)) rfl rfl) .(0);have b1:=eF (cl / 4) (show(qG:Int)≠0 by omega);have b2:=dw (cl / 4) (show 0<(qG:Int) by omega);exact⟨(qE:Int)+cl / 4 % (qG:Int),.(0),ZD (Zh s1<|(Zh (ZM t)).trans (Zw (Zr (B6 1 (i:=1) (w:=.int (qE:Nat)) rfl rfl) e1<|rfl)))⟩
def Cg(om:iV)(l:iK):Wk true (.lst (l.map Wv.int)) (.lst []) om=(.bl (!l.isEmpty))\om:=by
 have h2:Xz om (.lst [])=some (.list []):=rfl;have h3:VI (.list [])=true:=N8 [];unfold Wk;rw[py_l,h2];dsimp only;rw[N8 l,h3];cases l <;> rfl
def Cc{sl:Sl}{om:iV}{q i:Nat}{aw:iK}{a:Int}(h0:sl[0]?=↑(Yj ns))(h6:sl[6]?=↑(.lst (aw.map Wv.int)))(hi:sl[i]?=↑(.int a))(ha:a.natAbs<1000)(hw:∀x∈aw,x.natAbs<1000)(hl:aw.length<=60):∃b:Int,b.natAbs<1000/\sIf (VS (fB (f2 kNe ?g (fA ZL Zi))) (fB (f2 kEq (f2 YI (fA (kN 2 (Zq c)) #[?a,fC (.int (q:Nat))]) ?C) ?B))) (ZC i (f2 kIx ?g (f2 YI (f2 Ue (fA (kN 2 (Zq c)) #[?a,fC (.int (q:Nat))]) ?C) (fA Ws #[?g])))) Yr sl om=(.nx,sl.set i (some (.int b)))\om:=by
 have ce:=SN c (om:=om) (ns:=ns) (k:=q) (i:=0) (fe:=fC (.int (q:Nat))) (sl:=sl) h0 Zp
 have keep:sl.set i (some (.int a))=sl:=by
  apply de;intro j;rw[g6];by_cases z:i=j
  ·subst z;rw[aC rfl,aC (aJ.mp hi).1,hi]
  ·rw[aD z]
 have t1:=ZQ (Zr (Zb (om:=om) h6) (ZB Zj<|Z2 (ws:=[]) .(2))<|Cg om aw);have t2:=ZQ (Zr (Wa (q:=2) ce .(1)) Zp<|XM _ (1:Int) om);have t:=Up t1 λ_=>t2
 cases z:(!aw.isEmpty&&decide (ns.getD q 0 % 2=1)) with
 |false=>
  rw[z]at t;exact⟨a,ha,by rw[keep];exact ZM t⟩
 |true=>
  rw[z]at t
  have hp:0<aw.length:=by
   rw[bW]at z;cases aw with
   |nil=>cases z.1
   |cons _ _=>simp
  obtain⟨j,hj,jg⟩:=Ay (ns.getD q 0 / 2) hp;refine⟨aw[j],hw _ (du jg),Z9 t<|Zt (Zr (Zb h6) (modv5 (Tx (q:=2) ce ⟨.(1),.(1)⟩) (ZB (Ze (Zb h6) Zj)<|TD (xs:=aw.map Wv.int) rfl) .(3)<|(by rw[aB,hj]))<|ZP (k:=j) rfl (by rw[bB,aK jg];rfl))⟩
end
def NK{α:Type}(om:iV){φ:α->Wv}{ψ:α->PyData}(h:∀x,XJ om (φ x)=some (ψ x)):∀l:List α,pysOf om (l.map φ)=some (l.map ψ)
 |[]=>rfl
 |p::r=>by
  show(match XJ om (φ p),pysOf om (r.map φ) with|some d,some ds=>some (d::ds)|_,_=>none)=_;rw[NK om h r,h];rfl
def K4{α:Type}{ψ:α->PyData}(h:∀x,(ψ x).canLay0=true/\(ψ x).depth<=1)(l:List α):PyData.canLayAll0 (l.map ψ)=true/\PyData.depthAll (l.map ψ)<=1:=by
 induction l with
 |nil=>exact⟨rfl,by simp[PyData.depthAll]⟩
 |cons n r ih=>exact⟨by simp[PyData.canLayAll0,(h n).1];exact ih.1,by have:=ih.2;have:=(h n).2;simp[PyData.depthAll];omega⟩
def eq5{α β γ δ ε:Type}{mP:α->Wv}{mQ:β->Wv}{mR:γ->Wv}{mS:δ->Wv}{mT:ε->Wv}{mV:α->PyData}{ψb:β->PyData}{mW:γ->PyData}{mX:δ->PyData}{mY:ε->PyData}(om:iV)(ha:∀x,XJ om (mP x)=some (mV x)) (hb:∀x,XJ om (mQ x)=some (ψb x)) (hc:∀x,XJ om (mR x)=some (mW x)) (hd:∀x,XJ om (mS x)=some (mX x)) (he:∀x,XJ om (mT x)=some (mY x))(ka:∀x,(mV x).canLay0=true/\(mV x).depth<=1) (kb:∀x,(ψb x).canLay0=true/\(ψb x).depth<=1) (kc:∀x,(mW x).canLay0=true/\(mW x).depth<=1) (kd:∀x,(mX x).canLay0=true/\(mX x).depth<=1) (ke:∀x,(mY x).canLay0=true/\(mY x).depth<=1)(a:List α) (b:List β) (c:List γ) (d:List δ) (e:List ε):Wk false (.tup [.lst (a.map mP),.lst (b.map mQ),.lst (c.map mR),.lst (d.map mS),.lst (e.map mT)]) (.tup [.lst (a.map mP),.lst (b.map mQ),.lst (c.map mR),.lst (d.map mS),.lst (e.map mT)]) om=(.bl true)\om:=by
 have p:Xz om (.tup [.lst (a.map mP),.lst (b.map mQ),.lst (c.map mR),.lst (d.map mS),.lst (e.map mT)])=some (.tuple [.list (a.map mV),.list (b.map ψb),.list (c.map mW),.list (d.map mX),.list (e.map mY)]):=by
  show XJ om (.tup _)=_;simp only[XJ,pysOf,NK om ha,NK om hb,NK om hc,NK om hd,NK om he];rfl
 have ⟨a1,a2⟩:=K4 ka a;have ⟨b1,b2⟩:=K4 kb b;have ⟨c1,c2⟩:=K4 kc c;have ⟨d1,d2⟩:=K4 kd d;have ⟨e1,e2⟩:=K4 ke e;refine Gg p p ?_ false;simp[VI,PyData.canLay0,PyData.canLayAll0,PyData.depth,PyData.depthAll,a1,b1,c1,d1,e1];omega
def C4(om:iV)(p:Int × Int):XJ om (prW p)=some (.tuple [.int p.1,.int p.2]):=rfl
def in_py(om:iV)(a:Int):XJ om (.int a)=some (.int a):=rfl
def IN(p:Int × Int):(PyData.tuple [.int p.1,.int p.2]).canLay0=true/\(PyData.tuple [.int p.1,.int p.2]).depth<=1:=⟨rfl,by simp[PyData.depth,PyData.depthAll]⟩
def in_lay(a:Int):(PyData.int a).canLay0=true/\(PyData.int a).depth<=1:=⟨rfl,by simp[PyData.depth]⟩
section
variable{c:CA}{ns:iK}{om:iV}{ho hb hm hu hl hg size qE N:Nat}{f:iF}{kvs:iT}{gs:Gs}{qF:Mx}{qD:iW}{g:Nat->Nat}{F:iL}
abbrev AH(qE:Nat)(f:iF)(qD:iW)(g:Nat->Nat)(F:iL):Wv:=.tup [.lst ((Y7 (goP qE g F)).map prW),.lst ((arL (unP qE f (push f g F))).map (arW (unP qE f (push f g F)) (aCy qE g F))),.lst ((clL qE qD f g F).map Wv.int),.lst ((Y7 (gnP qE f g (Qb f F)++unP qE f (kept f g F))).map prW),.lst ((unP qE f (ZY f f.length)).map prW)]
def HQ{sl:Sl}(A:Sit c om ho hb hm hu hl hg size qE f kvs gs qF qD)(T:Trn qE f qD g F)(K:TkO c om N qE f qD g F hm)(h7:f.length<=7)(s3:sl[3]?=↑(.o ho))(s4:sl[4]?=↑(.o N)):fA YU #[Zn c.Turn "done" 1 (We c) ?e Zi,Zn c.Turn "aside" 1 (Yl c) ?e Zi,Zn c.Turn "shut" 1 (WX c) ?e Zi,Zn c.Board "roll" 1 (ZJ c) (f1 (ZG c.Turn "board") ?e) Zi,Zn c.Board "roll" 1 (ZJ c) (f1 (ZG c.Orders "board") ?d) Zi] sl om=(AH qE f qD g F)\om:=by
 have ul:=X7 f f.length;have pl:(push f g F).length<=(ZY f f.length).length:=aI _ _;have gk:=TJ f g F;have lF:F.length<=30:=bL (SZ T.nd T.sub) T.few;have c1:(clL qE qD f g F).length<=(mvL qD f).length:=by have:=HF ((mvL qD f).map λ(k:Nat)=>(qE:Int)+(g k:Nat)) (F.map λ(k:Nat)=>(qE:Int)+(g k:Nat));rw[aB]at this;exact this
 have fw:=T.few;exact ZB (Ze (done_e K s4 .(3)) (Ze (L5 (v:=aCy qE g F) K s4 .(3) (Gw qE f ((VN f).sublist bZ)) (Pu T.nd T.inj)) (Ze (shut_e K s4 .(0)) (Ze (Bc K s4 (by rw[aV,aB,aB];omega)) (Ze (oroll A s3) Zj)))))<|YX .(2)
def AH_eq(om:iV):Wk false (AH qE f qD g F) (AH qE f qD g F) om=(.bl true)\om:=
 eq5 (ψb:=λx=>.tuple [.int x,.int (((unP qE f (push f g F)).lookup x).getD 0),.int (aCy qE g F x)]) om (C4 om) (λ_=>rfl) (in_py om) (C4 om) (C4 om) IN (λ_=>⟨rfl,by simp[PyData.depth,PyData.depthAll]⟩) in_lay IN IN _ _ _ _ _
def Df{a:Int}:((unP qE f (ZY f f.length)).map (·.1)).contains a=mU qE f a:=by
 unfold mU;rw[JG];generalize ZY f f.length=l
 induction l with
 |nil=>rfl
 |cons k l ih=>
  show((((qE:Int)+k)::(unP qE f l).map (·.1)).contains a)=_;rw[dP,ih,aS,aH];cases h:(a == (qE:Int)+k) <;> rfl
def MD{a:Int}:(arL (unP qE f (push f g F))).contains a=((unP qE f (push f g F)).lookup a).isSome:=by
 have e:(arL (unP qE f (push f g F))).contains a=((unP qE f (push f g F)).map (·.1)).contains a:=by
  rw[dU,bH,bH,RY]
 rw[e];generalize push f g F=l
 induction l with
 |nil=>rfl
 |cons k l ih=>
  show((((qE:Int)+k)::(unP qE f l).map (·.1)).contains a)=_;rw[dP,ih];show _=(List.lookup a (((qE:Int)+k,sN f k)::unP qE f l)).isSome;rw[aH];cases h:(a == (qE:Int)+k) <;> rfl
def Rt{sl:Sl}(hc:CAok c){fm fe:FE}{jJ v:Nat}{a:Int}{rw':Wv}{m e:Bool}{l:iV}(h:Vd c v (slA ho N jJ a rw' (some (.lst [])) none) om l)(s3:sl[3]?=↑(.o ho))(s4:sl[4]?=↑(.o N))(s7:sl[7]?=↑(.int a))(s9:sl[9]?=↑rw')(hm:∀iu,fm sl iu=(.bl m)\iu) (he:∀iu,fe sl iu=(.bl e)\iu) (hv:v=if m then 1 else if e then 2 else 0):∃l',fB (f2 kNe (fA (kN 5 (Y2 c)) #[?d,?e,fC (.int (jJ:Nat)),?h,?j]) (fA (kN 2 (Xw c)) #[fm,fe])) sl om=false\(om++l'):=by
 obtain⟨l',q⟩:=ask_in hc h;refine⟨l',ZQ ((Zr (ZB (Ze (Zb s3) (Ze (Zb s4) (Ze Zp (Ze (Zb s7) (Ze (Zb s9) Zj)))))<|(Yz rfl).trans q) (ZB (Ze (hm _) (Ze (he _) Zj))<|(Yz rfl).trans (due_in c m e _))).trans ?_)⟩;rw[← hv];exact Gg (Dp _ _) (Dp _ _) (Co _) true
end
abbrev slQ(ns:iK)(x1 x2 x3 x4 x5 x6 x7 x8 x9 n6 mZ m4:Option Wv):Sl:=[some (Yj ns),x1,x2,x3,x4,x5,x6,x7,x8,x9,n6,mZ,m4]
section
variable{c:CA}{ns:iK}{om:iV}{ho hb hm hu hl hg size qE N qG:Nat}{f:iF}{kvs:iT}{gs:Gs}{qF:Mx}{qD:iW}{g:Nat->Nat}{F:iL}{a b x y:Int}{x5 mZ m4 W:Option Wv}
def OL{sl:Sl}{i:Nat}(iu:iV)(hi:sl[i]?=↑(.int a))(h2:sl[2]?=↑(.int (size:Nat))):f1 Ma (TK kLe kLt ?A (Za i) ?c) sl iu=(.bl (!inP size a))\iu:=XU (chainI Zp (Zb hi) (Zb h2))<|rfl
noncomputable abbrev UV (qE:Nat) (f:iF) (g:Nat->Nat) (F:iL):=(some (.lst ((arL (unP qE f (push f g F))).map Wv.int)):Option Wv)
noncomputable abbrev UO (a) (x) (b) (y):=(some (.lst ([(a,x),(b,y)].map prW)):Option Wv)
noncomputable abbrev Pw (ns:iK) (W) (size:Nat) (ho:Nat) (N:Nat):=slQ ns W (some (.int (size:Nat))) (some (.o ho)) (some (.o N))
def ask_4(hc:CAok c)(A:Sit c om ho hb hm hu hl hg size qE f kvs gs qF qD)(T:Trn qE f qD g F)(K:TkO c om N qE f qD g F hm)(h7:f.length<=7)(ha:a.natAbs<1000)(jR:b.natAbs<1000)(hx:x.natAbs<1000)(hy:y.natAbs<1000)(mn:Option Wv):∃l jc,sIf (fB (f2 kNe ?h ?i)) (Zx (ZC 11 (fA ZL #[?h,?i,f2 kIx (f2 kIx ?j ?A) ?B,f2 kIx (f2 kIx ?j ?B) ?B]))
    (Zx (ZC 12 (Jq (f2 kLt (fA (Tg mnL) #[?l]) ?A) (f2 kGe (fA (Tg mxL) #[?l]) ?c)))
    (sIf (fB (f2 kNe (fA (kN 5 (Y2 c)) #[?d,?e,?D,?h,?j]) (fA (kN 2 (Xw c)) #[Za 12,Jq (f2 (W3 true) ?h ?g) (f2 (W3 true) ?i ?g)]))) (Ye (fC (.bl false))) Yr))) Yr
    (Pw ns W size ho N x5 (UV qE f g F) (some (.int a)) (some (.int b)) (UO a x b y) mn none none) om=(.nx,jc)\(om++l)/\jc[3]?=↑(.o ho)/\jc[4]?=↑(.o N)/\jc[5]?=some x5:=by
 have t:=ZQ (Zr (qH:=om) (om2:=om) (Zb (sl:=slQ ns W (some (.int (size:Nat))) (some (.o ho)) (some (.o N)) x5 (UV qE f g F) (some (.int a)) (some (.int b)) (UO a x b y) mn none none) (i:=7) rfl) (Zb (i:=8) rfl)<|Tw a b om);by_cases jQ:a=b
 ·rw[bG jQ]at t
  exact⟨[],_,by rw[bF];exact ZM t,rfl,rfl,rfl⟩
 ·rw[aG jQ]at t
  have i9:∀(k:Nat) (p:Int × Int),[(a,x),(b,y)][k]?=some p->f2 kIx (f2 kIx ?j (fC (.int (k:Nat)))) ?B (Pw ns W size ho N x5 (UV qE f g F) (some (.int a)) (some (.int b)) (UO a x b y) mn none none) om=(.int p.2)\om:=λk p hp=>Zr (Zr (Zb (i:=9) rfl) Zp<|ZP (k:=k) (v:=prW p) rfl (by rw[bB,hp];rfl)) Zp<|ZP (k:=1) rfl rfl
  have s11:ZC 11 (fA ZL #[?h,?i,f2 kIx (f2 kIx ?j ?A) ?B,f2 kIx (f2 kIx ?j ?B) ?B]) (Pw ns W size ho N x5 (UV qE f g F) (some (.int a)) (some (.int b)) (UO a x b y) mn none none) om=(.nx,slQ ns W (some (.int (size:Nat))) (some (.o ho)) (some (.o N)) x5 (UV qE f g F) (some (.int a)) (some (.int b)) (UO a x b y) mn (some (.lst ([a,b,x,y].map Wv.int))) none)\om:=Zt (i:=11) (ZB (Ze (Zb rfl) (Ze (Zb rfl) (Ze (i9 0 (a,x) rfl) (Ze (i9 1 (b,y) rfl) Zj))))<|Z2 .(2))
  have em:∀(gg:iK->Int),fA (Tg gg) #[?l] (Pw ns W size ho N x5 (UV qE f g F) (some (.int a)) (some (.int b)) (UO a x b y) mn (some (.lst ([a,b,x,y].map Wv.int))) none) om=(.int (gg [a,b,x,y]))\om:=λgg=>(ZB (Ze (Zb (i:=11) rfl) Zj)).trans (by
   show(match Xv ([a,b,x,y].map Wv.int) with|some ns=>(if ns≠[] then some (Except.ok (Wv.int (gg ns)),om) else none)|none=>none)=_;rw[VL];rfl)
  have s12:=Zt (i:=12) (Dt (fa:=f2 kLt (fA (Tg mnL) #[?l]) ?A) (fb:=f2 kGe (fA (Tg mxL) #[?l]) ?c) (a:=decide (mnL [a,b,x,y]<0)) (b:=decide (mxL [a,b,x,y] ≥ (size:Int))) (Zr (em mnL) Zp<|rfl) (Zr (em mxL) (Zb (i:=2) rfl)<|rfl))
  have hmm:(decide (mnL [a,b,x,y]<0) || decide (mxL [a,b,x,y] ≥ (size:Int)))=!([(a,x),(b,y)].all λp=>inP size p.1&&inP size p.2):=by
   obtain⟨m1,m2⟩:=LJ (ns:=[a,b,x,y]) .(2);obtain⟨n1,n2⟩:=LJ (ns:=[a,b,x,y].map λz=>-z) .(2);have e:mxL [a,b,x,y]=-mnL ([a,b,x,y].map λz=>-z):=rfl;rw[e];generalize mnL ([a,b,x,y].map λz=>-z)=q at n1 n2;generalize mnL [a,b,x,y]=p at m1 m2;have h1:=m2 a .(2);have h2:=m2 b .(2);have h3:=m2 x .(2);have h4:=m2 y .(2);have k1:=n2 (-a) .(2);have k2:=n2 (-b) .(2);have k3:=n2 (-x) .(2);have k4:=n2 (-y) .(2);simp only[aN,aY,en,gT]at m1 n1;rw[dU];simp only[dS,decide_eq_true_eq,eO,eW,List.all_nil,Bool.and_true,inP,Bool.and_eq_false_iff,decide_eq_false_iff_not];obtain⟨z,hz,rfl⟩:=n1;constructor
   ·intro h
    rcases h with h|h <;> rcases m1 with rfl|rfl|rfl|rfl <;> rcases hz with rfl|rfl|rfl|rfl <;> omega
   ·intro h
    omega
  rw[hmm]at s12
  obtain⟨l,hq⟩:=ask3 (a:=a) (x5:=some (.lst [])) (x6:=none) (ps:=[(a,x),(b,y)]) A T K h7 (λp hp=>by
   simp only[aN,en,gT]at hp;rcases hp with rfl|rfl
   ·exact⟨ha,hx⟩
   ·exact⟨jR,hy⟩) (by simp;exact jQ) .(2)
  obtain⟨l',d⟩:=Rt (sl:=slQ ns W (some (.int (size:Nat))) (some (.o ho)) (some (.o N)) x5 (UV qE f g F) (some (.int a)) (some (.int b)) (UO a x b y) mn (some (.lst ([a,b,x,y].map Wv.int))) (some (.bl (!([(a,x),(b,y)].all λp=>inP size p.1&&inP size p.2))))) (fm:=Za 12) (fe:=Jq (f2 (W3 true) ?h ?g) (f2 (W3 true) ?i ?g)) (e:=!(((unP qE f (push f g F)).lookup a).isSome) || !(((unP qE f (push f g F)).lookup b).isSome)) hc hq rfl rfl rfl rfl (λiu=>Zb rfl) (λiu=>Dt (Zr (Zb (i:=7) rfl) (Zb (i:=6) rfl)<|(TQ a rfl true).trans (by rw[aC rfl,MD])) (Zr (Zb (i:=8) rfl) (Zb (i:=6) rfl)<|(TQ b rfl true).trans (by rw[aC rfl,MD]))) (by
   cases ([(a,x),(b,y)].all λp=>inP size p.1&&inP size p.2) with
   |false=>rfl
   |true=>
    simp only[eW,List.all_nil,Bool.and_true];cases ((unP qE f (push f g F)).lookup a).isSome <;> cases ((unP qE f (push f g F)).lookup b).isSome <;> rfl)
  exact⟨l',_,Z9 t<|(Zh s11).trans (Zh s12<|ZM d),rfl,rfl,rfl⟩
end
noncomputable abbrev YZ (qG:Nat) (qE:Nat) (size:Nat) (qF:Mx):=(some (.tup [ZH qG qE size,.lst (qF.map Yw),.o 0,.o 1]):Option Wv)
noncomputable abbrev XE (qE:Nat) (f:iF) (qD:iW) (F:iL):=(some (.lst ((arL (unP qE f (push f (gO qD) F))).map Wv.int)):Option Wv)
noncomputable abbrev RG (qE:Nat) (f:iF):=(some (.lst (((unP qE f (ZY f f.length)).map (·.1)).map Wv.int)):Option Wv)
noncomputable abbrev V5 (f:iF) (qD:iW):=([.lst (f.map ZK),.lst (qD.map odW)]:iV)
noncomputable abbrev TW (a) (x) (b) (y):=(some (.lst ([(a,x),(b,y)].map prW)):Option Wv)
noncomputable abbrev Mv (c:CA) (size:Nat) (kvs:iT) (qE:Nat) (f:iF) (qG:Nat) (gs:Gs):=([YT c size 3,.dt kvs,YM c 2 5,.dk (ZE (Xf qE f qG)),Y9 c 4 7,.dk (Xc c qE gs)]:iV)
noncomputable abbrev VW (ns:iK) (qG:Nat) (qE:Nat) (size:Nat) (qF:Mx) (N:Nat) (f:iF) (qD:iW) (F:iL):=slQ ns (YZ qG qE size qF) (some (.int (size:Nat))) (some (.o 6)) (some (.o N)) (some (AH qE f qD (gO qD) F))
def DP(c:CA)(hc:CAok c)(ns:iK):∃om,g_law c [Yj ns] []=(.bl true)\om:=by
 have ja:=ZT;obtain⟨qG,qE,size,qF,f,qD,h2,h7,h1,lv,lk,hf,hs,G,ew⟩:=Dg c ns;have s1:ZC 1 (fA (kN 1 (Vg c)) #[?a]) (slQ ns none none none none none none none none none none none none) []=(.nx,slQ ns (YZ qG qE size qF) none none none none none none none none none none none)\(V5 f qD):=Zt (i:=1) (ZB (Ze (Zb rfl) Zj)<|(Yz rfl).trans ew);have wk:∀(om:iV) (sl:Sl) (k:Nat) (v:Wv),sl[1]?=some (YZ qG qE size qF)->[ZH qG qE size,.lst (qF.map Yw),.o 0,.o 1][k]?=some v->f2 kIx ?b (fC (.int (k:Nat))) sl om=v\om:=λom sl k v h1 h2=>Zr (Zb h1) Zp<|ZP (k:=k) rfl h2
 have s2:ZC 2 (f2 kIx (f2 kIx ?b ?A) ?C) (slQ ns (YZ qG qE size qF) none none none none none none none none none none none) (V5 f qD)=(.nx,slQ ns (YZ qG qE size qF) (some (.int (size:Nat))) none none none none none none none none none none)\(V5 f qD):=Zt (i:=2) (Zr (wk _ _ 0 _ rfl rfl) Zp<|ZP (k:=2) (v:=.int (size:Nat)) rfl rfl);obtain⟨kvs,gs,eg,mo,t⟩:=DX (c:=c) lk hf h1 lv h7 hs G (V5 f qD) (tw:=.o 1) (λiu h=>JH rfl h) (sw:=.o 0) (λiu h=>JH rfl h);have A1:Sit c ((V5 f qD)++(Mv c size kvs qE f qG gs)) 6 4 2 5 3 7 size qE f kvs gs qF qD:=⟨⟨rfl,rfl,⟨Xf qE f qG,rfl,by rw[hf]⟩,rfl,.(0),lv⟩,⟨rfl,rfl⟩,G,t,hs⟩;have s3:ZC 3 (fA (kN 4 (Wj c)) #[f2 kIx ?b ?A,f2 kIx ?b ?B,f2 kIx ?b ?C,f2 kIx ?b ?D]) (slQ ns (YZ qG qE size qF) (some (.int (size:Nat))) none none none none none none none none none none) (V5 f qD)=(.nx,slQ ns (YZ qG qE size qF) (some (.int (size:Nat))) (some (.o 6)) none none none none none none none none none)\((V5 f qD)++(Mv c size kvs qE f qG gs)):=Zt (i:=3) (ZB (Ze (wk _ _ 0 _ rfl rfl) (Ze (wk _ _ 1 _ rfl rfl) (Ze (wk _ _ 2 _ rfl rfl) (Ze (wk _ _ 3 _ rfl rfl) Zj))))<|(Yz rfl).trans eg);generalize (V5 f qD)++(Mv c size kvs qE f qG gs)=qH at s3 A1;have T:=trn_of qE G .(0);obtain⟨l1,e4,K⟩:=turn_k A1 T;have A:=A1.grow l1;have s4:ZC 4 (fA (XS c.Turn 2 (WT c)) #[?d]) (slQ ns (YZ qG qE size qF) (some (.int (size:Nat))) (some (.o 6)) none none none none none none none none none) qH=(.nx,slQ ns (YZ qG qE size qF) (some (.int (size:Nat))) (some (.o 6)) (some (.o qH.length)) none none none none none none none none)\(qH++l1):=Zt (i:=4) (ZB (Ze (Zb rfl) Zj)<|e4);have f7:f.length<=7:=by omega
 generalize qH++l1=om at s4 A K;generalize qH.length=N at s4 K;generalize US qD f 100 (mvL qD f)=F at T K;have ul:=X7 f f.length;have pl:(push f (gO qD) F).length<=(ZY f f.length).length:=aI _ _;have la:(arL (unP qE f (push f (gO qD) F))).length=(push f (gO qD) F).length:=by rw[(YD _).length_eq,aB,aB]
 have s5:=Zt (i:=5) (HQ (sl:=slQ ns (YZ qG qE size qF) (some (.int (size:Nat))) (some (.o 6)) (some (.o N)) none none none none none none none none) A T K f7 rfl rfl)
 have s6:ZC 6 (Yk ZL [] (λsl=>bnd ((Zn c.Turn "aside" 1 (Yl c) ?e Zi) sl) ZO) Xl (Iq c)) (VW ns qG qE size qF N f qD F none none none none none none none) om=(.nx,slQ ns (YZ qG qE size qF) (some (.int (size:Nat))) (some (.o 6)) (some (.o N)) (some (AH qE f qD (gO qD) F)) (XE qE f qD F) none none none none none none)\om:=by
  have cm:=Yi (cT:=Xl) (f:=Iq c) (mk:=λw=>XN [] w (VW ns qG qE size qF N f qD F none none none none none none none)) (om:=om) (arW (unP qE f (push f (gO qD) F)) (aCy qE (gO qD) F)) (λ_=>true) (λx=>Wv.int x) (l:=arL (unP qE f (push f (gO qD) F))) (λx hx=>rfl) (λx hx _=>B6 0 (ws:=[.int x,.int (((unP qE f (push f (gO qD) F)).lookup x).getD 0),.int (aCy qE (gO qD) F x)]) rfl rfl);rw[bV.mpr (λ_ _=>rfl)]at cm;exact Zt (i:=6) (XH (qH:=om) (om2:=om) (Zm (L5 (v:=aCy qE (gO qD) F) (i:=4) K rfl .(3) (Gw qE f ((VN f).sublist bZ)) (Pu T.nd T.inj))<|rfl) .(3) cm<|Z2 .(3))
 have nu:∀(sl:Sl) (k:Nat),sl[0]?=↑(Yj ns)->sl[1]?=some (YZ qG qE size qF)->∃x:Int,x.natAbs<1000/\fA (kN 3 (Y5 c)) #[?a,f2 kIx ?b ?A,fC (.int (k:Nat))] sl om=(.int x)\om:=λsl k e0 e1=>by
  obtain⟨x,hx,e⟩:=num_in (c:=c) (ns:=ns) (qG:=qG) (qE:=qE) (size:=size) .(0) h7 .(0) k om;exact⟨x,hx,ZB (Ze (Zb e0) (Ze (wk _ _ 0 _ e1 rfl) (Ze Zp Zj)))<|(Yz rfl).trans e⟩
 obtain⟨a0,qg,n7⟩:=nu (VW ns qG qE size qF N f qD F (XE qE f qD F) none none none none none none) 17 rfl rfl;have s7:=Zt (i:=7) n7;obtain⟨b0,qh,n8⟩:=nu (VW ns qG qE size qF N f qD F (XE qE f qD F) (some (.int a0)) none none none none none) 18 rfl rfl;have s8:=Zt (i:=8) n8
 have hw:∀x∈arL (unP qE f (push f (gO qD) F)),x.natAbs<1000:=λx hx=>by
  obtain⟨y,hy,rfl⟩:=EK hx;have:=(Rb (Gz hy).1).1;omega
 obtain⟨a,ha,p7⟩:=Cc (c:=c) (ns:=ns) (om:=om) (q:=21) (i:=7) (sl:=slQ ns (YZ qG qE size qF) (some (.int (size:Nat))) (some (.o 6)) (some (.o N)) (some (AH qE f qD (gO qD) F)) (XE qE f qD F) (some (.int a0)) (some (.int b0)) none none none none) rfl rfl rfl qg hw .(0);obtain⟨b,hb,p8⟩:=Cc (c:=c) (ns:=ns) (om:=om) (q:=22) (i:=8) (sl:=slQ ns (YZ qG qE size qF) (some (.int (size:Nat))) (some (.o 6)) (some (.o N)) (some (AH qE f qD (gO qD) F)) (XE qE f qD F) (some (.int a)) (some (.int b0)) none none none none) rfl rfl rfl qh hw .(0);obtain⟨x,hx,n9⟩:=nu (VW ns qG qE size qF N f qD F (XE qE f qD F) (some (.int a)) (some (.int b)) none none none none) 19 rfl rfl;obtain⟨y,hy,qi⟩:=nu (VW ns qG qE size qF N f qD F (XE qE f qD F) (some (.int a)) (some (.int b)) none none none none) 20 rfl rfl;have s9:=Zt (i:=9) (ZB (Ze (ZB (Ze (Zb (i:=7) rfl) (Ze n9 Zj))<|YX .(2)) (Ze (ZB (Ze (Zb (i:=8) rfl) (Ze qi Zj))<|YX .(2)) Zj))<|Z2 (ws:=[(a,x),(b,y)].map prW) .(2))
 have kK:ZC 10 (Yk ZL [] (λsl=>bnd ((Zn c.Board "roll" 1 (ZJ c) (f1 (ZG c.Orders "board") ?d) Zi) sl) ZO) Xl (Ir c)) (VW ns qG qE size qF N f qD F (XE qE f qD F) (some (.int a)) (some (.int b)) (TW a x b y) none none none) om=(.nx,slQ ns (YZ qG qE size qF) (some (.int (size:Nat))) (some (.o 6)) (some (.o N)) (some (AH qE f qD (gO qD) F)) (XE qE f qD F) (some (.int a)) (some (.int b)) (TW a x b y) (RG qE f) none none)\om:=by
  have cm:=Yi (cT:=Xl) (f:=Ir c) (mk:=λw=>XN [] w (VW ns qG qE size qF N f qD F (XE qE f qD F) (some (.int a)) (some (.int b)) (TW a x b y) none none none)) (om:=om) prW (λ_=>true) (λx=>Wv.int x.1) (l:=unP qE f (ZY f f.length)) (λx hx=>rfl) (λx hx _=>B6 0 (ws:=[.int x.1,.int x.2]) rfl rfl);rw[bV.mpr (λ_ _=>rfl)]at cm;refine Zt (i:=10) (XH (qH:=om) (om2:=om) (us:=((unP qE f (ZY f f.length)).map (·.1)).map Wv.int) (Zm (oroll (i:=3) A rfl)<|rfl) (by rw[aB,aB];omega) ?_<|Z2 (by rw[aB,aB,aB];omega));rw[show((unP qE f (ZY f f.length)).map (·.1)).map Wv.int=(unP qE f (ZY f f.length)).map λx=>Wv.int x.1 from bA];exact cm
 obtain⟨m0,d0⟩:=Rt (sl:=slQ ns (YZ qG qE size qF) (some (.int (size:Nat))) (some (.o 6)) (some (.o N)) (some (AH qE f qD (gO qD) F)) (XE qE f qD F) (some (.int a)) (some (.int b)) (TW a x b y) (RG qE f) none none) (fe:=f2 (W3 true) ?h ?k) (e:=!mU qE f a) hc (ask0 (N:=N) (rw':=.lst ([(a,x),(b,y)].map prW)) A ha) rfl rfl rfl rfl (λiu=>OL (i:=7) iu rfl rfl) (λiu=>Zr (Zb rfl) (Zb rfl)<|(TQ a rfl true).trans (by rw[aC rfl,Df])) (by cases inP size a <;> cases mU qE f a <;> rfl);have A:=A.grow m0;have K:=K.grow m0;generalize om++m0=om2 at d0 A K;obtain⟨m1,d1⟩:=Rt (sl:=slQ ns (YZ qG qE size qF) (some (.int (size:Nat))) (some (.o 6)) (some (.o N)) (some (AH qE f qD (gO qD) F)) (XE qE f qD F) (some (.int a)) (some (.int b)) (TW a x b y) (RG qE f) none none) (fe:=fC (.bl false)) (e:=false) hc (ask1 (N:=N) (rw':=.lst ([(a,x),(b,y)].map prW)) A ha) rfl rfl rfl rfl (λiu=>OL (i:=7) iu rfl rfl) (λiu=>Zp) (by cases inP size a <;> rfl);have A:=A.grow m1;have K:=K.grow m1;generalize om2++m1=jH at d1 A K;obtain⟨m2,d2⟩:=Rt (sl:=slQ ns (YZ qG qE size qF) (some (.int (size:Nat))) (some (.o 6)) (some (.o N)) (some (AH qE f qD (gO qD) F)) (XE qE f qD F) (some (.int a)) (some (.int b)) (TW a x b y) (RG qE f) none none) (fe:=f2 (W3 true) ?h ?g) (e:=!((unP qE f (push f (gO qD) F)).lookup a).isSome) hc (ask2 (ho:=6) (N:=N) (v:=aCy qE (gO qD) F) (rw':=.lst ([(a,x),(b,y)].map prW)) K A.W.m A.W.l A.W.few (Pu T.nd T.inj) ha) rfl rfl rfl rfl (λiu=>OL (i:=7) iu rfl rfl) (λiu=>Zr (Zb rfl) (Zb rfl)<|(TQ a rfl true).trans (by rw[aC rfl,MD])) (by cases inP size a <;> cases ((unP qE f (push f (gO qD) F)).lookup a).isSome <;> rfl);have A:=A.grow m2;have K:=K.grow m2;generalize jH++m2=lU at d2 A K;obtain⟨m3,jc,d3,z3,z4,z5⟩:=ask_4 (ns:=ns) (W:=some (.tup [ZH qG qE size,.lst (qF.map Yw),.o 0,.o 1])) (x5:=some (AH qE f qD (gO qD) F)) hc A T K f7 ha hb hx hy (RG qE f);have A:=A.grow m3;have K:=K.grow m3;generalize lU++m3=ny at d3 A K;exact⟨ny,ZD (Zh s1<|(Zh s2).trans (Zh s3<|(Zh s4).trans (Zh s5<|(Zh s6).trans (Zh s7<|(Zh s8).trans (Zh p7<|(Zh p8).trans (Zh s9<|(Zh kK).trans (Zh (ZM d0)<|(Zh (ZM d1)).trans (Zh (ZM d2)<|(Zh d3).trans (Zw (Zr (Zb (i:=5) z5) (HQ A T K f7 z3 z4)<|AH_eq ny))))))))))⟩
open PySem L2 PyProof.Rows
def Ed:bootBuiltins "list"=some (.type "list"):=by decide +kernel
def BK:bootBuiltins "ValueError"=some (.type "ValueError"):=by decide +kernel
def Ki:bootBuiltins "any"=some (.builtin "any"):=by decide +kernel
def Kx:bootBuiltins "min"=some (.builtin "min"):=by decide +kernel
def Kt:bootBuiltins "max"=some (.builtin "max"):=by decide +kernel
structure All(K:W.Frag)(mg:iB)(c:CA):Prop where
 a0:AtC K mg c.Board "Board" ["chart","units"]
 a1:AtC K mg c.Map "Map" ["links","size"]
 a2:AtC K mg c.Orders "Orders" ["board","given"]
 a3:AtC K mg c.Turn "Turn" ["board","closed","comers","goals","pushed"]
 a4:ExF K mg c.Crowded "Crowded"
 a5:ExF K mg c.NoPlace "NoPlace"
 a6:ExF K mg c.NoSide "NoSide"
 a7:ExF K mg c.NoUnit "NoUnit"
 a8:ExF K mg c.OutOfReach "OutOfReach"
 a9:∃t,mg "FACED"=some (.int 2 t)
 aa:∃t,mg "FREE"=some (.int 0 t)
 ab:∃t,mg "HELD"=some (.int 3 t)
 ac:∃t,mg "LAST_SIDE"=some (.int 7 t)
 ad:mg "OrderError"=some (.ref c.OrderError)
 ae:∃t,mg "RIVAL"=some (.int 1 t)
 af:mg "STAND"=some (.ref c.STAND)
 ag:GTup K c.STAND
 ah:mg "ValueError"=none
 ai:mg "any"=none
 aj:mg "isinstance"=none
 ak:mg "len"=none
 al:mg "list"=none
 am:mg "max"=none
 an:mg "min"=none
 ao:mg "range"=none
 ap:mg "set"=none
 aq:mg "sorted"=none
 ar:GF K mg "_law_cell_at" st_0 ["script","k"]
 au:GF K mg "_law_frame" st_1 ["script"]
 av:GF K mg "_law_links" st_2 ["script","many"]
 aw:GF K mg "_law_sides" st_3 ["script","many"]
 ax:GF K mg "_law_order_by" st_4 ["cell","k","links","sides"]
 ay:GF K mg "_law_orders" st_5 ["script","links","sides"]
 az:GF K mg "_law_world" st_6 ["script"]
 b0:NF K c.Map "Map.__init__" st_7 ["self","size"]
 b1:MF K c.Map "need_place" "Map.need_place" st_8 ["self","at"]
 b2:MF K c.Map "link" "Map.link" st_9 ["self","a","b"]
 b3:GF K mg "_law_chart" st_10 ["frame","links"]
 b4:NF K c.Board "Board.__init__" st_11 ["self","chart"]
 b5:MF K c.Board "post" "Board.post" st_12 ["self","at","side"]
 b6:GF K mg "_law_board" st_13 ["frame","links","sides"]
 b7:NF K c.Orders "Orders.__init__" st_14 ["self","board"]
 b8:MF K c.Board "side_at" "Board.side_at" st_15 ["self","at"]
 b9:MF K c.Board "need_unit" "Board.need_unit" st_16 ["self","at"]
 ba:MF K c.Orders "stand" "Orders.stand" st_17 ["self","at"]
 bb:MF K c.Orders "need_all" "Orders.need_all" st_18 ["self","places","units"]
 bc:MF K c.Map "beside" "Map.beside" st_19 ["self","a","b"]
 bd:MF K c.Orders "need_beside" "Orders.need_beside" st_20 ["self","at","goal"]
 be:MF K c.Orders "move" "Orders.move" st_21 ["self","at","goal"]
 bf:MF K c.Orders "aid" "Orders.aid" st_22 ["self","at","helped","goal"]
 bg:GF K mg "_law_give" st_23 ["orders","off","told","k"]
 bh:GF K mg "_law_given" st_24 ["frame","links","sides","told"]
 bi:MF K c.Orders "goal_of" "Orders.goal_of" st_25 ["self","at"]
 bj:MF K c.Orders "movers" "Orders.movers" st_26 ["self"]
 bk:MF K c.Board "roll" "Board.roll" st_27 ["self"]
 bl:MF K c.Orders "told" "Orders.told" st_28 ["self","at"]
 bm:GF K mg "is_cut" st_29 ["orders","at"]
 bn:GF K mg "fits" st_30 ["orders","helped","goal"]
 bo:GF K mg "counts" st_31 ["orders","at"]
 bp:GF K mg "backs" st_32 ["orders","helper","at"]
 bq:GF K mg "backing" st_33 ["orders","at"]
 br:GF K mg "force" st_34 ["orders","at"]
 bs:GF K mg "weigh_movers" st_35 ["orders"]
 bt:GF K mg "is_outdone" st_36 ["orders","forces","at"]
 bu:GF K mg "force_against" st_37 ["orders","at","side"]
 bv:GF K mg "overcomes" st_38 ["orders","at","goal","strength"]
 bw:GF K mg "firmness" st_39 ["orders","at"]
 bx:GF K mg "hindrance" st_40 ["orders","forces","at"]
 bz:GF K mg "hindrances" st_41 ["orders"]
 c0:GF K mg "fault" st_42 ["orders","found","at","places"]
 c1:GF K mg "strikes" st_43 ["orders"]
 c2:GF K mg "settled" st_44 ["orders"]
 c3:GF K mg "units_after" st_45 ["board","goals","comers"]
 c4:GF K mg "posted_board" st_46 ["chart","units"]
 c5:NF K c.Turn "Turn.__init__" st_47 ["self","orders"]
 c6:MF K c.Turn "shut" "Turn.shut" st_48 ["self"]
 c7:MF K c.Turn "aside" "Turn.aside" st_49 ["self"]
 c8:MF K c.Turn "done" "Turn.done" st_50 ["self"]
 c9:GF K mg "_law_number" st_51 ["script","frame","k"]
 ca:MF K c.Turn "need_aside" "Turn.need_aside" st_52 ["self","at"]
 cb:MF K c.Map "near" "Map.near" st_53 ["self","a"]
 cc:MF K c.Turn "may_go" "Turn.may_go" st_54 ["self","at"]
 cd:GF K mg "check_told" st_55 ["turn","told"]
 ce:GF K mg "after" st_56 ["turn","told"]
 cf:GF K mg "_law_asked" st_57 ["orders","turn","way","a","row"]
 cg:GF K mg "_law_due" st_58 ["missing","empty"]
 ch:GF K mg "law" Dy ["script"]
 ci:ExcAll K c.isE c.kit c.Ds
 cj:∀C,c.caught c.OrderError C=true->W.exmOne K (.ref C) (.ref c.OrderError)=some true
section
variable{K:W.Frag}{mg:iB}{c:CA}(T:All K mg c)
local macro_rules|`(?n)=>`(L2.Zf 0)|`(?o)=>`(L2.Zf 1)|`(?p)=>`(L2.Zf 2)|`(?q)=>`(L2.Zf 3)|`(?r)=>`(L2.Zf 4)|`(?s)=>`(L2.Zf 5)|`(?t)=>`(L2.Zf 6)|`(?u)=>`(L2.Zf 7)|`(?v)=>`(L2.Zf 8)|`(?w)=>`(L2.Zf 9)|`(?x)=>`(L2.Zf 10)|`(?y)=>`(L2.Zf 11)|`(?z)=>`(L2.Zf 12)
local macro_rules|`(#[$a])=>`(L2.Zd $a L2.Zk)|`(#[$a,$b,*])=>`(L2.Zd $a #[$b,*])
def ZN:GO K mg 1 "_law_cell_at" 2 (Zq c):=gOk T.ar ["script","k"] λhr hu Sc=>(Zg (YV (Gv ?o (Vp rfl T.ak #[?n])) (Yn (ZU ?n ?o)))
      (Yn Zl))
def Nw:GO K mg 2 "_law_frame" 1 (W9 c):=gOk T.au ["script","many"] λhr hu Sc=>(Zg (YE 1 (Xo Zl (YB (ZS (ZN T) #[?n,Zl]) Zl)))
      (Zg (YV (Xg hu (YB (Ww (ZS (ZN T) #[?n,Zl]) Zl) Zl) Zl) (Yn (Yv #[?o,YB (Ww (ZS (ZN T) #[?n,Zl]) Zl) (CS Zl ?o),Zl])))
      (Yn (Yv #[?o,Zl,?o]))))
def Nj:GO K mg 2 "_law_links" 2 (UP c):=gOk T.av ["script","many","bits","links","a","b"] λhr hu Sc=>(Zg (YE 2 (YB (ZS (ZN T) #[?n,Zl]) Zl))
      (Zg (YV (Xg hu (YB (ZS (ZN T) #[?n,Zl]) Zl) Zl) (Zs (YE 2 Zl)))
      (Zg (Vy 3 (cOk ["many"]) (YA rfl T.ao ?o) Xd (qe_rep QB #[XG] ?o))
      (Zg (UC 4 (YA rfl T.ao ?o) (Zs (UC 5 (YA rfl T.ao ?r) (Zg (TB (RS hu (YB ?p Zl) Zl) (ZU ?q ?r) ?s)
      (Zg (TB (RS hu (YB ?p Zl) Zl) (ZU ?q ?s) ?r)
      (Zs (YE 2 (Ww ?p Zl))))))))
      (Yn ?q)))))
def Oi:GO K mg 2 "_law_links" 2 (WN c):=GO.tidy (Nj T)
def ND:GO K mg 2 "_law_sides" 2 (Vc c):=gOk T.aw ["script","many","sides","k","cell"] λhr hu Sc=>(Zg (YE 2 (HG Zk))
      (Zg (UC 3 (YA rfl T.ao ?o) (Zg (YE 4 (ZS (ZN T) #[?n,Xo Zl ?q]))
      (Zs (Kq (Xg hu (YB ?r Zl) Zl) (Zs (Z3 (Qf ?p LG))) (Zs (Kq (Xg hu (YB (Ww ?r Zl) Zl) Zl) (Zs (Z3 (Qf ?p (YB (Ww ?r Zl) Zl)))) (Zs (Z3 (Qf ?p (YB (Ww ?r Zl) Zl))))))))))
      (Yn ?p)))
def Qj:GO K mg 1 "_law_order_by" 4 (Y1 c):=gOk T.ax ["cell","k","links","sides","near","goal","able"] λhr hu Sc=>(Zg (Vy 4 (cOk ["k","links"]) (YA rfl T.ao (Vp rfl T.ak #[?q])) (YG (XA (ZU (ZU ?p ?o) ?n))) ?n)
      (Zg (YV (SS (ZU ?q ?o)) (Yn LG))
      (Zg (YV (PW.pt (GN (Io (XA ?r)) (Ld (Xg hu (YB ?n Zl) Zl)))) (Yn (Yv #[Xq])))
      (Zg (YE 5 (ZU ?r (YB (Ww ?n Zl) (Vp rfl T.ak #[?r]))))
      (Zg (YV (Gv (YB ?n Zl) Zl) (Yn (Yv #[Xq,?s])))
      (Zg (Vy 6 (cOk ["k","links","sides","goal"]) (YA rfl T.ao (Vp rfl T.ak #[?q])) (YG (PW.pt (Vz (Vw hu ?n ?o) (Vz (Pn (ZU ?q ?n)) (WO (PW.pt (GN (Xg hu ?n ?r) (Ld (XA (ZU (ZU ?p ?n) ?r)))))))))) ?n)
      (Zg (YV (Io (XA ?t)) (Yn (Yv #[Xq])))
      (Yn (Yv #[Xq,ZU ?t (YB (Ww ?n Zl) (Vp rfl T.ak #[?t])),?s])))))))))
def Q8:GO K mg 2 "_law_orders" 3 (Wp c):=gOk T.ay ["script","links","sides"] λhr hu Sc=>(Yn (TF (cOk ["script","links","sides"]) (YA rfl T.ao (Vp rfl T.ak #[?p])) Xd (ZS (Qj T) #[ZS (ZN T) #[?o,Xo Zl ?n],?n,?p,?q])))
def Nh:GO K mg 3 "_law_world" 1 (Vg c):=gOk T.az ["script","frame","links","sides","twice","pushed","k","told"] λhr hu Sc=>(Zg (YE 1 (ZS (Nw T) #[?n]))
      (Zg (YV (Xg hu (YB (ZS (ZN T) #[?n,Zl]) Zl) Zl) (Zs (YE 1 (Yv #[Zl,Ak rfl rfl T.an Kx #[ZU ?o Zl,Zl],qe_max2 rfl rfl T.am Kt #[ZU ?o Zl,Zl]]))))
      (Zg (YE 2 (ZS (Oi T) #[?n,ZU ?o Zl]))
      (Zg (YE 3 (ZS (ND T) #[?n,ZU ?o Zl]))
      (Zg (YE 4 (RS hu (YB (ZS (ZN T) #[?n,Zl]) Zl) Zl))
      (Zg (YE 5 (Ql (qe_gt (ZU ?o Zl) Zl) (QD (RS hu (YB (ZS (ZN T) #[?n,Zl]) Zl) Zl))))
      (Zg (YV (XA ?s) (Zg (Vy 2 (cOkO ["frame"]) (YA rfl T.ao (ZU ?o Zl)) Xd (TF (cOk ["a"]) (YA rfl T.ao (ZU ?o Zl)) Xd (Dz hu ?o ?n)))
      (Zs (UC 6 (YA rfl T.ao Zl) (Zs (TB (YB ?t Zl) ?q ?t))))))
      (Zg (YV (XA ?r) (Zg (UC 6 (YA rfl T.ao Zl) (Zs (TB (YB ?t Zl) ?q (Xo Zl ?t))))
      (Zs (TB LG ?q Zl))))
      (Zg (YE 7 (ZS (Q8 T) #[?n,?p,?q]))
      (Zg (YV (XA ?s) (Zg (TB (Yv #[Xq,Zl]) ?u Zl)
      (Zg (TB (Yv #[Xq,Zl,Zl]) ?u Zl)
      (Zs (YV (qt_gt (YB (Ww (ZS (ZN T) #[?n,Zl]) Zl) Zl) Zl) (Zs (TB (Yv #[Xq]) ?u Zl)))))))
      (Zg (YV (XA ?r) (Zg (TB (Yv #[Xq,Zl]) ?u Zl)
      (Zg (TB (Yv #[Xq]) ?u Zl)
      (Zs (TB (Yv #[Xq,Zl,Zl]) ?u Zl)))))
      (Yn (Yv #[?o,?p,?q,?u])))))))))))))
def JC:NO K mg 1 c.Map 2 (VC c):=nOk T.b0 ["self","size"] λhr hu Sc=>(Zg (Td T.a1 ?o ?n)
      (Zs (Td T.a1 CB ?n)))
def ZX:MO K mg 1 c.Map "need_place" 2 (ZA c):=mOk T.b1 ["self","at"] λhr hu Sc=>(Zs (YV (PW.pt (GN (Gv ?o Zl) (Ld (qt_ge ?o (Ym T.a1 ?n))))) (Zs (To T.a5 (UW ?o (Vv TN))))))
def KZ:MO K mg 2 c.Map "link" 3 (SL c):=mOk T.b2 ["self","a","b"] λhr hu Sc=>(Zg (Z3 (Z4 T.a1 (ZX T) ?n #[?o]))
      (Zg (Z3 (Z4 T.a1 (ZX T) ?n #[?p]))
      (Zg (YV (Xg hu ?o ?p) (Zs (To T.a8 (Vv (UW ?o (Vv TN))))))
      (Zg (XZ hu XG (Ym T.a1 ?n) (Yv #[?o,?p]))
      (Zs (XZ hu XG (Ym T.a1 ?n) (Yv #[?p,?o])))))))
def NA:GO K mg 3 "_law_chart" 2 (Ve c):=gOk T.b3 ["frame","links","chart","a","b"] λhr hu Sc=>(Zg (YE 2 (Jw T.a1 (JC T) #[ZU ?n Zl]))
      (Zg (UC 3 (YA rfl T.ao (ZU ?n Zl)) (Zs (UC 4 (YA rfl T.ao ?q) (Zs (YV (XA (ZU (ZU ?o ?q) ?r)) (Zs (Z3 (Z4 T.a1 (KZ T) ?p #[Xo (ZU ?n Zl) ?q,Xo (ZU ?n Zl) ?r]))))))))
      (Yn ?p)))
def Sv:NO K mg 1 c.Board 2 (Xh c):=nOk T.b4 ["self","chart"] λhr hu Sc=>(Zg (Td T.a0 ?o ?n)
      (Zs (Td T.a0 WW ?n)))
def SF:MO K mg 2 c.Board "post" 3 (Vi c):=mOk T.b5 ["self","at","side"] λhr hu Sc=>(Zg (Z3 (Z4 T.a1 (ZX T) (Ym T.a0 ?n) #[?o]))
      (Zg (YV (PW.pt (GN (Gv ?p Zl) (Ld (qt_gt ?p (Tn rfl T.ac))))) (Zs (To T.a6 (UW ?p (Vv TN)))))
      (Zg (YV (OJ hu ?o (Ym T.a0 ?n)) (Zs (To T.a4 (Vv (UW ?o TN)))))
      (Zs (XZ hu ?p (Ym T.a0 ?n) ?o)))))
def Nr:GO K mg 4 "_law_board" 3 (Vk c):=gOk T.b6 ["frame","links","sides","board","k"] λhr hu Sc=>(Zg (YE 3 (Jw T.a0 (Sv T) #[ZS (NA T) #[?n,?o]]))
      (Zg (UC 4 (YA rfl T.ao (ZU ?n Zl)) (Zs (YV (Pn (ZU ?p ?r)) (Zs (Z3 (Z4 T.a0 (SF T) ?q #[Xo (ZU ?n Zl) ?r,ZU ?p ?r]))))))
      (Yn ?q)))
def PY:NO K mg 1 c.Orders 2 (XV c):=nOk T.b7 ["self","board"] λhr hu Sc=>(Zg (Td T.a2 ?o ?n)
      (Zs (Td T.a2 WW ?n)))
def Yq:MO K mg 2 c.Board "side_at" 2 (Zz c):=mOk T.b8 ["self","at"] λhr hu Sc=>(Zg (Z3 (Z4 T.a1 (ZX T) (Ym T.a0 ?n) #[?o]))
      (Yn (AC hu (Ym T.a0 ?n) ?o)))
def X3:MO K mg 3 c.Board "need_unit" 2 (Yg c):=mOk T.b9 ["self","at"] λhr hu Sc=>(Zs (YV (SS (Z4 T.a0 (Yq T) ?n #[?o])) (Zs (To T.a7 (Vv (UW ?o TN))))))
def Pa:MO K mg 4 c.Orders "stand" 2 (Vo c):=mOk T.ba ["self","at"] λhr hu Sc=>(Zg (Z3 (Z4 T.a0 (X3 T) (Ym T.a2 ?n) #[?o]))
      (Zs (XZ hu (Ke rfl T.af) (Ym T.a2 ?n) ?o)))
def Vu:MO K mg 4 c.Orders "need_all" 3 (YJ c):=mOk T.bb ["self","places","units","at"] λhr hu Sc=>(Zg (UC 3 (Yb ?o) (Zs (Z3 (Z4 T.a1 (ZX T) (Ym T.a0 (Ym T.a2 ?n)) #[?q]))))
      (Zs (UC 3 (Yb ?p) (Zs (Z3 (Z4 T.a0 (X3 T) (Ym T.a2 ?n) #[?q]))))))
def Nt:MO K mg 2 c.Map "beside" 3 (U4 c):=mOk T.bc ["self","a","b"] λhr hu Sc=>(Zg (Z3 (Z4 T.a1 (ZX T) ?n #[?o]))
      (Zg (Z3 (Z4 T.a1 (ZX T) ?n #[?p]))
      (Yn (qe_din hu (Yv #[?o,?p]) (Ym T.a1 ?n)))))
def Xp:MO K mg 3 c.Orders "need_beside" 3 (Z7 c):=mOk T.bd ["self","at","goal"] λhr hu Sc=>(Zs (YV (Io (XA (Z4 T.a1 (Nt T) (Ym T.a0 (Ym T.a2 ?n)) #[?o,?p]))) (Zs (To T.a8 (Vv (UW ?p (Vv (UW ?o TN))))))))
def OG:MO K mg 5 c.Orders "move" 3 (Ug c):=mOk T.be ["self","at","goal"] λhr hu Sc=>(Zg (Z3 (Z4 T.a2 (Vu T) ?n #[X6 #[?o,?p],X6 #[?o]]))
      (Zg (Z3 (Z4 T.a2 (Xp T) ?n #[?o,?p]))
      (Zs (XZ hu (Yv #[Xq,?p]) (Ym T.a2 ?n) ?o))))
def NB:MO K mg 5 c.Orders "aid" 4 (UJ c):=mOk T.bf ["self","at","helped","goal"] λhr hu Sc=>(Zg (Z3 (Z4 T.a2 (Vu T) ?n #[X6 #[?o,?p,?q],X6 #[?o,?p]]))
      (Zg (YV (Xg hu ?p ?o) (Zs (To T.a8 (Vv (UW ?o (Vv TN))))))
      (Zg (Z3 (Z4 T.a2 (Xp T) ?n #[?o,?q]))
      (Zg (YV (Vw hu ?q ?p) (Zs (Z3 (Z4 T.a2 (Xp T) ?n #[?p,?q]))))
      (Zs (XZ hu (Yv #[Xq,?p,?q]) (Ym T.a2 ?n) ?o))))))
def Lm:GO K mg 6 "_law_give" 4 (V4 c):=gOk T.bg ["orders","off","told","k","order"] λhr hu Sc=>(Zg (YE 4 (ZU ?p ?q))
      (Zg (YV (SS ?r) (Zs AZ))
      (Zs (Kq (Xg hu (ZU ?r Zl) Xq) (Zs (Z3 (Z4 T.a2 (Pa T) ?n #[Xo ?o ?q]))) (Zs (Kq (Xg hu (ZU ?r Zl) Xq) (Zs (Z3 (Z4 T.a2 (OG T) ?n #[Xo ?o ?q,Xo ?o (ZU ?r Zl)]))) (Zs (Z3 (Z4 T.a2 (NB T) ?n #[Xo ?o ?q,Xo ?o (ZU ?r Zl),Xo ?o (ZU ?r Zl)])))))))))
def Nv:GO K mg 7 "_law_given" 4 (Wj c):=gOk T.bh ["frame","links","sides","told","orders","k"] λhr hu Sc=>(Zg (YE 4 (Jw T.a2 (PY T) #[ZS (Nr T) #[?n,?o,?p]]))
      (Zg (UC 5 (YA rfl T.ao (ZU ?n Zl)) (Zs (Z3 (ZS (Lm T) #[?r,ZU ?n Zl,?q,?s]))))
      (Yn ?r)))
def ZI:MO K mg 1 c.Orders "goal_of" 2 (Zo c):=mOk T.bi ["self","at","order"] λhr hu Sc=>(Zg (YE 2 (GQ hu (Ym T.a2 ?n) ?o (Ke rfl T.af)))
      (Zg (YV (Xg hu (UT T.ag ?p Zl) Xq) (Yn (UT T.ag ?p Zl)))
      (Yn LG)))
def Xe:MO K mg 2 c.Orders "movers" 1 (ZV c):=mOk T.bj ["self"] λhr hu Sc=>(Yn (JN YO rfl T.aq #[Bb YO (cOk ["self"]) rfl (Ym T.a2 ?n) (λ_ _ _ _=>(YG (Pn (Z4 T.a2 (ZI T) ?o #[?n])))) (λ_ _ _ _=>?n)]))
def Yy:MO K mg 1 c.Board "roll" 1 (ZJ c):=mOk T.bk ["self"] λhr hu Sc=>(Yn (N3 YO rfl rfl T.aq (Ym T.a0 ?n)))
def Wr:MO K mg 4 c.Orders "told" 2 (Z6 c):=mOk T.bl ["self","at"] λhr hu Sc=>(Zg (Z3 (Z4 T.a0 (X3 T) (Ym T.a2 ?n) #[?o]))
      (Yn (GQ hu (Ym T.a2 ?n) ?o (Ke rfl T.af))))
def FU:GO K mg 5 "is_cut" 2 (Oz c):=gOk T.bm ["orders","at","order","own","comers"] λhr hu Sc=>(Zg (YE 2 (Z4 T.a2 (Wr T) ?n #[?o]))
      (Zg (YV (Vw hu (UT T.ag ?p Zl) Xq) (Yn XG))
      (Zg (YE 3 (Z4 T.a0 (Yq T) (Ym T.a2 ?n) #[?o]))
      (Zg (Vy 4 (cOk ["orders","at","own"]) (Yb (YR T.a2 (Xe T) ?n)) (YG (PW.pt (Vz (Xg hu (Z4 T.a2 (ZI T) ?o #[?n]) ?p) (WO (Vw hu (Z4 T.a0 (Yq T) (Ym T.a2 ?o) #[?n]) ?q))))) ?n)
      (Yn (DQ rfl rfl T.ai Ki #[TF (cOk ["order"]) (Yb ?r) Xd (Dz hu ?n (UT T.ag ?o Zl))]))))))
def Af:GO K mg 2 "fits" 3 (Hq c):=gOk T.bn ["orders","helped","goal"] λhr hu Sc=>(Zg (YV (Xg hu ?p ?o) (Yn (qe_isN (Z4 T.a2 (ZI T) ?n #[?o]))))
      (Yn (RS hu (Z4 T.a2 (ZI T) ?n #[?o]) ?p)))
def FC:GO K mg 6 "counts" 2 (Nf c):=gOk T.bo ["orders","at","order"] λhr hu Sc=>(Zg (YE 2 (Z4 T.a2 (Wr T) ?n #[?o]))
      (Yn (Ql (RS hu (UT T.ag ?p Zl) Xq) (Ql (ZS (Af T) #[?n,UT T.ag ?p Zl,UT T.ag ?p Zl]) (QD (Kb (ZS (FU T) #[?n,?o])))))))
def E3:GO K mg 7 "backs" 3 (Le c):=gOk T.bp ["orders","helper","at","order"] λhr hu Sc=>(Zg (YE 3 (Z4 T.a2 (Wr T) ?n #[?o]))
      (Yn (Ql (RS hu (UT T.ag ?q Zl) Xq) (Ql (RS hu (UT T.ag ?q Zl) ?p) (QD (ZS (FC T) #[?n,?o]))))))
def S9:GO K mg 8 "backing" 2 (Uz c):=gOk T.bq ["orders","at"] λhr hu Sc=>(Yn (Cf YO (Fj ["helper","side"] ["orders","at"]) rfl (λ_ _ _ _=>Vx rfl (Yh (Y0 (i:=0) (show(["helper","side","orders","at"]:iM).Nodup by decide +kernel) rfl (Or.inl rfl)) (Yh (Y0 (i:=1) (show(["helper","side","orders","at"]:iM).Nodup by decide +kernel) rfl (Or.inl rfl)) Wn))) (Yb (YR T.a0 (Yy T) (Ym T.a2 ?n))) (λ_ _ _ _=>(YG (XA (ZS (E3 T) #[?p,?n,?q])))) (λ_ _ _ _=>?o)))
def DC:GO K mg 9 "force" 2 (L1 c):=gOk T.br ["orders","at"] λhr hu Sc=>(Zg (YV (SS (Z4 T.a2 (ZI T) ?n #[?o])) (Yn Zl))
      (Yn (Xo Zl (Vp rfl T.ak #[ZS (S9 T) #[?n,?o]]))))
def Pc:GO K mg 10 "weigh_movers" 1 (Wh c):=gOk T.bs ["orders","forces","at"] λhr hu Sc=>(Zg (YE 1 WW)
      (Zg (UC 2 (Yb (YR T.a2 (Xe T) ?n)) (Zs (XZ hu (ZS (DC T) #[?n,?p]) ?o ?p)))
      (Yn ?o)))
def Nx:GO K mg 2 "is_outdone" 3 (W7 c):=gOk T.bt ["orders","forces","at","goal","rivals"] λhr hu Sc=>(Zg (YE 3 (Z4 T.a2 (ZI T) ?n #[?p]))
      (Zg (KD (j:=4) YO (cOk ["orders","at","goal"]) rfl ?o (λ_ _ _ _=>(YG (PW.pt (Vz (Vw hu ?n ?p) (WO (Xg hu (Z4 T.a2 (ZI T) ?o #[?n]) ?q)))))) (λ_ _ _ _=>?n) Sc.nd rfl (Or.inl rfl) .(7))
      (Yn (DQ rfl rfl T.ai Ki #[TF (cOk ["forces","at"]) (Yb ?r) Xd (qe_ge (WI hu ?o ?n) (WI hu ?o ?p))]))))
def R8:GO K mg 9 "force_against" 3 (W4 c):=gOk T.bu ["orders","at","side"] λhr hu Sc=>(Zg (YV (SS (Z4 T.a2 (ZI T) ?n #[?o])) (Yn Zl))
      (Yn (Xo Zl (Vp rfl T.ak #[TF (cOk ["side"]) (Yb (ZS (S9 T) #[?n,?o])) (YG (Vw hu ?n ?o)) ?n]))))
def RN:GO K mg 10 "overcomes" 4 (WZ c):=gOk T.bv ["orders","at","goal","strength","side"] λhr hu Sc=>(Zg (YE 4 (Z4 T.a0 (Yq T) (Ym T.a2 ?n) #[?p]))
      (Yn (Ql (Dz hu ?r (Z4 T.a0 (Yq T) (Ym T.a2 ?n) #[?o])) (QD (qe_gt (ZS (R8 T) #[?n,?o,?r]) ?q)))))
def Jp:GO K mg 9 "firmness" 2 (UM c):=gOk T.bw ["orders","at"] λhr hu Sc=>(Zg (YV (Pn (Z4 T.a2 (ZI T) ?n #[?o])) (Yn Zl))
      (Yn (Xo Zl (Vp rfl T.ak #[ZS (S9 T) #[?n,?o]]))))
def M8:GO K mg 11 "hindrance" 3 (Ty c):=gOk T.bx ["orders","forces","at","goal"] λhr hu Sc=>(Zg (YE 3 (Z4 T.a2 (ZI T) ?n #[?p]))
      (Zg (YV (XA (ZS (Nx T) #[?n,?o,?p])) (Yn (Tn rfl T.ae)))
      (Zg (YV (SS (Z4 T.a0 (Yq T) (Ym T.a2 ?n) #[?q])) (Yn (Tn rfl T.aa)))
      (Zg (YV (Xg hu (Z4 T.a2 (ZI T) ?n #[?q]) ?p) (Yn (CP (XA (ZS (RN T) #[?n,?p,?q,WI hu ?o ?q])) (Tn rfl T.aa) (Tn rfl T.a9))))
      (Yn (CP (XA (ZS (RN T) #[?n,?p,?q,ZS (Jp T) #[?n,?q]])) (Tn rfl T.aa) (Tn rfl T.ab)))))))
def Nm:GO K mg 12 "hindrances" 1 (Vh c):=gOk T.bz ["orders","forces","found","at"] λhr hu Sc=>(Zg (YE 1 (ZS (Pc T) #[?n]))
      (Zg (YE 2 WW)
      (Zg (qs_forD gh rfl ?o (qpg 3) (NP 3) (Zs (XZ hu (ZS (M8 T) #[?n,?o,?q]) ?p ?q)))
      (Yn ?p))))
def Cn:GO K mg 2 "fault" 4 (LH c):=gOk T.c0 ["orders","found","at","places"] λhr hu Sc=>(Zg (YV (PW.pt (Vz (Xg hu (WI hu ?o ?p) (Tn rfl T.ab)) (WO (qt_in (Z4 T.a2 (ZI T) ?n #[?p]) ?q)))) (Yn (Tn rfl T.aa)))
      (Yn (WI hu ?o ?p)))
def Hj:GO K mg 13 "strikes" 1 (Qn c):=gOk T.c1 ["orders","found","left","struck","count","faults","fallen"] λhr hu Sc=>(Zg (YE 1 (ZS (Nm T) #[?n]))
      (Zg (YE 2 (YR T.a2 (Xe T) ?n))
      (Zg (YE 3 (HG Zk))
      (Zg (YE 4 Zl)
      (Zs (Bp 100 gh (XA XG) (Zg (Vy 5 (cOk ["orders","found","left","count"]) (Yb ?p) Xd (Yv #[?r,?n,ZS (Cn T) #[?o,?p,?n,?q]]))
      (Zg (Vy 6 (cOk []) (Yb ?s) (YG (Vw hu (ZU ?n Zl) (Tn rfl T.aa))) ?n)
      (Zg (YV (Xg hu ?t (X6 Zk)) (Yn ?q))
      (Zg (Z3 (G6 ?q ?t))
      (Zg (YE 2 (TF (cOk []) (Yb ?s) (YG (Xg hu (ZU ?n Zl) (Tn rfl T.aa))) (ZU ?n Zl)))
      (Zs (YE 4 (Xo ?r Zl))))))))))))))
def K8:GO K mg 13 "strikes" 1 (UQ c):=GO.tidy (Hj T)
def Hn:GO K mg 14 "settled" 1 (Se c):=gOk T.c2 ["orders","struck"] λhr hu Sc=>(Zg (YE 1 (TF (cOk []) (Yb (ZS (K8 T) #[?n])) Xd (ZU ?n Zl)))
      (Yn (TF (cOk ["struck"]) (Yb (YR T.a2 (Xe T) ?n)) (YG (Di ?n ?o)) ?n)))
def Oo:GO K mg 2 "units_after" 3 (WG c):=gOk T.c3 ["board","goals","comers","moved","stayed"] λhr hu Sc=>(Zg (W1 (j:=3) YO (Fj ["at","side"] ["goals"]) rfl (λ_ _ _ _=>Vx rfl (Yh (Y0 (i:=0) (show(["at","side","goals"]:iM).Nodup by decide +kernel) rfl (Or.inl rfl)) (Yh (Y0 (i:=1) (show(["at","side","goals"]:iM).Nodup by decide +kernel) rfl (Or.inl rfl)) Wn))) (Yb (YR T.a0 (Yy T) ?n)) (λ_ _ _ _=>(YG (OJ hu ?n ?p))) (λ_ _ _ _=>(Yv #[WI hu ?p ?n,?o])) Sc.nd rfl (Or.inl rfl) .(7))
      (Zg (W1 (j:=4) YO (Fj ["at","side"] ["goals","comers"]) rfl (λ_ _ _ _=>Vx rfl (Yh (Y0 (i:=0) (show(["at","side","goals","comers"]:iM).Nodup by decide +kernel) rfl (Or.inl rfl)) (Yh (Y0 (i:=1) (show(["at","side","goals","comers"]:iM).Nodup by decide +kernel) rfl (Or.inl rfl)) Wn))) (Yb (YR T.a0 (Yy T) ?n)) (λ_ _ _ _=>(YG (PW.pt (Vz (RV hu ?n ?p) (WO (RV hu ?n ?q)))))) (λ_ _ _ _=>(Yv #[?n,?o])) Sc.nd rfl (Or.inl rfl) .(7))
      (Yn (Hh ?q ?r))))
def U8:GO K mg 3 "posted_board" 2 (Xb c):=gOk T.c4 ["chart","units","board","at","side"] λhr hu Sc=>(Zg (YE 2 (Jw T.a0 (Sv T) #[?n]))
      (Zg (DL (Yb ?o) (Vx rfl (Yh (qpg 3) (Yh (qpg 4) Wn))) (Ru [3,4]) (Zs (Z3 (Z4 T.a0 (SF T) ?p #[?q,?r]))))
      (Yn ?p)))
def MX:NO K mg 15 c.Turn 2 (WT c):=nOk T.c5 ["self","orders","at","side","wanted"] λhr hu Sc=>(Zg (Td T.a3 WW ?n)
      (Zg (Td T.a3 WW ?n)
      (Zg (UC 2 (Yb (ZS (Hn T) #[?o])) (Zg (XZ hu (Z4 T.a2 (ZI T) ?o #[?p]) (Ym T.a3 ?n) ?p)
      (Zs (XZ hu ?p (Ym T.a3 ?n) (Z4 T.a2 (ZI T) ?o #[?p])))))
      (Zg (Td T.a3 WW ?n)
      (Zg (DL (Yb (YR T.a0 (Yy T) (Ym T.a2 ?o))) (Vx rfl (Yh (qpg 2) (Yh (qpg 3) Wn))) (Ru [2,3]) (Zs (YV (PW.pt (Vz (OJ hu ?p (Ym T.a3 ?n)) (WO (RV hu ?p (Ym T.a3 ?n))))) (Zs (XZ hu ?q (Ym T.a3 ?n) ?p)))))
      (Zg (Vy 4 (cOk ["orders"]) (Yb (YR T.a2 (Xe T) ?o)) Xd (Z4 T.a2 (ZI T) ?o #[?n]))
      (Zg (Td T.a3 (II YO rfl rfl T.aq rfl T.ap ?r (Ym T.a3 ?n)) ?n)
      (Zs (Td T.a3 (ZS (U8 T) #[Ym T.a0 (Ym T.a2 ?o),ZS (Oo T) #[Ym T.a2 ?o,Ym T.a3 ?n,Ym T.a3 ?n]]) ?n)))))))))
def Ri:MO K mg 1 c.Turn "shut" 1 (WX c):=mOk T.c6 ["self"] λhr hu Sc=>(Yn (Az YO rfl T.al Ed #[Ym T.a3 ?n]))
def XW:MO K mg 1 c.Turn "aside" 1 (Yl c):=mOk T.c7 ["self"] λhr hu Sc=>(Yn (TF (cOk ["self"]) (Yb (JK YO rfl rfl T.aq #[Ym T.a3 ?n])) Xd (Yv #[?n,WI hu (Ym T.a3 ?o) ?n,WI hu (Ym T.a3 ?o) ?n])))
def RT:MO K mg 1 c.Turn "done" 1 (We c):=mOk T.c8 ["self"] λhr hu Sc=>(Yn (N3 YO rfl rfl T.aq (Ym T.a3 ?n)))
def Wo:GO K mg 2 "_law_number" 3 (Y5 c):=gOk T.c9 ["script","frame","k","cell"] λhr hu Sc=>(Zg (YE 3 (ZS (ZN T) #[?n,?p]))
      (Zg (YV (Xg hu (YB ?q Zl) Zl) (Yn (CS (YB (Ww ?q Zl) Zl) Zl)))
      (Yn (Xo (ZU ?o Zl) (YB (Ww ?q Zl) (ZU ?o Zl))))))
def Vr:MO K mg 1 c.Turn "need_aside" 2 (YL c):=mOk T.ca ["self","at"] λhr hu Sc=>(Zs (YV (RV hu ?o (Ym T.a3 ?n)) (Zs (To T.a7 (Vv (UW ?o TN))))))
def JM:MO K mg 2 c.Map "near" 2 (VD c):=mOk T.cb ["self","a"] λhr hu Sc=>(Zg (Z3 (Z4 T.a1 (ZX T) ?n #[?o]))
      (Yn (TF (cOk ["self","a"]) (YA rfl T.ao (Ym T.a1 ?n)) (YG (OJ hu (Yv #[?p,?n]) (Ym T.a1 ?o))) ?n)))
def Tr:MO K mg 3 c.Turn "may_go" 2 (Yx c):=mOk T.cc ["self","at","empty"] λhr hu Sc=>(Zg (Z3 (Z4 T.a1 (ZX T) (Ym T.a0 (Ym T.a3 ?n)) #[?o]))
      (Zg (Z3 (Z4 T.a3 (Vr T) ?n #[?o]))
      (Zg (Vy 2 (cOk ["self"]) (Yb (Z4 T.a1 (JM T) (Ym T.a0 (Ym T.a3 ?n)) #[?o])) (YG (SS (Z4 T.a0 (Yq T) (Ym T.a3 ?o) #[?n]))) ?n)
      (Yn (TF (cOk ["self","at"]) (Yb ?p) (YG (PW.pt (Vz (Vw hu ?n (WI hu (Ym T.a3 ?o) ?p)) (WO (Di ?n (Ym T.a3 ?o)))))) ?n)))))
def Nz:GO K mg 2 "check_told" 2 (Xj c):=gOk T.cd ["turn","told","at","goal"] λhr hu Sc=>(Zg (DL (Yb ?o) (Vx rfl (Yh (qpg 2) (Yh (qpg 3) Wn))) (Ru [2,3]) (Zg (Z3 (Z4 T.a1 (ZX T) (Ym T.a0 (Ym T.a3 ?n)) #[?p]))
      (Zs (Z3 (Z4 T.a1 (ZX T) (Ym T.a0 (Ym T.a3 ?n)) #[?q])))))
      (Zs (DL (Yb ?o) (Vx rfl (Yh (qpg 2) (Yh (qpg 3) Wn))) (Ru [2,3]) (Zs (Z3 (Z4 T.a3 (Vr T) ?n #[?p]))))))
def E5:GO K mg 4 "after" 2 (VZ c):=gOk T.ce ["turn","told","goals","goers","at","goal","went","lost"] λhr hu Sc=>(Zg (Z3 (ZS (Nz T) #[?n,?o]))
      (Zg (W1 (j:=2) YO (Fj ["at","goal"] []) rfl (λ_ _ _ _=>Vx rfl (Yh (Y0 (i:=0) (show(["at","goal"]:iM).Nodup by decide +kernel) rfl (Or.inl rfl)) (Yh (Y0 (i:=1) (show(["at","goal"]:iM).Nodup by decide +kernel) rfl (Or.inl rfl)) Wn))) (Yb ?o) (λ_ _ _ _=>Xd) (λ_ _ _ _=>?o) Sc.nd rfl (Or.inl rfl) .(7))
      (Zg (YE 3 WW)
      (Zg (DL (Yb ?o) (Vx rfl (Yh (qpg 4) (Yh (qpg 5) Wn))) (Ru [4,5]) (Zs (YV (PW.pt (Vz (Xg hu (Bk ?p ?s) Zl) (WO (qt_in ?s (Z4 T.a3 (Tr T) ?n #[?r]))))) (Zs (XZ hu ?s ?q ?r)))))
      (Zg (W1 (j:=6) YO (Fj ["at","side","source"] ["goers"]) rfl (λ_ _ _ _=>Vx rfl (Yh (Y0 (i:=0) (show(["at","side","source","goers"]:iM).Nodup by decide +kernel) rfl (Or.inl rfl)) (Yh (Y0 (i:=1) (show(["at","side","source","goers"]:iM).Nodup by decide +kernel) rfl (Or.inl rfl)) (Yh (Y0 (i:=2) (show(["at","side","source","goers"]:iM).Nodup by decide +kernel) rfl (Or.inl rfl)) Wn)))) (Yb (YR T.a3 (XW T) ?n)) (λ_ _ _ _=>(YG (OJ hu ?n ?q))) (λ_ _ _ _=>(Yv #[WI hu ?q ?n,?o])) Sc.nd rfl (Or.inl rfl) .(7))
      (Zg (W1 (j:=7) YO (Fj ["at","side","source"] ["goers"]) rfl (λ_ _ _ _=>Vx rfl (Yh (Y0 (i:=0) (show(["at","side","source","goers"]:iM).Nodup by decide +kernel) rfl (Or.inl rfl)) (Yh (Y0 (i:=1) (show(["at","side","source","goers"]:iM).Nodup by decide +kernel) rfl (Or.inl rfl)) (Yh (Y0 (i:=2) (show(["at","side","source","goers"]:iM).Nodup by decide +kernel) rfl (Or.inl rfl)) Wn)))) (Yb (YR T.a3 (XW T) ?n)) (λ_ _ _ _=>(YG (RV hu ?n ?q))) (λ_ _ _ _=>?n) Sc.nd rfl (Or.inl rfl) .(7))
      (Yn (Yv #[ZS (U8 T) #[Ym T.a0 (Ym T.a3 ?n),Hh (YR T.a0 (Yy T) (Ym T.a3 ?n)) ?t],?u]))))))))
def WL:GO K mg 5 "_law_asked" 5 (Y2 c):=gOk T.cf ["orders","turn","way","a","row","found","e"] λhr hu Sc=>(Zg (YE 5 (X6 Zk))
      (Zg (qs_try (i:=6) ⟨rfl,rfl⟩ rfl ⟨rfl,rfl⟩ Sc.nd rfl rfl rfl T.ad T.cj (λ_ xe gV σ hp=>(WE (LQ (Xg hu ?p Zl) (WE (Sh (Ln hp T.a2 (Wr T) ?n #[?q]))) (WE (LQ (Xg hu ?p Zl) (WE (Sh (Ln hp T.a0 (Yq T) (Ym T.a2 ?n) #[?q]))) (WE (LQ (Xg hu ?p Zl) (WE (Sh (Ln hp T.a3 (Tr T) ?o #[?q]))) (WE (Sh (B3 hp (E5 T) #[?o,?r])))))))))) (λ_=>(Zg (YE 5 (X6 #[T7 T.ci rfl T.aj ?t (UK (v:=.ref c.NoPlace) rfl T.a5.at_ rfl) rfl (.head _),T7 T.ci rfl T.aj ?t (UK (v:=.ref c.NoUnit) rfl T.a7.at_ rfl) rfl (.tail _ (.tail _ (.tail _ (.head _)))),T7 T.ci rfl T.aj ?t (UK (v:=.ref c.OutOfReach) rfl T.a8.at_ rfl) rfl (.tail _ (.tail _ (.tail _ (.tail _ (.head _))))),T7 T.ci rfl T.aj ?t (UK (v:=.ref c.Crowded) rfl T.a4.at_ rfl) rfl (.tail _ (.tail _ (.head _)))]))
      (Zs (YE 5 (Hh ?s (X6 #[T7 T.ci rfl T.aj ?t (UK (v:=.ref c.NoSide) rfl T.a6.at_ rfl) rfl (.tail _ (.head _)),T7 T.ci rfl T.aj ?t (AY (v:=.ty "ValueError") rfl T.ah BK rfl) rfl (.tail _ (.tail _ (.tail _ (.tail _ (.tail _ (.head _))))))])))))))
      (Yn ?s)))
def V6:GO K mg 1 "_law_due" 2 (Xw c):=gOk T.cg ["missing","empty"] λhr hu Sc=>(Zg (YV (XA ?n) (Yn (X6 #[XG,XG,XG,XG,XG,XG])))
      (Zg (YV (XA ?o) (Yn (X6 #[XG,XG,XG,XG,XG,XG])))
      (Yn (X6 Zk))))
def ok_law{f:qJ}{fd:qP}(F:Fun K "law" "law" Dy f fd):FnO K mg 17 f fd ["script"] 1 (g_law c):=HN (N:=["script","world","size","orders","turn","ahead","away","a","b","row","manned","numbers","missing"]) F ⟨rfl,rfl,rfl,.(5),rfl,.(5),.(5)⟩ λhr hu Sc=>(Zg (YE 1 (ZS (Nh T) #[?n]))
      (Zg (YE 2 (ZU (ZU ?o Zl) Zl))
      (Zg (YE 3 (ZS (Nv T) #[ZU ?o Zl,ZU ?o Zl,ZU ?o Zl,ZU ?o Zl]))
      (Zg (YE 4 (Jw T.a3 (MX T) #[?q]))
      (Zg (YE 5 (Yv #[YR T.a3 (RT T) ?r,YR T.a3 (XW T) ?r,YR T.a3 (Ri T) ?r,YR T.a0 (Yy T) (Ym T.a3 ?r),YR T.a0 (Yy T) (Ym T.a2 ?q)]))
      (Zg (Vy 6 (cOk []) (Yb (YR T.a3 (XW T) ?r)) Xd (ZU ?n Zl))
      (Zg (YE 7 (ZS (Wo T) #[?n,ZU ?o Zl,Zl]))
      (Zg (YE 8 (ZS (Wo T) #[?n,ZU ?o Zl,Zl]))
      (Zg (YV (PW.pt (Vz (Vw hu ?t (X6 Zk)) (WO (Xg hu (YB (ZS (ZN T) #[?n,Zl]) Zl) Zl)))) (Zs (YE 7 (ZU ?t (YB (Ww (ZS (ZN T) #[?n,Zl]) Zl) (Vp rfl T.ak #[?t]))))))
      (Zg (YV (PW.pt (Vz (Vw hu ?t (X6 Zk)) (WO (Xg hu (YB (ZS (ZN T) #[?n,Zl]) Zl) Zl)))) (Zs (YE 8 (ZU ?t (YB (Ww (ZS (ZN T) #[?n,Zl]) Zl) (Vp rfl T.ak #[?t]))))))
      (Zg (YE 9 (X6 #[Yv #[?u,ZS (Wo T) #[?n,ZU ?o Zl,Zl]],Yv #[?v,ZS (Wo T) #[?n,ZU ?o Zl,Zl]]]))
      (Zg (Vy 10 (cOk []) (Yb (YR T.a0 (Yy T) (Ym T.a2 ?q))) Xd (ZU ?n Zl))
      (Zg (YV (Vw hu (ZS (WL T) #[?q,?r,Zl,?u,?w]) (ZS (V6 T) #[Kb (Ov Bl JF Cz DT Zl ?u ?p),MJ ?u ?x])) (Yn XG))
      (Zg (YV (Vw hu (ZS (WL T) #[?q,?r,Zl,?u,?w]) (ZS (V6 T) #[Kb (Ov Bl JF Cz DT Zl ?u ?p),XG])) (Yn XG))
      (Zg (YV (Vw hu (ZS (WL T) #[?q,?r,Zl,?u,?w]) (ZS (V6 T) #[Kb (Ov Bl JF Cz DT Zl ?u ?p),MJ ?u ?t])) (Yn XG))
      (Zg (YV (Vw hu ?u ?v) (Zg (YE 11 (X6 #[?u,?v,ZU (ZU ?w Zl) Zl,ZU (ZU ?w Zl) Zl]))
      (Zg (YE 12 (qe_or (qe_lt (qe_minL rfl rfl T.an Kx #[?y]) Zl) (QD (qe_ge (qe_maxL rfl rfl T.am Kt #[?y]) ?p))))
      (Zs (YV (Vw hu (ZS (WL T) #[?q,?r,Zl,?u,?w]) (ZS (V6 T) #[?z,qe_or (MJ ?u ?t) (QD (MJ ?v ?t))])) (Yn XG))))))
      (Yn (RS hu ?s (Yv #[YR T.a3 (RT T) ?r,YR T.a3 (XW T) ?r,YR T.a3 (Ri T) ?r,YR T.a0 (Yy T) (Ym T.a3 ?r),YR T.a0 (Yy T) (Ym T.a2 ?q)])))))))))))))))))))
end
def GW{c:CA}{p:qJ->Prop}(h1:p c.NoPlace)(h2:p c.NoSide)(h3:p c.Crowded)(h4:p c.NoUnit)(h5:p c.OutOfReach)(C:qJ)(h:c.isE C=true):p C:=by
 simp only[CA.isE,dS,cX]at h;rcases h with (((h|h)|h)|h)|h <;> subst h <;> assumption
def FD{K:W.Frag}{c:CA}{l1 l2 l3 l4 l5:iO}(hk:c.kit=λC D=>(W.kitOne K (.ref C) D).getD false)(hD:c.Ds=[.ref c.NoPlace,.ref c.NoSide,.ref c.Crowded,.ref c.NoUnit,.ref c.OutOfReach,.type "ValueError"])(h1:ExcK K c.NoPlace) (q1:c.Ds.map (W.kitOne K (.ref c.NoPlace))=l1.map some) (h2:ExcK K c.NoSide) (q2:c.Ds.map (W.kitOne K (.ref c.NoSide))=l2.map some) (h3:ExcK K c.Crowded) (q3:c.Ds.map (W.kitOne K (.ref c.Crowded))=l3.map some)(h4:ExcK K c.NoUnit) (q4:c.Ds.map (W.kitOne K (.ref c.NoUnit))=l4.map some) (h5:ExcK K c.OutOfReach) (q5:c.Ds.map (W.kitOne K (.ref c.OutOfReach))=l5.map some):ExcAll K c.isE c.kit c.Ds:=
 ⟨GW h1 h2 h3 h4 h5,λC D hC hd=>by
  rw[hk];exact GW (p:=λC=>W.kitOne K (.ref C) D=some ((W.kitOne K (.ref C) D).getD false)) (TC q1 hd) (TC q2 hd) (TC q3 hd) (TC q4 hd) (TC q5 hd) C hC⟩
def ypkF{K:W.Frag}:∀{l:List yRF},IC K l=l.map IX->∀(i:Nat) {C:Option qJ} {n q:Str} {f:qJ} {s:qR},nth l i=some (C,n,f,q,s)->(ylk K C n,W.isFn K (.ref f)&&W.keepIn K (.ref f),fnV K f q)=IX (C,n,f,q,s)
 |_::_,h,0,_,_,_,_,_,e=>by cases e;exact(dW h).1
 |_::_,h,i+1,_,_,_,_,_,e=>ypkF (dW h).2 i e
def Uu{K:W.Frag}:∀{l:List yRN},Bn K l=l.map (λr=>some r.2.2)->∀(i:Nat) {C:Option qJ} {n:Str} {v:iP},nth l i=some (C,n,v)->ylk K C n=some v
 |_::_,h,0,_,_,_,e=>by cases e;exact(dW h).1
 |_::_,h,i+1,_,_,_,e=>Uu (dW h).2 i e
def ypkI{K:W.Frag}:∀{l:List (Str × Int)},yobI K l=l.map (λr=>some r.2)->∀(i:Nat) {n:Str} {v:Int},nth l i=some (n,v)->AN (W.nsIn K mainGlobals n)=some v
 |_::_,h,0,_,_,e=>by cases e;exact(dW h).1
 |_::_,h,i+1,_,_,e=>ypkI (dW h).2 i e
section
variable{K:W.Frag}{h:qQ}{mg:iB}{n q:Str}{f C:qJ}{s:qR}{ps:iM}
abbrev yBg(n q:Str)(s:qR)(ps:iM):Prop:=∀(kV doc pm:qI) (an:Option qJ) (jz ct:qI) (us:iJ),us.length=ps.length->bindArgs (W.fnOf n q (Pf s) (UY s) (YC s) .none kV doc pm an jz ct) ⟨us,[]⟩=pure (ps.zip us)
def yfF{o:Option qJ}(g:IC K ytF=ytF.map IX)(i:Nat)(e:nth ytF i=some (o,n,f,q,s))(b:yBg n q s ps):ylk K o n=↑(.ref f)/\W.isFn K (.ref f)=true/\W.keepIn K (.ref f)=true/\∃fd,Fun K n q s f fd/\Binds K fd ps []:=by
 obtain⟨h1,h2⟩:=dE (ypkF g i e);obtain⟨h2,h3⟩:=dE h2;obtain⟨h2,h4⟩:=bO.mp h2;obtain⟨h5,h6⟩:=fn_both h3;have F:Fun K n q s f _:=⟨⟨_,_,_,_,_,_,_,_,_,rfl,h5,h6⟩,h4⟩;exact⟨h1,h2,h4,_,F,F.binds b⟩
def ygF(X:K.In h)(G:h.Ns mainGlobals mg)(g:IC K ytF=ytF.map IX)(i:Nat)(e:nth ytF i=some (none,n,f,n,s))(b:yBg n n s ps:=by first|exact(λ_ _ _ _ _ _ us hl=>match us,hl with|[_,_],_=>rfl)|exact(λ_ _ _ _ _ _ us hl=>match us,hl with|[_,_,_],_=>rfl)|exact(λ_ _ _ _ _ _ us hl=>match us,hl with|[_],_=>rfl)|exact(λ_ _ _ _ _ _ us hl=>match us,hl with|[_,_,_,_],_=>rfl)|exact(λ_ _ _ _ _ _ us hl=>match us,hl with|[_,_,_,_,_],_=>rfl)):GF K mg n s ps:=by
 obtain⟨a,_,c,fd,F,B⟩:=yfF g i e b;exact⟨f,fd,F,B,W.mg_of X G a,c⟩
def ymF(g:IC K ytF=ytF.map IX)(i:Nat)(e:nth ytF i=some (some C,n,f,q,s))(b:yBg n q s ps:=by first|exact(λ_ _ _ _ _ _ us hl=>match us,hl with|[_,_],_=>rfl)|exact(λ_ _ _ _ _ _ us hl=>match us,hl with|[_,_,_],_=>rfl)|exact(λ_ _ _ _ _ _ us hl=>match us,hl with|[_],_=>rfl)|exact(λ_ _ _ _ _ _ us hl=>match us,hl with|[_,_,_,_],_=>rfl)):MF K C n q s ps:=by
 obtain⟨a,b,c,fd,F,B⟩:=yfF g i e b;exact⟨f,fd,F,B,⟨a,b,c⟩⟩
abbrev yCC(K:W.Frag)(C:qJ):Prop:=W.plainGet K C Str.empty=true/\W.hasDictIn K C=true/\W.plainOver K C=true/\W.makesIn K C=true/\W.keepIn K (.ref C)=true
def ynF(g:IC K ytF=ytF.map IX)(i:Nat)(c:yCC K C)(e:nth ytF i=some (yrM C "__init__" f q s))(b:yBg "__init__" q s ps:=by exact(λ_ _ _ _ _ _ us hl=>match us,hl with|[_,_],_=>rfl)):NF K C q s ps:=by
 obtain⟨a,b,_,fd,F,B⟩:=yfF g i e b;exact⟨f,fd,F,B,⟨c.2.2.2.1,a,b,c.2.2.2.2⟩⟩
def ymN(X:K.In h)(G:h.Ns mainGlobals mg)(g:Bn K ytN=ytN.map λr=>some r.2.2)(i:Nat){v:iP}(e:nth ytN i=some (none,n,v)):mg n=v:=by
 cases v with
 |none=>exact W.mg_none_of X G (Uu g i e)
 |some v=>exact W.mg_of X G (Uu g i e)
def ymI(X:K.In h)(G:h.Ns mainGlobals mg)(g:yobI K ytI=ytI.map λr=>some r.2)(i:Nat){v:Int}(e:nth ytI i=some (n,v)):∃t,mg n=some (.int v t):=by
 obtain⟨t,a⟩:=int_l (ypkI g i e);exact⟨t,W.mg_of X G a⟩
def yaC(X:K.In h)(G:h.Ns mainGlobals mg)(g:Bn K ytN=ytN.map λr=>some r.2.2)(i:Nat)(c:yCC K C){fs:iM}(e:nth ytN i=some (ynC n C):=by rfl)(e2:nth ytN (i+1)=some (ynS C):=by rfl)(a:fs.foldr (λf (p:Nat->Prop) j=>nth ytN j=some (some C,f,none)/\p (j+1)) (λ_=>True) (i+2):=by repeat (first|trivial|refine⟨rfl,?_⟩)):AtC K mg C n fs:=
 ⟨⟨c.1,c.2.1,c.2.2.1,Uu g _ e2⟩,ymN X G g i e,by
  clear e e2;revert a;generalize i+2=k;intro a
  induction fs generalizing k with
  |nil=>intro f m;cases m
  |cons y fs ih=>intro f m;cases m with
   |head=>exact Uu g k a.1
   |tail _ m=>exact ih _ a.2 f m⟩
end
def gk_F{l:W.OpenLaw}{w:qN}{K:W.Frag}{h:qQ}{mg:iB}{fa:qJ}(g:GK K)(X:K.In h)(G:h.Ns mainGlobals mg)(qj:mg "law"=some (.ref fa)):∃fd:qP,(∀(s:qK) (v:qI),BindsTo s fd ⟨[v],[]⟩ [("script",v)])/\∀base:qQ,K.In base->base.Ns mainGlobals mg->FnOk l.prog w K mg base (CXw l.prog w) 17 fa fd ["script"] (spLaw K):=by
 obtain⟨g0,g⟩:=dE g;obtain⟨g1,g⟩:=dE g;obtain⟨g2,g⟩:=dE g;obtain⟨g3,g⟩:=dE g;obtain⟨gx,g⟩:=dE g;obtain⟨gx,gy⟩:=dE gx;obtain⟨tk,sp⟩:=dE gy;simp only[yobX,ij,Prod.mk.injEq,and_true]at gx;obtain⟨⟨r0,q0⟩,⟨r1,q1⟩,⟨r2,q2⟩,⟨r3,q3⟩,⟨r4,q4⟩⟩:=gx;obtain⟨_,_,_,_,g4⟩:=tup_l g;unfold yobB at g2;simp only[bW,cS]at g2;have T:All K mg ⟨367,146,443,308,31,44,56,68,80,92,372,λC D=>(W.kitOne K (.ref C) D).getD false,λO C=>decide (W.exmOne K (.ref C) (.ref O)=some true)⟩:=⟨yaC X G g1 0 (g2.1 _ (.head _)),yaC X G g1 4 (g2.1 _ (.tail _ (.head _))),yaC X G g1 8 (g2.1 _ (.tail _ (.tail _ (.head _)))),yaC X G g1 12 (g2.1 _ (.tail _ (.tail _ (.tail _ (.head _))))),⟨g2.2.1 _ (.head _),ymN X G g1 19 rfl⟩,⟨g2.2.1 _ (.tail _ (.head _)),ymN X G g1 20 rfl⟩,⟨g2.2.1 _ (.tail _ (.tail _ (.head _))),ymN X G g1 21 rfl⟩,⟨g2.2.1 _ (.tail _ (.tail _ (.tail _ (.head _)))),ymN X G g1 22 rfl⟩,⟨g2.2.1 _ (.tail _ (.tail _ (.tail _ (.tail _ (.head _))))),ymN X G g1 23 rfl⟩,ymI X G g3 0 rfl,ymI X G g3 1 rfl,ymI X G g3 2 rfl,ymI X G g3 3 rfl,ymN X G g1 35 rfl,ymI X G g3 4 rfl,ymN X G g1 24 rfl,GTup.of g4,ymN X G g1 25 rfl,ymN X G g1 26 rfl,ymN X G g1 27 rfl,ymN X G g1 28 rfl,ymN X G g1 29 rfl,ymN X G g1 30 rfl,ymN X G g1 31 rfl,ymN X G g1 32 rfl,ymN X G g1 33 rfl,ymN X G g1 34 rfl,ygF X G g0 0 rfl,ygF X G g0 1 rfl,ygF X G g0 2 rfl,ygF X G g0 3 rfl,ygF X G g0 4 rfl,ygF X G g0 5 rfl,ygF X G g0 6 rfl,ynF g0 7 (g2.1 _ (.tail _ (.head _))) rfl,ymF g0 8 rfl,ymF g0 9 rfl,ygF X G g0 10 rfl,ynF g0 11 (g2.1 _ (.head _)) rfl,ymF g0 12 rfl,ygF X G g0 13 rfl,ynF g0 14 (g2.1 _ (.tail _ (.tail _ (.head _)))) rfl,ymF g0 15 rfl,ymF g0 16 rfl,ymF g0 17 rfl,ymF g0 18 rfl,ymF g0 19 rfl,ymF g0 20 rfl,ymF g0 21 rfl,ymF g0 22 rfl,ygF X G g0 23 rfl,ygF X G g0 24 rfl,ymF g0 25 rfl,ymF g0 26 rfl,ymF g0 27 rfl,ymF g0 28 rfl,ygF X G g0 29 rfl,ygF X G g0 30 rfl,ygF X G g0 31 rfl,ygF X G g0 32 rfl,ygF X G g0 33 rfl,ygF X G g0 34 rfl,ygF X G g0 35 rfl,ygF X G g0 36 rfl,ygF X G g0 37 rfl,ygF X G g0 38 rfl,ygF X G g0 39 rfl,ygF X G g0 40 rfl,ygF X G g0 41 rfl,ygF X G g0 42 rfl,ygF X G g0 43 rfl,ygF X G g0 44 rfl,ygF X G g0 45 rfl,ygF X G g0 46 rfl,ynF g0 47 (g2.1 _ (.tail _ (.tail _ (.tail _ (.head _))))) rfl,ymF g0 48 rfl,ymF g0 49 rfl,ymF g0 50 rfl,ygF X G g0 51 rfl,ymF g0 52 rfl,ymF g0 53 rfl,ymF g0 54 rfl,ygF X G g0 55 rfl,ygF X G g0 56 rfl,ygF X G g0 57 rfl,ygF X G g0 58 rfl,ygF X G g0 59 rfl,FD rfl rfl ⟨Uu g1 36 rfl,Uu g1 37 rfl,Uu g1 38 rfl,r0.1,r0.2.1,sp,tk,bM r0.2.2.2⟩ q0 ⟨Uu g1 39 rfl,Uu g1 40 rfl,Uu g1 41 rfl,r1.1,r1.2.1,sp,tk,bM r1.2.2.2⟩ q1 ⟨Uu g1 42 rfl,Uu g1 43 rfl,Uu g1 44 rfl,r2.1,r2.2.1,sp,tk,bM r2.2.2.2⟩ q2 ⟨Uu g1 45 rfl,Uu g1 46 rfl,Uu g1 47 rfl,r3.1,r3.2.1,sp,tk,bM r3.2.2.2⟩ q3 ⟨Uu g1 48 rfl,Uu g1 49 rfl,Uu g1 50 rfl,r4.1,r4.2.1,sp,tk,bM r4.2.2.2⟩ q4,λC h=>bC h⟩;obtain⟨f,fd,F,B,e,_⟩:=T.ch;obtain rfl:f=fa:=by rw[qj]at e;cases e;rfl
 refine⟨fd,?_,λbase _ _=>As g2.2.2 (ok_law T F _ _ base) (DP _ ⟨HV q0,HV q3,bG r0.2.2.1,bG r3.2.2.1⟩)⟩;obtain⟨oc,od,kV,doc,pm,an,jz,ct,lR,rfl,_⟩:=F.ex;exact λs v=>.of_eq rfl
def walk{l:W.OpenLaw}{q:qM}{loose:iM}{XP:(iB)->Heap->Prop}{d:DefRec}(hn:l.most=some 63)(m8:d.params.defaults=[])(hd:d.name="law"):W.WalkO q loose XP (W.Hook.says hook) l.row.toRowW d [] (λf vs=>PySem.call f vs):=by
 refine Att.attach_call hn m8 λw s₀ i4 mg mb fa o pm cd doc a vs ns G Y ho jW jS mE lD kt iZ hg=>?_
 obtain⟨K,KX,g⟩:=Y;rw[hd]at mE;obtain⟨fd,hb,hF⟩:=gk_F (l:=l) (w:=w) g KX G.T.g mE;exact Cy KX G.T.g G.T.b G.T.builtins G.T.nolimit hg lD kt (bL iZ .(1)) ⟨rfl,.(1),.(1)⟩ hF hb (λH hO hS=>⟨a,ns,rfl,hS,iZ,λ_=>rfl⟩) λH e s' ⟨_,_,_,_,_,z⟩=>z
end MP
open PySem PySem.W PyProof.Rows
set_option maxRecDepth 100000 in
set_option maxHeartbeats 0 in
theorem PySem.Challenge.cw_atonce_k17_refused_questions_holds : PySem.Challenge.rw_atonce_k17_refused_questions.Holds := by
 w_on; refine PySem.W.holds_law wsd9 fun said=>?_
 refine PySem.W.holds_open (q:=MP.view) (loose:=[]) (XP:=PySem.W.XL MP.view []) MP.run (PySem.W.Hook.of MP.hook) (PySem.W.Hook.keeps MP.hook) (λs e=>PySem.W.xl_of s (bO.mp e).1) PySem.W.XL.keeps (by rfl) (by rfl) (by rfl) (λs e=>PySem.W.recFacts_of (bO.mp e).2) (by rfl) (by first|assumption|decide +kernel) (by decide +kernel) ⟨rfl,rfl,rfl,rfl,rfl,by decide +kernel⟩ ?hw ?hc
 case hw=>w_witness2
 case hc=>exact MP.walk (l:=PySem.Challenge.rw_atonce_k17_refused_questions) rfl rfl rfl
