import PyProof.Rows.All
import KE.RegKIsAll
import Wide.All
import Wide.FinOn
import KE.LcSums
import KE.KUnpack
import KE.KDictSum
import KE.KBits
import KE.IntBitsLaws
import KE.KRevIter
import KE.KTurns
import KE.KSortTup
import KE.KDictOf
import PySem.Challenge.RW_leafframe_k42_refused_in_order
set_option Elab.async false
set_option linter.all false
set_option maxRecDepth 100000
set_option compiler.extract_closed false
set_option hygiene false
local macro_rules|`(tactic|walk_at "0c")=>`(tactic|(intro X hP hw hK hc i zk s σ H E I hf st hg;subst hP hw hK))
local macro_rules|`(tactic|walk_at "0f")=>`(tactic|(intro zk s σ H x y v u Q I rx ry h))
local macro_rules|`(tactic|walk_at "0g")=>`(tactic|(obtain⟨f0,f1,f2,f3,f4,f5⟩:=hf it (by simp)))
local macro_rules|`(tactic|walk_at "0j")=>`(tactic|(subst ex;obtain rfl:u=qh a:=rx))
local macro_rules|`(tactic|walk_at "0a")=>`(tactic|(intro nD f cdv A outer s H vs Q E hr))
local macro_rules|`(tactic|exists $r,$x)=>`(tactic|(refine ($r).okS $x (by walk_at "sc") (by walk_at "l0") ?_;walk_at "0a"))
local macro_rules|`(tactic|walk_at "0b")=>`(tactic|(refine L2.xl ?_;intro X _ _))
def L2.tf (s:String):Lean.MacroM (Lean.TSyntax `tactic):=do
 let t<-(s.splitOn " ").toArray.mapM fun n=>`(tactic|exact $(Lean.mkIdent (.str `T n)))
 `(tactic|first|with_reducible assumption $[|$t:tactic]*)
local macro_rules|`(tactic|walk_at "tc")=>L2.tf "d9 cU dY fh cZ d_ cJ dk ef eh dm cK dZ dq cL du"
local macro_rules|`(tactic|walk_at "tn")=>L2.tf "aQ aR bv bw aC bx aS az bz bU bV aL bW aT aU aV aG aA aB aH aW bA bB aE bC bD bX bY cB cC bf cD au bZ aX av b0 aI aJ bE aY aZ bF bG ay aK a_ bH cE"
local macro_rules|`(tactic|walk_at "tk")=>L2.tf "aM bg bL aN bh bM cw bj bN cy cH bO aO bo bP aP"
local macro_rules|`(tactic|walk_at "tm")=>L2.tf "bJ cM bQ bR cz fj c7 cA c8 c9 cI db dS d4 cq cV eU dP eM fU dJ fw dw eo fz fA eD di fB eE dA eF dj d5"
local macro_rules|`(tactic|walk_at "tx")=>L2.tf "bS b_ cf fD dB cF dC dD dE"
local macro_rules|`(tactic|walk_at "tb")=>L2.tf "bp fk bT gb bI fY eN dQ cu cW gi dU fZ"
local macro_rules | `(tactic| walk_at "hm") => `(tactic| exact hr.m)
local macro_rules | `(tactic| walk_at "sc") => `(tactic| exact ⟨rfl,rfl,rfl,by decide +kernel,rfl,by decide +kernel,by decide +kernel⟩)
local macro_rules|`(tactic|walk_at "0h")=>`(tactic|(obtain⟨dx,t,h1,ct⟩:=S.co;obtain⟨dt,ht,hl⟩:=id ct))
local macro_rules|`(tactic|walk_at "0e")=>`(tactic|(obtain⟨dx,h1⟩:=M.o1;obtain⟨d1,t1,f1,_⟩:=M.fr.co))
local macro_rules|`(tactic|walk_at "0d")=>`(tactic|(have h1:=M.ob.2;walk_at "gg";intro ht y hy;obtain⟨y',hy',S⟩:=M.sp t ht;rw[hy] at hy';cases hy'))
local macro_rules|`(tactic|walk_at "0i")=>`(tactic|(walk_at "go";rw[if_neg qf,ke]))
set_option hygiene true
local macro_rules|`(tactic|lia)=>`(tactic|omega)
local macro_rules|`(tactic|exfalso)=>`(tactic|decide +kernel)
local macro_rules|`(tactic|ext)=>`(tactic|walk_at "gg")
local macro_rules|`(tactic|symm)=>`(tactic|walk_at "go")
local macro_rules|`(tactic|left)=>`(tactic|walk_at "0b")
local macro_rules|`(tactic|right)=>`(tactic|walk_at "i2")
local macro_rules|`(tactic|ac_rfl)=>`(tactic|walk_at "0f")
abbrev zc:=Option PySem.Value->PySem.Shared->Prop
abbrev ze:=PySem.Value->PySem.Shared->Prop
abbrev zf:=PySem.Str->Option PySem.Value
abbrev zg:=Unit->PySem.Shared->Prop
abbrev zh:=List (PySem.Addr×PySem.Obj)
abbrev zi:=List PySem.Value
abbrev zj:=List PySem.Addr
abbrev zm:=List Int
abbrev zo:=Option PySem.Addr
abbrev zp:=Array PySem.Value
namespace L2
def o1 {A:Sort _}{P:A->Prop}{G:Prop}(k:∀a,P a->G)(h:∃a,P a):G:=h.elim λa h=>k a h
def o2 {A B:Sort _}{P:A->B->Prop}{G:Prop}(k:∀a b,P a b->G)(h:∃a b,P a b):G:=h.elim λa h=>o1 (k a) h
def o3 {A B C:Sort _}{P:A->B->C->Prop}{G:Prop}(k:∀a b c,P a b c->G)(h:∃a b c,P a b c):G:=h.elim λa h=>o2 (k a) h
def o4 {A B C D:Sort _}{P:A->B->C->D->Prop}{G:Prop}(k:∀a b c d,P a b c d->G)(h:∃a b c d,P a b c d):G:=h.elim λa h=>o3 (k a) h
def o5 {A B C D E:Sort _}{P:A->B->C->D->E->Prop}{G:Prop}(k:∀a b c d e,P a b c d e->G)(h:∃a b c d e,P a b c d e):G:=h.elim λa h=>o4 (k a) h
def o6 {A B C D E F:Sort _}{P:A->B->C->D->E->F->Prop}{G:Prop}(k:∀a b c d e f,P a b c d e f->G)(h:∃a b c d e f,P a b c d e f):G:=h.elim λa h=>o5 (k a) h
def o7 {A B C D E F I:Sort _}{P:A->B->C->D->E->F->I->Prop}{G:Prop}(k:∀a b c d e f g,P a b c d e f g->G)(h:∃a b c d e f g,P a b c d e f g):G:=h.elim λa h=>o6 (k a) h
def o8 {A B C D E F I J:Sort _}{P:A->B->C->D->E->F->I->J->Prop}{G:Prop}(k:∀a b c d e f g i,P a b c d e f g i->G)(h:∃a b c d e f g i,P a b c d e f g i):G:=h.elim λa h=>o7 (k a) h
def o9 {A B C D E F I J L:Sort _}{P:A->B->C->D->E->F->I->J->L->Prop}{G:Prop}(k:∀a b c d e f g i j,P a b c d e f g i j->G)(h:∃a b c d e f g i j,P a b c d e f g i j):G:=h.elim λa h=>o8 (k a) h
def a1 {A B G:Prop}(k:A->B->G)(h:A/\B):G:=k h.1 h.2
def a2 {A B C G:Prop}(k:A->B->C->G)(h:A/\B/\C):G:=a1 (k h.1) h.2
def a3 {A B C D G:Prop}(k:A->B->C->D->G)(h:A/\B/\C/\D):G:=a2 (k h.1) h.2
def a4 {A B C D E G:Prop}(k:A->B->C->D->E->G)(h:A/\B/\C/\D/\E):G:=a3 (k h.1) h.2
def a5 {A B C D E F G:Prop}(k:A->B->C->D->E->F->G)(h:A/\B/\C/\D/\E/\F):G:=a4 (k h.1) h.2
def a6 {A B C D E F I G:Prop}(k:A->B->C->D->E->F->I->G)(h:A/\B/\C/\D/\E/\F/\I):G:=a5 (k h.1) h.2
def a7 {A B C D E F I J G:Prop}(k:A->B->C->D->E->F->I->J->G)(h:A/\B/\C/\D/\E/\F/\I/\J):G:=a6 (k h.1) h.2
def a8 {A B C D E F I J L G:Prop}(k:A->B->C->D->E->F->I->J->L->G)(h:A/\B/\C/\D/\E/\F/\I/\J/\L):G:=a7 (k h.1) h.2
def a9 {A B C D E F I J L M G:Prop}(k:A->B->C->D->E->F->I->J->L->M->G)(h:A/\B/\C/\D/\E/\F/\I/\J/\L/\M):G:=a8 (k h.1) h.2
open Lean Parser.Tactic
abbrev Pt:=TSyntax `Lean.Parser.Tactic.rcasesPatLo
abbrev Tc:=TSyntax `tactic
def kd (p:Pt):Nat:=let q:=p.raw[0][0];if p.raw[1].getNumArgs != 0 || q.getNumArgs != 1 then 3 else if q[0].isOfKind ``rcasesPat.ignore then 0 else if !q[0].isOfKind ``rcasesPat.one then 3 else if q[0][0].getId == `rfl then 2 else 1
def iA (e:Term):Bool:=e.raw.isIdent && e.raw.getId.eraseMacroScopes.isAtomic
def al (ps:List Pt) (e:Option Term) (cf:Bool) (j:Nat) (rs:Array Ident) (k:Nat):MacroM (Option (TSyntax `Lean.Parser.Tactic.tacticSeq)):=do
 let n:=ps.length
 if !(k < n && k ≤ j + 1 && !(cf && k + 1 == n && kd ps[k]! > 1)) then return none
 let m:=if k + 1 == n && !cf then n else k
 let o:=mkIdent (`L2 ++ .mkSimple s!"o{k}")
 let a:=mkIdent (`L2 ++ .mkSimple s!"a{k}")
 let mut t ← match e with
   | some e=>`(tactic| first | refine $o ?_ $e | refine $a ?_ $e)
   | none=>`(tactic| first | refine $o ?_ | refine $a ?_)
 if let some e:=e then
   if iA e then t ← `(tactic| $t <;> try clear $(⟨e.raw⟩):ident)
 let bs ← (ps.take m).toArray.mapIdxM λi p=>match kd p with
   | 0=>`(_)
   | 1=>pure ⟨p.raw[0][0][0][0]⟩
   | _=>pure (rs[i]!:Term)
 t ← `(tactic| $t <;> intro $bs*)
 if m == k && !cf then t ← `(tactic| $t <;> rintro ⟨$((ps.drop k).toArray),*⟩)
 for i in [0:m] do
   if kd ps[i]! > 1 then t ← `(tactic| $t <;> obtain $(⟨ps[i]!.raw[0]⟩):rcasesPatMed:=$(rs[i]!):ident)
 if cf then t ← (if k + 1 == n && kd ps[k]! == 1 then `(tactic| $t <;> intro $(⟨ps[k]!.raw[0][0][0][0]⟩):term) else if k + 1 == n then `(tactic| $t <;> intro _) else `(tactic| $t <;> (intro r;rcases r with ⟨$((ps.drop k).toArray),*⟩)))
 return some (← `(tacticSeq| $t:tactic))
def ob (ps:List Pt) (e:Option Term):MacroM (Tc):=do
 let cf:=match e with
   | some e=>!iA e && ps.any (kd · == 2) && (e.raw.find? λx=>x.isIdent && ps.any λp=>kd p == 1 && p.raw[0][0][0][0].getId == x.getId.getRoot).isSome
   | none=>false
 let j:=(ps.takeWhile (kd · < if cf then 2 else 3)).length
 let rs ← ps.toArray.mapIdxM λi _=>do pure (mkIdent (← Macro.addMacroScope (.mkSimple s!"r{i}")))
 let alts:=(← [9,8,7,6,5,4,3,2,1].filterMapM (al ps e cf j rs)).toArray
 match e with
 | some e=>`(tactic| first $[| $alts:tacticSeq]* | rcases $e:term with ⟨$(ps.toArray),*⟩)
 | none=>`(tactic| first $[| $alts:tacticSeq]* | (intro r;rcases r with ⟨$(ps.toArray),*⟩))
end L2
local macro_rules | `(tactic| obtain ⟨$ps,*⟩ := $e:term) => L2.ob ps.getElems.toList (some e)
local macro_rules | `(tactic| rintro ⟨$ps,*⟩) => L2.ob ps.getElems.toList none
namespace L2
open Lean Parser.Tactic in
def tp:Nat->Term->MacroM (TSyntax `Lean.Parser.Tactic.rcasesPatLo)
 |0,_=>Macro.throwUnsupported
 |n+1,t=>do match t with
  |`($i:ident)=>`(rcasesPatLo|$i:ident)
  |`(_)=>`(rcasesPatLo|_)
  |`(⟨$ts,*⟩)=>let ps<-ts.getElems.mapM (tp n);`(rcasesPatLo|⟨$ps,*⟩)
  |_=>Macro.throwUnsupported
end L2
local macro_rules|`(tactic|let⟨$ts,*⟩:=$e)=>do L2.ob (<-ts.getElems.toList.mapM (L2.tp 9)) (some e)
open Array renaming getElem?_eq_some_iff→qy,length_toList→Qo,getElem?_eq_getElem→abu,getElem?_eq_none→abO,getElem?_toList→abP,toArray_toList→acg
open Bool renaming false_ne_true→qf,eq_iff_iff→QX,and_eq_true→Q9,false_eq_true→abd,or_true→abq,or_eq_true_iff→aeg
open Classical renaming byContradiction→qW
open False renaming elim→Qp
open ForInStep renaming yield→QE
open Int renaming toNat_natCast→Qk,eq_ofNat_of_zero_le→abb,le_of_lt→abr,mul_le_mul_of_nonneg_right→abX,emod_nonneg→aco,fdiv_eq_ediv_of_nonneg→acD,one_mul→acV,ne_of_gt→adt,add_zero→adu,ediv_lt_of_lt_mul→adI,mul_ediv_add_emod→adJ,mul_nonneg→adT,mul_comm→aeF,mul_one→aeL,pow_pos→aeM
open List renaming length_map→qa,mem_singleton→qc,length_append→qd,getElem?_eq_some_iff→qg,getElem?_eq_getElem→qi,mem_cons→qk,size_toArray→qo,replicate→qq,map_append→qu,mem_of_getElem?→qw,getElem?_map→qx,length_take→qA,mem_cons_of_mem→qB,getElem?_append_right→qF,mem_cons_self→qG,length_cons→qJ,mem_append_right→qM,take_length→qN,length_replicate→qO,take_add_one→qQ,getElem?_append_left→qR,not_mem_nil→qU,mem_append→q_,mem_map→Qa,map_cons→Qb,length_range→Qf,length→Qg,contains_cons→Qi,nodup_cons→Qs,dropLast_concat_getLast→Qt,lookup_cons→Qw,all_eq_true→Qy,replicate_succ→QB,sublist_nil→QI,mem_append_left→QM,lookup→QN,length_reverse→QR,getElem?_zip_eq_some→QW,flatten_cons→Q0,eq_of_mem_replicate→Q6,filter_cons→Q_,nodup_nil→aaX,length_eq_one_iff→abe,find?_cons→abf,any_cons→abg,getElem?_eq_none→abj,pairwise_map→abl,take_zero→abo,filterMap_cons→abv,idxOf_lt_length_iff→aby,mem_filter→abB,append_nil→abC,length_set→abD,length_nil→abE,range→abG,pairwise_cons→abH,getElem?_set_self→abJ,take_of_length_le→abM,reverse_cons→abN,append_inj'→abW,getElem?_set_ne→ace,eq_nil_of_length_eq_zero→acf,mem_of_mem_take→ach,take_left'→acp,getElem?_range→acv,mem_range→acB,getD_eq_getElem?_getD→acI,getElem?_take→acK,count_pos_iff→acL,mem_or_eq_of_mem_set→acN,take_sublist→acR,append_assoc→acS,nodup_append→acW,length_erase_of_mem→acY,getElem?_replicate→ada,length_drop→ade,map_nil→adn,map_map→adw,length_pos_of_mem→adz,map_set→adA,of_mem_zip→adC,length_filter_le→adF,getElem?_reverse→adK,cons_lt_cons_iff→adL,mem_erase_of_ne→adZ,pairwise_append→aea,replicate_succ'→aeb,getElem?_of_mem→aec,map_congr_left→aeh,all_cons→aej,sum_cons→ael,mem_filterMap→aep,getElem_idxOf→aes,filter_append→aev,foldl→aeQ
open List.Pairwise renaming nil→aeD
open List.cons renaming inj→aek
open Nat renaming le_refl→qe,lt_of_lt_of_le→qz,ne_of_lt→qH,zero_le→qV,le_trans→Qh,lt_irrefl→Qj,sub_self→QK,lt_succ_self→abT,div_add_mod→acn,min_eq_left→acq,mod_two_eq_zero_or_one→acJ,ne_of_gt→adi,not_lt_zero→adE,le_succ→adP,pow_lt_pow_right→adU,add_comm→aew,le_of_lt→aex
open Nat.succ renaming inj→acy
open Ne renaming symm→qX
open Option renaming map_eq_some_iff→qP,isSome_iff_exists→qZ,map_some→QD,bind_some→abV,isSome_map→acT,getD_none→aeH,map→aeS
open Option.some renaming inj→qI
open Or renaming inr→aci,inl→acG
open Prod.mk renaming injEq→acZ
open PyProof.Rows renaming callWith_type1→qT,slot_tuple_getitem→Q7,envOfC→Q8,callWith_builtin1→abU
open PySem renaming mem_of_lookup→QP,Within→abI,passOn→ady,boot_len→adY,wpAt_of_wpAny→aee,call→aeR
open PySem.Around renaming under_plainId→abn,under→aeB
open PySem.Builtin renaming bitNot→aaZ,bitAnd→abK,bitOr→abY,bitXor→adN
open PySem.Builtin.List renaming listExtendWith→Ql,listSameRef→Q3,listTooLong→abx,listItems→adv
open PySem.Builtin.Range renaming rangeSize→Qm,small→acu
open PySem.Builtin.Slice renaming slicePlaces→QV,sliceAdjust→abt,sliceApplied→acF
open PySem.Builtin.Tuple renaming tupleExact→Qr
open PySem.Calls renaming spliced_cons→Qu,evalArgs_plain→Qx,callWith_builtin→QS,spliced_nil→QY,Name_function_global→acC
open PySem.Code renaming quiet_builtin→aeu,isFrame→aeC
open PySem.Data renaming fields→aeK
open PySem.EntryCells renaming newEntry→abw
open PySem.F renaming excBase_ValueError→Qc,plainAttrs_list→Qz,slot_list_append→Q4,type_list_append→Q5,plainAttrs_dict→aaW,slot_dict_pop→abh,excAttr_ValueError→abm,store_ValueError→abA,slot_dict_get→abQ,slot_dict_setdefault→acj,plain_extend_loop→acs,slot_dict_getitem→acM,args_tuple_add_2→acX,entry_tuple_add→adb,args_dict_pop_3→adf,args_dict_get_2→adg,slot_list_index→adh,slot_tuple_add→adl,entry_dict_pop→ado,entry_dict_get→adp,type_dict_pop→adG,entry_bexc_ga→adH,args_bexc_ga→adR,called_tuple→adV
open PySem.Heap renaming get?_push_of_some→qb,lt_size→qj,get?_push_size→qp,get?_update_other→qt,get?_update_self→qC,get?_none_of_le→QL,SameBut→abp,size_push→adO,get?_push_cases→adW,MadeExcOf→adX,get?_update_ne→aef
open PySem.Heap.ExtBut renaming push→aeI
open PySem.Heap.Ns1 renaming of_empty→aeA
open PySem.NameKind renaming free→abz
open PySem.Obj renaming mapFields→qK,data_mapFields→qL,isFreed_of_fields→qS,mapSeq→Q2,cls_mapFields→abL
open PySem.Paired renaming length→aei
open PySem.PyData renaming strOk→Q1,canLay0→aaY,canLayAll0→abk,depth→adq,depthAll→adD,int→aer
open PySem.SeqAt.EqAt renaming int_str→aem,str_int→aen
open PySem.Spec renaming same_self→adS,same→aeO
open PySem.Str renaming ofString→QZ
open PySem.Value renaming ref→qh,none→qD,type→abR,builtin→abZ,int→acz,str→acA,isInt→adM,bool→aeo,float→aeJ
open PySem.Value.ref renaming inj→aeT
open PySem.W renaming Frag→qm,Frag→qv,nsIn→qY,findIn→Qd,kitOne→Qe,emptyDict→Qq,notFirst→Qv,findIn→QA,fnOf→QF,codeIn→QG,instObj→QO,keepIn→QQ,mroIn→QT,methodCall_KW→abF,plainGet→abS,mg_of→acd,plainGet_of→acr,callWith_K→acw,lookIn→acE,any_some→acH,methodObj→acO,hasDictIn→acP,specialIn→acU,cellsFrom_some→adk,isFn→adx,takerIn→adB,looks_findIn→adQ,findObj→aed,isFn→aey,plainOver→aez,tail_of_in→aeE,handedIn→aeG,makesIn→aeN,keepIn→aeP
open PySem.Within renaming cons→acQ
open Sum renaming inl→Qn,inr→QJ
open Sum.inl renaming inj→QC
open True renaming intro→QU
namespace L2
open PySem PySem.W
def live (x:Obj): Option Obj:=match x with
 | ⟨_,_,.freed,_⟩=>none
 | o=>some o
noncomputable def pick (l:List Obj):Nat->List Nat->List (Option Obj) :=
 @List.rec Obj (λ_=>Nat->List Nat->List (Option Obj)) (λ_ _=>[])
   (λo _ ih i as=>@List.rec Nat (λ_=>List (Option Obj)) [] (λa r _=>@Bool.rec (λ_=>List (Option Obj)) (ih (Nat.add i 1) as) (live o::ih (Nat.add i 1) r) (Nat.beq i a)) as) l
noncomputable def told (K:Frag):List (Option Obj):=@List.rec (Addr×Obj) (λ_=>List (Option Obj)) [] (λp _ r=>some p.2::r) K
def EB:∀(l:List Obj) (i:Nat) (K:Frag),pick l i (K.map (·.1))=told K->∀p∈K,∃j,p.1=i+j/\(l[j]?).bind live=some p.2
 | [],i,K,e,p,hp=>by
   cases K with
   | nil=>cases hp
   | cons q r=>exact absurd e (by intro x;exact nomatch (x:([]:List (Option Obj))=some q.2::told r))
 | o::l,i,[],e,p,hp=>by cases hp
 | o::l,i,q::r,e,p,hp=>by
   have e':@Bool.rec (λ_=>List (Option Obj)) (pick l (i+1) ((q::r).map (·.1))) (live o::pick l (i+1) (r.map (·.1))) (Nat.beq i q.1)=some q.2::told r:=e;cases hb:Nat.beq i q.1 with
   | false =>
     rw[hb] at e';let⟨j,h1,h2⟩:=EB l (i+1) (q::r) e' p hp;exact⟨j+1,h1.trans (by rw[Nat.add_assoc,aew 1 j]),by simpa using h2⟩
   | true =>
     rw[hb] at e';injection e' with a b;rcases qk.mp hp with rfl | hp
     · exact⟨0,(Nat.eq_of_beq_eq_true hb).symm,by simpa using a⟩
     · let⟨j,h1,h2⟩:=EB l (i+1) r b p hp
       exact⟨j+1,h1.trans (by rw[Nat.add_assoc,aew 1 j]),by simpa using h2⟩
def Mg {h:Heap}{a:Addr}{o:Obj}(e:(h.objs.toList[a]?).bind live=some o): h.get? a=some o:=by
 rw[abP] at e;unfold Heap.get?;cases hx:h.objs[a]? with
 | none=>rw[hx] at e;cases e
 | some x =>
   rw[hx] at e;let⟨c,d,dt,sl⟩:=x;cases dt<;>first | (cases e;done) | (cases e;rfl)
def lookup_mem:∀{K:Frag} {a:Addr} {o:Obj},K.lookup a=some o->(a,o)∈K
 | [],_,_,e=>by cases e
 | (b,x)::r,a,o,e=>by
   rw[Qw] at e;cases h:a==b with
   | true=>rw[h] at e;cases e;rw[eq_of_beq h];exact .head _
   | false=>rw[h] at e;exact .tail _ (lookup_mem e)
noncomputable def hook (K:Params->Frag) (as:zj) (e:∀P,as=(K P).map (·.1)):Hook :=
 ⟨List (Option Obj),λs=>pick s.heap.objs.toList 0 as,λw=>told (K w.params),InK K,λw s x a o l=>by
   let⟨j,h1,h2⟩:=EB _ _ _ ((e w.params) ▸ x) _ (lookup_mem l);have h1:a=0+j:=h1;rw[Nat.zero_add] at h1;subst h1;exact Mg h2,InK.keeps⟩
def Tq {K:Params->Frag}{as:zj}{e:∀P,as=(K P).map (·.1)}{w:World}{h:Heap}(Y:(hook K as e).says w h): (K w.params).In h:=Y
end L2
set_option maxHeartbeats 4000000
section
local macro_rules | `(tactic| o_head ($f:ident $k $a $p)) => if f.getId.eraseMacroScopes.getString! == "kHook" then `(tactic| o_head (L2.hook $k $a $p)) else Lean.Macro.throwUnsupported
open PySem PySem.W PyProof.Rows
namespace PySem.W.Fast
open Lean in
local macro_rules|`(command|universe $x)=>do
 let t (c:Name):MacroM Syntax:=`(command|theorem $(mkIdent (.mkSimple s!"tw{c.hash}")):ident :True:=trivial)
 let mut r:=#[<-t `PySem.Challenge.pw_leafframe_k42_refused_in_order]
 let mut p:=""
 for w in "o_ 43-46 49-324 327-559 561-849 853-1066 1070-1413 1415-1890 tree_ 47 70 85 100 115 130 145 160 175 190 205 220 235 257 279 294 324 356 385 421 457 493 558-559 640 656 764 849 861 982 1066 1135 1205 1233 1324 1340 1412-1413 1505 1564 1639 1690 1783 1867 1890 sts_ 49 71 86 101 116 131 146 161 176 191 206 221 236 258 280 295 327 357 386 422 458 494 559 561 641 657 853 862 1070 1136 1206 1234 1325 1341 1413 1415 1506 1565 1640 1691 1784 1868 env_ 41 thread_ 849 1066 heap_ 39 46 1891 view_ 39".splitOn " " do
  if w.endsWith "_" then p:=w else
   let v:=(w.splitOn "-").map String.toNat!
   for i in [v.head!:v.getLast!+1] do r:=r.push (<-t (x.getId.str s!"{p}{i}"))
 return mkNullNode r
universe K42.hd
end PySem.W.Fast
set_option maxRecDepth 100000 in
set_option maxHeartbeats 0 in
open_top K42.hd for PySem.Challenge.rw_leafframe_k42_refused_in_order
end
namespace L2
open PySem PySem.Spec PyProof.Rows
abbrev Key:=Sum Int Str
def DU:Key->Value->Bool
 | .inl k,v=>adM k v
 | .inr x,v=>Value.isStrOf x v
def XZ (w:World): Key->Int
 | .inl k=>hashInt k
 | .inr x=>hashStr w x
def iV:∀{k:Key} {v:Value},DU k v=true->(∃i t,k=Qn i/\v=acz i t)\/(∃x t,k=QJ x/\v=acA x t)
 | .inl i,v,h=>by
   let⟨t,e⟩:=Value.isInt_shape (k:=i) (v:=v) h;exact .inl ⟨i,t,rfl,e⟩
 | .inr x,v,h=>by
   let⟨t,e⟩:=Value.isStrOf_shape (x:=x) (v:=v) h;exact .inr ⟨x,t,rfl,e⟩
def KG (i:Int)(t:Tok): DU (.inl i) (.int i t)=true:=by simp[DU,adM]
def KH (x:Str)(t:Tok): DU (.inr x) (.str x t)=true:=by simp[DU,Value.isStrOf]
def Ts (a b:Int): decide ((Qn a:Key)=Qn b)=(a==b):=by
 by_cases e:a=b
 · subst e;simp
 · have h:¬(Qn a:Key)=Qn b:=λq=>e (QC q)
   rw[decide_eq_false h];exact(beq_eq_false_iff_ne.mpr e).symm
def Tt (a b:Str): decide ((QJ a:Key)=QJ b)=decide (a=b):=by
 by_cases e:a=b
 · subst e;simp
 · have h:¬(QJ a:Key)=QJ b:=λq=>e (Sum.inr.inj q)
   rw[decide_eq_false h,decide_eq_false e]
def Tv (a:Int)(b:Str): decide ((Qn a:Key)=QJ b)=false:=decide_eq_false (λq=>nomatch q)
def Tw (a:Str)(b:Int): decide ((QJ a:Key)=Qn b)=false:=decide_eq_false (λq=>nomatch q)
def hV (prog:Program)(w:World): PySem.KeyKind prog w Key where
 is:=DU
 hash:=XZ w
 inj:=λv a b ha hb=>by
   rcases iV ha with ⟨i,t,rfl,rfl⟩ | ⟨x,t,rfl,rfl⟩
   · rcases iV hb with ⟨j,u,rfl,e⟩ | ⟨y,u,rfl,e⟩
     · injection e with e1 _;rw[e1]
     · exact nomatch e
   · rcases iV hb with ⟨j,u,rfl,e⟩ | ⟨y,u,rfl,e⟩
     · exact nomatch e
     · injection e with e1 _;rw[e1]
 byValue:=λk v h=>by
   rcases iV h with ⟨i,t,rfl,rfl⟩ | ⟨x,t,rfl,rfl⟩<;>rfl
 pyHash:=λhv h=>by
   rcases iV hv with ⟨i,t,rfl,rfl⟩ | ⟨x,t,rfl,rfl⟩
   · exact wpAny_pyHash_int h
   · exact wpAny_pyHash_str h
 eqBool:=λhu hv h=>by
   rcases iV hu with ⟨i,t,rfl,rfl⟩ | ⟨x,t,rfl,rfl⟩
   · rcases iV hv with ⟨j,u,rfl,rfl⟩ | ⟨y,u,rfl,rfl⟩
     · rw[Ts] at h;exact wpAny_eqBool_int h
     · rw[Tv] at h;exact aem i t y u _ _ _ _ h
   · rcases iV hv with ⟨j,u,rfl,rfl⟩ | ⟨y,u,rfl,rfl⟩
     · rw[Tw] at h;exact aen x t j u _ _ _ _ h
     · rw[Tt] at h;exact wpAny_eqBool_str h
 «strs» := λk x t v h=>by
   rcases iV h with ⟨i,u,rfl,e⟩ | ⟨y,u,rfl,e⟩
   · exact nomatch e
   · injection e with e1 _
     subst e1;cases v<;>rfl
def Gr (prog:Program)(w:World)(i:Int)(t:Tok): (hV prog w).is (.inl i) (.int i t)=true:=KG i t
def Gs (prog:Program)(w:World)(x:Str)(t:Tok): (hV prog w).is (.inr x) (.str x t)=true:=KH x t
inductive V where
 | non | bl (b:Bool) | int (i:Int) | str (x:Str) | byt (b:Array UInt8) | flt (b:UInt64) | ref (a:Addr) | ty (n:String)
 deriving DecidableEq
def ZX:V->Value->Prop
 | .non,u=>u=qD
 | .bl b,u=>u=aeo b
 | .int i,u=>∃t,u=acz i t
 | .str x,u=>∃t,u=acA x t
 | .byt b,u=>∃t,u=Value.bytes b t
 | .flt b,u=>∃t,u=aeJ b t
 | .ref a,u=>u=qh a
 | .ty n,u=>u=abR n
abbrev Vals:List V->List Value->Prop:=Paired ZX
abbrev zu:=List V
def Vals.length {xs:zu}{us:zi}(r:Vals xs us): xs.length=us.length:=aei r
def Vals.get:∀{xs:zu} {us:zi} {i:Nat} {x:V},Vals xs us->xs[i]?=some x->∃u,us[i]?=some u/\ZX x u
 | _,_,_,_,.nil,e=>by simp at e
 | _,_,0,_,.cons r _,e=>by simp at e;subst e;exact⟨_,rfl,r⟩
 | _,_,i+1,x,.cons _ t,e=>by
   let⟨u,h1,h2⟩:=Vals.get (i:=i) (x:=x) t (by simpa using e);exact⟨u,by simpa using h1,h2⟩
def Vals.set {x:V}{u:Value}(r:ZX x u): ∀{xs:zu} {us:zi} (i:Nat),Vals xs us->Vals (xs.set i x) (us.set i u)
 | _,_,_,.nil=>.nil
 | _,_,0,.cons _ t=>.cons r t
 | _,_,i+1,.cons q t=>.cons q (Vals.set r i t)
def Vals.append:∀{xs ys:zu} {us ws:zi},Vals xs us->Vals ys ws->Vals (xs++ys) (us++ws)
 | _,_,_,_,.nil,s=>s
 | _,_,_,_,.cons r t,s=>.cons r (Vals.append t s)
def Vals.take:∀{xs:zu} {us:zi} (n:Nat),Vals xs us->Vals (xs.take n) (us.take n)
 | _,_,0,_=>.nil
 | _,_,_+1,.nil=>.nil
 | _,_,n+1,.cons r t=>.cons r (Vals.take n t)
def Vals.drop:∀{xs:zu} {us:zi} (n:Nat),Vals xs us->Vals (xs.drop n) (us.drop n)
 | _,_,0,r=>r
 | _,_,_+1,.nil=>.nil
 | _,_,n+1,.cons _ t=>Vals.drop n t
def lu:Option V->Option Value->Prop
 | some v,some u=>ZX v u
 | none,none=>True
 | _,_=>False
def KV {κ:Type}: List (κ×V)->List (κ×Value)->Prop:=Paired λ(p:κ×V) (q:κ×Value)=>p.1=q.1/\ZX p.2 q.2
def kV:Key->V
 | .inl i=>.int i
 | .inr x=>.str x
abbrev zv:=List (Key×V)
abbrev zw:=List (Str×V)
abbrev zD:=List (List Key×V)
inductive HO where
 | lst (xs:zu)
 | tup (xs:zu)
 | dK (z_:zv) | dT (z_:zD)
 | set (S:Int->Bool) (n:Nat)
 | ins (C dx:Addr) (fs:zw)
 | own (x:Addr)
 | xd (fs:zw)
 | met (f x:Addr)
 | rng (lo hi:Int)
 | frz (o:Obj) (u:HO)
 | tbl (ps:zp)
 | ext (φ:Heap->Prop)
abbrev Hp:=Addr->Option HO
def upd (H:Hp)(a:Addr)(o:HO): Hp:=λb=>if b=a then some o else H b
def ah {H:Hp}{a:Addr}{o:HO}: upd H a o a=some o:=by unfold upd;rw[if_pos rfl]
def ak {H:Hp}{a b:Addr}{o:HO}(h:b≠a): upd H a o b=H b:=by unfold upd;rw[if_neg h]
def nJ {H:Hp}{a:Addr}{o u:HO}: upd (upd H a o) a u=upd H a u:=by
 funext b;unfold upd;split<;>rfl
def i7 {H:Hp}{a b:Addr}{o u:HO}(h:H a=some o)(h':H b=some u)(d:o≠u): a≠b:=by
 intro e;subst e;rw[h] at h';exact d (qI h')
def aj {H:Hp}{a b:Addr}{o:HO}(h:H a=some o)(h':H b=none): a≠b:=by
 intro e;subst e;rw[h] at h';cases h'
section
variable (P:Program)(w:World)
def gN (H:Hp)(h:Heap)(a:Addr): HO->Prop
 | .lst xs=>xs.length<=sizeLine/\∃(its:zi) (n:Nat),Vals xs its/\h.get? a=some { cls:=.type "list",data:=.seq its.toArray n }
 | .tup xs=>xs.length<=sizeLine/\∃its:zi,Vals xs its/\IsTup h a its.toArray
 | .dK z_=>z_.length<=sizeLine/\(a==sysModules)=false/\∃vs,KV z_ vs/\h.DictOf (hV P w) a vs
 | .dT z_=>z_.length<=sizeLine/\(a==sysModules)=false/\∃xs:List (List Key×Addr×Value),
     Paired (λ(p:List Key×V) (q:List Key×Addr×Value)=>p.1=q.1/\H q.2.1=some (.tup (p.1.map kV))/\ZX p.2 q.2.2) z_ xs ∧
     ∃o es ep,h.get? a=some o/\o.ExactDict/\o.data=.dict es ep/\es.toList=xs.map (entryOfKey (tupleKind (hV P w)))/\(xs.map (·.1)).Nodup
 | .set S n=>h.SetOf (intKind P w) a S n
 | .ins C dx fs=>H dx=some (.own a)/\fs.length<=1000/\dx≠a/\h.get? a=some (QO C dx) ∧
     ∃mA,h.Ns1 dx mA/\(∀f,lu (fs.lookup f) (mA f))/\abI mA (fs.map (·.1))
 | .own _=>∃o,h.get? a=some o
 | .xd fs=>∃mA,h.Ns1 a mA/\∀f,lu (fs.lookup f) (mA f)
 | .rng lo hi=>∃t u v,h.get? a=some { cls:=.type "range",data:=.fields #[.int lo t,.int hi u,.int 1 v] }
 | .frz o u=>h.get? a=some o/\gN H h a u
 | .tbl ps=>h.get? a=some { cls:=.none,data:=.fields ps }
 | .met f x=>h.get? a=some (acO (.ref f) (.ref x))
 | .ext φ=>φ h/\(∃o,h.get? a=some o)/\∀h1 h2:Heap,φ h1->(∀o,h1.get? a=some o->h2.get? a=some o)->φ h2
def HOk (H:Hp)(h:Heap): Prop:=∀a o,H a=some o->gN P w H h a o
end
section
variable {P:Program}{w:World}{H H':Hp}{h h':Heap}{a:Addr}{o:HO}
def gN.lt (x:gN P w H h a o): a < h.objs.size:=by
 cases o with
 | lst xs=>let⟨_,_,_,_,e⟩:=x;exact qj e
 | tup xs=>let⟨_,_,_,p⟩:=x;exact p.lt
 | dK z_=>let⟨_,_,_,_,o,_,_,e,_⟩:=x;exact qj e
 | dT z_=>let⟨_,_,_,_,o,_,_,e,_⟩:=x;exact qj e
 | set S n=>let⟨o,_,_,_,e,_⟩:=x;exact qj e
 | ins C dx fs=>let⟨_,_,_,e,_⟩:=x;exact qj e
 | own y=>let⟨_,e⟩:=x;exact qj e
 | xd fs=>let⟨_,⟨_,_,_,e,_⟩,_⟩:=x;exact qj e
 | rng lo hi=>let⟨_,_,_,e⟩:=x;exact qj e
 | frz ob u=>let⟨e,_⟩:=x;exact qj e
 | tbl ps=>exact qj (show h.get? a=some _ from x)
 | met f y=>exact qj (show h.get? a=some _ from x)
 | ext φ=>let⟨_,⟨_,e⟩,_⟩:=x;exact qj e
def Paired.Tx {α β:Type}{F G:α->β->Prop}: ∀{l₁:List α} {l₂:List β},Paired F l₁ l₂->(∀a b,F a b->G a b)->Paired G l₁ l₂
 | _,_,.nil,_=>.nil
 | _,_,.cons r t,f=>.cons (f _ _ r) (Paired.Tx t f)
def gN.stay (x:gN P w H h a o)(k:∀b u,(b=a\/H b=some (.own a))->h.get? b=some u->h'.get? b=some u)
   (ho:∀b,H b=some (.own a)->H' b=some (.own a)) (ht:∀b xs,H b=some (.tup xs)->H' b=some (.tup xs)):gN P w H' h' a o:=by
 induction o with
 | lst xs=>let⟨z,its,n,r,e⟩:=x;exact⟨z,its,n,r,k _ _ (.inl rfl) e⟩
 | tup xs=>let⟨z,its,r,ob,e,c⟩:=x;exact⟨z,its,r,ob,k _ _ (.inl rfl) e,c⟩
 | dK z_=>let⟨z,y,vs,r,ob,es,ep,e,c⟩:=x;exact⟨z,y,vs,r,ob,es,ep,k _ _ (.inl rfl) e,c⟩
 | dT z_ =>
   let⟨z,y,xs,r,ob,es,ep,e,c⟩:=x;exact⟨z,y,xs,Paired.Tx r λp q z=>⟨z.1,ht _ _ z.2.1,z.2.2⟩,ob,es,ep,k _ _ (.inl rfl) e,c⟩
 | set S n=>let⟨ob,es,ep,t,e,c⟩:=x;exact⟨ob,es,ep,t,k _ _ (.inl rfl) e,c⟩
 | ins C dx fs =>
   let⟨d,z,ne,e,mA,⟨od,es,ep,e2,c⟩,r⟩:=x;exact⟨ho _ d,z,ne,k _ _ (.inl rfl) e,mA,⟨od,es,ep,k _ _ (.inr d) e2,c⟩,r⟩
 | own y=>let⟨ob,e⟩:=x;exact⟨ob,k _ _ (.inl rfl) e⟩
 | xd fs=>let⟨mA,⟨od,es,ep,e,c⟩,r⟩:=x;exact⟨mA,⟨od,es,ep,k _ _ (.inl rfl) e,c⟩,r⟩
 | rng lo hi=>let⟨t,u,v,e⟩:=x;exact⟨t,u,v,k _ _ (.inl rfl) e⟩
 | frz ob u ih=>let⟨e,q⟩:=x;exact⟨k _ _ (.inl rfl) e,ih q⟩
 | tbl ps =>
   have e:h.get? a=some { cls:=.none,data:=.fields ps }:=x;show h'.get? a=some { cls:=.none,data:=.fields ps };exact k a _ (.inl rfl) e
 | met f y =>
   have e:h.get? a=some (acO (.ref f) (.ref y)):=x;show h'.get? a=some (acO (.ref f) (.ref y));exact k a _ (.inl rfl) e
 | ext φ=>let⟨p,⟨o,e⟩,st⟩:=x;exact⟨st _ _ p λo q=>k _ _ (.inl rfl) q,⟨o,k _ _ (.inl rfl) e⟩,st⟩
def HOk.lt (x:HOk P w H h)(e:H a=some o): a < h.objs.size:=(x a o e).lt
def HOk.fresh (x:HOk P w H h)(e:h.objs.size<=a): H a=none:=by
 cases q:H a with
 | none=>rfl
 | some u=>exact absurd (qz (x.lt q) e) (Qj _)
def HOk.kept (x:HOk P w H h)(k:∀b u,h.get? b=some u->h'.get? b=some u): HOk P w H h':=λa o e =>
 (x a o e).stay (λb u _ q=>k b u q) (λ_ q=>q) λ_ _ q=>q
def HOk.laid (x:HOk P w H h)(k:∀b u,h.get? b=some u->h'.get? b=some u)(hp:h.objs.size<=a)(new:gN P w (upd H a o) h' a o): HOk P w (upd H a o) h':=λb u e=>by
 have hn:=x.fresh hp;by_cases hb:b=a
 · subst hb;rw[ah] at e;cases e;exact new
 · rw[ak hb] at e
   exact(x b u e).stay (λc v _ q=>k c v q) (λc q=>by rw[ak (aj q hn)];exact q) λc xs q=>by rw[ak (aj q hn)];exact q
end
def Rd (H:Hp)(a:Addr)(u:HO): Prop:=H a=some u\/∃o,H a=some (.frz o u)
def Rd.of {H:Hp}{a:Addr}{u:HO}(h:H a=some u): Rd H a u:=.inl h
def Rd.ok {P:Program}{w:World}{H:Hp}{h:Heap}{a:Addr}{u:HO}(r:Rd H a u)(x:HOk P w H h): gN P w H h a u:=by
 rcases r with r | ⟨o,r⟩
 · exact x a u r
 · let⟨_,q⟩:=x a _ r
   exact q
def Mut:Option HO->Prop
 | some (.lst _)=>True
 | some (.dK _)=>True
 | some (.dT _)=>True
 | some (.set _ _)=>True
 | some (.ins _ _ _)=>True
 | some (.ext _)=>True
 | _=>False
section
variable {P:Program}{w:World}{H:Hp}{h h':Heap}{x e:Addr}{o':HO}
def HOk.write (ok:HOk P w H h)(mu:Mut (H x))(he:e=x\/H e=some (.own x))(k:∀b u,b≠e->h.get? b=some u->h'.get? b=some u)(heo:∃u,h'.get? e=some u)
   (new:gN P w (upd H x o') h' x o'):HOk P w (upd H x o') h':=λb u q=>by
 have VI:∀c y,H c=some (.own y)->c≠x:=λc y r z=>by subst z;rw[r] at mu;exact mu
 have X0:∀c xs,H c=some (.tup xs)->c≠x:=λc xs r z=>by subst z;rw[r] at mu;exact mu
 by_cases hb:b=x
 · subst hb;rw[ah] at q;cases q;exact new
 · rw[ak hb] at q
   by_cases hbe:b=e
   · have q':H b=some (.own x):=by
       rcases he with z | z
       · exact absurd (hbe.trans z) hb
       · rw[hbe];exact z
     rw[q] at q';cases q';let⟨v,hv⟩:=heo;exact⟨v,by rw[hbe];exact hv⟩
   · refine(ok b u q).stay (λc v hc r=>k c v ?_ r) (λc r=>by rw[ak (VI c b r)];exact r) λc xs r=>by rw[ak (X0 c xs r)];exact r
     rcases hc with rfl | hc
     · exact hbe
     · rintro rfl
       rcases he with z | z
       · exact VI c b hc z
       · rw[hc] at z;cases z;exact hb rfl
end
structure Un (fs ex:zj)(H H':Hp)(h h':Heap): Prop where
 keep:∀b o,h.get? b=some o->H b=none->b∉fs->b∉ex->h'.get? b=some o
 slot:∀b o,h.get? b=some o->H b=none->b∈fs->b∉ex->∃sl,h'.get? b=some { o with slots:=sl }
 free:∀b o,h.get? b=some o->H b=none->b∉ex->H' b=none
 there:∀b o,h.get? b=some o->b∉ex->∃o',h'.get? b=some o'
 tups:∀b xs,H b=some (.tup xs)->H' b=some (.tup xs)
 uM:∀b o u,H b=some (.frz o u)->H' b=some (.frz o u)
 vH:∀b ps,H b=some (.tbl ps)->∃more,H' b=some (.tbl (ps++more))
section
variable {fs fs' ex ex':zj}{H H1 H2:Hp}{h h1 h2 h':Heap}{a x e:Addr}{o:HO}
def Un.any (u:Un fs ex H H1 h h1){b:Addr}{ob:Obj}(q:h.get? b=some ob)(n:H b=none)(hx:b∉ex): ∃sl,h1.get? b=some { ob with slots:=sl }:=by
 by_cases hb:b∈fs
 · exact u.slot b ob q n hb hx
 · exact⟨ob.slots,u.keep b ob q n hb hx⟩
def Un.kept (k:∀b u,h.get? b=some u->h'.get? b=some u): Un fs ex H H h h' :=
 ⟨λb ob q _ _ _=>k b ob q,λb ob q _ _ _=>⟨ob.slots,k b ob q⟩,λ_ _ _ n _=>n,λb ob q _=>⟨ob,k b ob q⟩,λ_ _ q=>q,λ_ _ _ q=>q,λ_ ps q=>⟨#[],by rw[q];simp⟩⟩
def Un.refl:Un fs ex H H h h:=Un.kept λ_ _ q=>q
def Un.laid (k:∀b u,h.get? b=some u->h'.get? b=some u)(hp:h.objs.size<=a)(hn:H a=none): Un fs ex H (upd H a o) h h' where
 keep:=λb u q _ _ _=>k b u q
 slot:=λb u q _ _ _=>⟨u.slots,k b u q⟩
 free:=λb u q n _=>by rw[ak (qH (qz (qj q) hp))];exact n
 there:=λb u q _=>⟨u,k b u q⟩
 tups:=λb xs q=>by rw[ak (aj q hn)];exact q
 uM:=λb u xs q=>by rw[ak (aj q hn)];exact q
 vH:=λb ps q=>⟨#[],by rw[ak (aj q hn),q];simp⟩
def Un.write (mu:Mut (H x))(he:e=x\/H e=some (.own x))(k:∀b u,b≠e->h.get? b=some u->h'.get? b=some u)(heo:∃u,h'.get? e=some u): Un fs ex H (upd H x o) h h':=by
 have hx:∀b,H b=none->b≠x:=λb n z=>by subst z;rw[n] at mu;exact mu
 have hb:∀b,H b=none->b≠e:=λb n z=>by
   subst z;rcases he with r | r
   · exact hx b n r
   · rw[n] at r;cases r
 have hm:∀b u,H b=some u->¬Mut (some u)->b≠x:=λb u q nm z=>by subst z;rw[q] at mu;exact nm mu
 refine⟨λb u q n _ _=>k b u (hb b n) q,λb u q n _ _=>⟨u.slots,k b u (hb b n) q⟩,λb u q n _=>by rw[ak (hx b n)];exact n,λb u q _=>?_,
   λb xs q=>by rw[ak (hm b _ q λz=>z)];exact q,λb u xs q=>by rw[ak (hm b _ q λz=>z)];exact q,λb ps q=>⟨#[],by rw[ak (hm b _ q λz=>z),q];simp⟩⟩
 by_cases hbe:b=e
 · subst hbe;exact heo
 · exact⟨u,k b u hbe q⟩
end
def trk (h:Heap)(H:Hp): List Addr:=(abG h.objs.size).filter λa=>(H a).isSome
def EC (h:Heap)(H:Hp): Heap:=PySem.W.hideAll h (trk h H)
def KI (h:Heap)(H:Hp): (EC h H).objs.size=h.objs.size:=PySem.W.hideAll_size _ _
def Mh {h:Heap}{H:Hp}{b:Addr}{o:Obj}(e:h.get? b=some o)(n:H b=none): (EC h H).get? b=some o :=
 PySem.W.hideAll_get _ e λhm=>by
   have q:(H b).isSome=true:=(abB.mp hm).2;rw[n] at q;simp at q
def Pr {h:Heap}{H:Hp}{b:Addr}{o:Obj}(e:(EC h H).get? b=some o): h.get? b=some o/\H b=none:=by
 have e':h.get? b=some o:=PySem.W.of_hideAll (trk h H) e;refine⟨e',?_⟩;cases q:H b with
 | none=>rfl
 | some x =>
   have hm:b∈trk h H:=abB.mpr ⟨acB.mpr (qj e'),by simp[q]⟩;have z:(EC h H).get? b=none:=PySem.W.hideAll_none (trk h H) hm;rw[z] at e;cases e
structure Mod (K:qm)(mg:zf)(base:Heap): Prop where
 kin:K.In base
 glob:base.Ns mainGlobals mg
 blt:∃mb,base.Ns builtinsNs mb/\∀x:Str,x ≠ "__name__" -> mb x=bootBuiltins x
 nolimit:base.NoLimit
structure Cx where
 prog:Program
 w:World
 K:qm
 mg:Str->Option Value
 base:Heap
 A:Around
 N:List Str
 s₀:Shared
 H₀:Hp
 env:Env
 outer:List Env
 stack:List Env
 ex:List Addr
 fn:Str->Bool
 calm:Bool
 pn:List (Addr×Obj)
 xe:Value->Shared->Prop
abbrev zC:=List Env
def frs (l:zC): List Addr:=l.filterMap (·.frame)
abbrev Cx.fs (X:Cx): List Addr:=frs X.outer
def Vis (sc:Scope)(x:Str): Prop:=sc.names.lookup x=some .local\/sc.names.lookup x=some .cell\/sc.names.lookup x=some .free
def Loc (sc:Scope)(x:Str): Prop:=sc.names.lookup x=some .local\/sc.names.lookup x=some .cell
def Look (env:Env)(h:Heap)(m:zf)(x:Str)(u:Value): Prop :=
 (env.kindOf x=some .local/\m x=some u)\/((env.kindOf x=some .cell\/env.kindOf x=some .free)/\∃c,env.cells.lookup x=some c/\h.IsCell c (some u))
structure Cx.Ok (X:Cx): Prop where
 mod:Mod X.K X.mg X.base
 kind:X.env.scope.kind=.function
 glob:X.env.globals=mainGlobals
 blt:X.env.builtins=builtinsNs
 above:X.s₀.heap.objs.size<=X.env.locals
 inj:∀x y c,X.env.cells.lookup x=some c->X.env.cells.lookup y=some c->x=y
 has:∀x,(X.env.kindOf x=some .cell\/X.env.kindOf x=some .free)->∃c,X.env.cells.lookup x=some c
 cab:∀x c,X.fn x=true->X.env.cells.lookup x=some c->X.s₀.heap.objs.size<=c
 hd:X.calm=true->X.A.handled=none
 frames:X.A.frames=some X.stack
 stk:X.stack=X.outer\/(X.stack=X.env::X.outer/\X.env.frame=some X.env.locals)
 exf:∀b∈X.ex,b≠X.env.locals/\∀x c,X.env.cells.lookup x=some c->c≠b
 bs:∀b o,X.base.get? b=some o->X.s₀.heap.get? b=some o/\X.H₀ b=none
 bsz:X.base.objs.size<=X.s₀.heap.objs.size
 uN:∀b o,X.base.get? b=some o->b∉X.ex
 Pu:∀b∈X.ex,b∉X.fs
 yT:X.s₀.heap.FunFrames X.base X.outer
 frf:∀b∈X.fs,X.H₀ b=none
structure ZZ (X:Cx)(zk:zh)(σ:List (Option V))(H:Hp)(s:Shared): Prop where
 ok:X.Ok
 os:s.os=X.s₀.os
 bare:AllBare s.gens
 base:Un X.fs X.ex X.H₀ H X.s₀.heap s.heap
 loc:∃m,s.heap.Ns X.env.locals m/\∀(i:Nat) (x:Str) (v:V),X.N[i]?=some x->σ[i]?=some (some v)->Vis X.env.scope x->∃u,ZX v u/\Look X.env s.heap m x u
 cell:∀x c,X.env.cells.lookup x=some c->∃v,s.heap.IsCell c v
 free:H X.env.locals=none
 oU:∀x c,X.env.cells.lookup x=some c->H c=none
 pin:∀p∈X.pn++zk,s.heap.get? p.1=some p.2/\H p.1=none/\p.1≠X.env.locals/\p.1∉X.fs/\∀v,p.2.data≠.cell v
 hok:HOk X.prog X.w H s.heap
 len:σ.length=X.N.length
section
variable {X:Cx}{zk:zh}{σ:List (Option V)}{H H':Hp}{s:Shared}{h':Heap}
def Cx.Ok.X1 (ok:X.Ok){b:Addr}{o:Obj}(e:X.base.get? b=some o): b∉X.fs:=λhb=>by
 have:=(ok.yT.mem hb).1;rw[e] at this;cases this
def ZZ.bs (I:ZZ X zk σ H s): ∀b o,X.base.get? b=some o->s.heap.get? b=some o/\H b=none:=λb o e =>
 ⟨I.base.keep b o (I.ok.bs b o e).1 (I.ok.bs b o e).2 (I.ok.X1 e) (I.ok.uN b o e),I.base.free b o (I.ok.bs b o e).1 (I.ok.bs b o e).2 (I.ok.uN b o e)⟩
def ZZ.bk (I:ZZ X zk σ H s): ∀b o,X.base.get? b=some o->s.heap.get? b=some o:=λb o e=>(I.bs b o e).1
def ZZ.mod (I:ZZ X zk σ H s): Mod X.K X.mg X.base:=I.ok.mod
def ZZ.kIn (I:ZZ X zk σ H s): X.K.In s.heap:=I.ok.mod.kin.keeps I.bk
def ZZ.lt (I:ZZ X zk σ H s): X.env.locals < s.heap.objs.size:=by let⟨_,hn,_⟩:=I.loc;exact hn.lt
def ZZ.sz (I:ZZ X zk σ H s): X.s₀.heap.objs.size<=s.heap.objs.size:=Qh I.ok.above (aex I.lt)
def ZZ.X5 (I:ZZ X zk σ H s){a:Addr}(h:s.heap.objs.size<=a): a∉X.fs:=λhb=>by
 let⟨_,o,ho,_⟩:=I.ok.yT.mem hb;exact absurd (qz (qj ho) (Qh I.sz h)) (Qj _)
def ZZ.cne (I:ZZ X zk σ H s): ∀x c,X.env.cells.lookup x=some c->c≠X.env.locals:=λx c e z=>by
 let⟨v,o,ho,hd⟩:=I.cell x c e;let⟨m,⟨o',es,ep,ho',hd',_⟩,_⟩:=I.loc;rw[z,ho'] at ho;cases ho;rw[hd'] at hd;cases hd
def ZZ.yT (I:ZZ X zk σ H s): s.heap.FunFrames X.base X.outer:=by
 have all:∀(l:zC),(∀b∈frs l,b∈X.fs)->X.s₀.heap.FunFrames X.base l->s.heap.FunFrames X.base l:=by
   intro l
   induction l with
   | nil=>intro _ _;trivial
   | cons env r ih =>
     intro hs hl;let⟨hk,⟨L,o,hf,hn,ho,hd⟩,hr⟩:=hl;have hL:L∈X.fs:=hs L (by unfold frs;rw[abv,hf];exact qG);let⟨sl,e⟩:=I.base.slot L o ho (I.ok.frf L hL) hL λz=>I.ok.Pu L z hL;exact⟨hk,⟨L,_,hf,hn,e,hd⟩,ih (λb hb=>hs b (by unfold frs;rw[abv,hf];exact qB _ hb)) hr⟩
 exact all X.outer (λ_ hb=>hb) I.ok.yT
def ZZ.stack (I:ZZ X zk σ H s): s.heap.FunFrames X.base X.stack:=by
 rcases I.ok.stk with e | ⟨e,hf⟩
 · rw[e];exact I.yT
 · rw[e]
   let⟨m,hn,_⟩:=I.loc;refine .cons (by rw[I.ok.kind];decide) hf hn ?_ I.yT;exact QL (Qh I.ok.bsz I.ok.above)
def ZZ.mP (I:ZZ X zk σ H s): ∀b∈frs X.stack,b∈X.env.locals::X.fs:=λb hb=>by
 rcases I.ok.stk with e | ⟨e,hf⟩
 · rw[e] at hb;exact qB _ hb
 · rw[e] at hb
   unfold frs at hb;rw[abv,hf] at hb;exact hb
def ZZ.ED (I:ZZ X zk σ H s): ∀b∈frs X.stack,H b=none:=λb hb=>by
 rcases qk.mp (I.mP b hb) with e | hb
 · rw[e];exact I.free
 · let⟨_,o,ho,_⟩:=I.ok.yT.mem hb
   exact I.base.free b o ho (I.ok.frf b hb) λz=>I.ok.Pu b z hb
abbrev zR:=Array GenState
def ZZ.step {g':zR}{t':Nat}{d':Drawn}{ch:zj}(I:ZZ X zk σ H s)
   (hch:∀b∈ch,(b∈X.ex\/X.s₀.heap.objs.size<=b)/\b≠X.env.locals/\(∀x c,X.env.cells.lookup x=some c->c≠b)/\∀p∈X.pn++zk,p.1≠b)
   (keep:∀b o,b≠X.env.locals->b∉X.fs->b∉ch->s.heap.get? b=some o->H b=none->h'.get? b=some o)
   (slot:∀b o,b≠X.env.locals->b∈X.fs->b∉ch->s.heap.get? b=some o->H b=none->∃sl,h'.get? b=some { o with slots:=sl }) (free:∀b o,b∉ch->s.heap.get? b=some o->H b=none->H' b=none)
   (there:∀b o,b∉ch->s.heap.get? b=some o->∃o',h'.get? b=some o')
   (tups:∀b xs,H b=some (.tup xs)->H' b=some (.tup xs)) (uM:∀b o u,H b=some (.frz o u)->H' b=some (.frz o u)) (vH:∀b ps,H b=some (.tbl ps)->∃more,H' b=some (.tbl (ps++more)))
   (ns:∀m,s.heap.Ns X.env.locals m->h'.Ns X.env.locals m) (hok:HOk X.prog X.w H' h') (hg:AllBare g') :
   ZZ X zk σ H' { s with heap:=h',gens:=g',drawn:=d',toks:=t' }:=by
 have neL:∀b o,X.s₀.heap.get? b=some o->b≠X.env.locals:=λb o e=>qH (qz (qj e) I.ok.above);have neC:∀b o,X.s₀.heap.get? b=some o->b∉X.ex->b∉ch:=λb o e hx hb=>by
   rcases (hch b hb).1 with z | z
   · exact hx z
   · exact absurd (qz (qj e) z) (Qj _)
 have cellK:∀x c,X.env.cells.lookup x=some c->∀v,s.heap.IsCell c v->h'.IsCell c v:=λx c e v ⟨o,ho,hd⟩=>by
   have nch:c∉ch:=λz=>(hch c z).2.2.1 x c e rfl;by_cases hc:c∈X.fs
   · let⟨sl,q⟩:=slot c o (I.cne x c e) hc nch ho (I.oU x c e)
     exact⟨_,q,hd⟩
   · exact⟨o,keep c o (I.cne x c e) hc nch ho (I.oU x c e),hd⟩
 refine⟨I.ok,I.os,hg,⟨λb o e n hb hx=>?_,λb o e n hb hx=>?_,λb o e n hx=>?_,λb o e hx=>?_,λb xs e=>tups b xs (I.base.tups b xs e),λb o xs e=>uM b o xs (I.base.uM b o xs e),λb ps e=>?_⟩,?_,λx c e=>?_,?_,λx c e=>?_,λp hp=>?_,hok,I.len⟩
 · exact keep b o (neL b o e) hb (neC b o e hx) (I.base.keep b o e n hb hx) (I.base.free b o e n hx)
 · let⟨sl,e1⟩:=I.base.slot b o e n hb hx
   let⟨sl',e2⟩:=slot b _ (neL b o e) hb (neC b o e hx) e1 (I.base.free b o e n hx);exact⟨sl',e2⟩
 · let⟨o',e1⟩:=I.base.there b o e hx
   exact free b o' (neC b o e hx) e1 (I.base.free b o e n hx)
 · let⟨o',e1⟩:=I.base.there b o e hx
   exact there b o' (neC b o e hx) e1
 · let⟨m1,e1⟩:=I.base.vH b ps e
   let⟨m2,e2⟩:=vH b _ e1;exact⟨m1++m2,by rw[e2,Array.append_assoc]⟩
 · let⟨m,hn,hl⟩:=I.loc
   refine⟨m,ns m hn,λi x v e1 e2 e3=>?_⟩;let⟨u,r,l⟩:=hl i x v e1 e2 e3;refine⟨u,r,?_⟩;rcases l with l | ⟨k,c,e,z⟩
   · exact .inl l
   · exact .inr ⟨k,c,e,cellK x c e _ z⟩
 · let⟨v,z⟩:=I.cell x c e
   exact⟨v,cellK x c e v z⟩
 · let⟨m,⟨o,_,_,ho,_⟩,_⟩:=I.loc
   exact free _ o (λz=>(hch _ z).2.1 rfl) ho I.free
 · let⟨v,o,ho,hd⟩:=I.cell x c e
   exact free c o (λz=>(hch c z).2.2.1 x c e rfl) ho (I.oU x c e)
 · let⟨e,n,ne,nf,d⟩:=I.pin p hp
   have nch:p.1∉ch:=λz=>(hch p.1 z).2.2.2 p hp rfl;exact⟨keep p.1 p.2 ne nf nch e n,free p.1 p.2 nch e n,ne,nf,d⟩
def ZZ.un {t':Nat}(I:ZZ X zk σ H s)(u:Un X.fs [] H H' s.heap h')(hok:HOk X.prog X.w H' h'): ZZ X zk σ H' { s with heap:=h',toks:=t' }:=by
 let⟨m,⟨o,es,ep,ho,r⟩,_⟩:=id I.loc;let⟨sl,hL⟩:=u.any ho I.free (by simp);exact I.step (g':=s.gens) (d':=s.drawn) (ch:=[]) (λ_ z=>nomatch z) (λb o _ hb _ e n=>u.keep b o e n hb (by simp)) (λb o _ hb _ e n=>u.slot b o e n hb (by simp)) (λb o _ e n=>u.free b o e n (by simp)) (λb o _ e=>u.there b o e (by simp)) u.tups u.uM u.vH (λm' hm=>by
   let⟨o',es',ep',ho',r'⟩:=hm;rw[ho] at ho';cases ho';exact⟨_,es',ep',hL,r'⟩) hok I.bare
def ZZ.call {g':zR}{t':Nat}{d':Drawn}{ch:zj}(I:ZZ X zk σ H s)(u:Un (frs X.stack) ch H H' s.heap h')(hok:HOk X.prog X.w H' h')(hg:AllBare g')
   (hch:∀b∈ch,(b∈X.ex\/X.s₀.heap.objs.size<=b)/\b≠X.env.locals/\(∀x c,X.env.cells.lookup x=some c->c≠b)/\∀p∈X.pn++zk,p.1≠b) :
   ZZ X zk σ H' { s with heap:=h',gens:=g',drawn:=d',toks:=t' }:=by
 let⟨m,⟨o,es,ep,ho,r⟩,_⟩:=id I.loc;let⟨sl,hL⟩:=u.any ho I.free λz=>(hch _ z).2.1 rfl;exact I.step (ch:=ch) hch (λb o hL hb hc e n=>u.keep b o e n (λz=>(qk.mp (I.mP b z)).elim hL hb) hc) (λb o _ _ hc e n=>u.any e n hc) (λb o hc e n=>u.free b o e n hc) (λb o hc e=>u.there b o e hc) u.tups u.uM u.vH (λm' hm=>by
   let⟨o',es',ep',ho',r'⟩:=hm;rw[ho] at ho';cases ho';exact⟨_,es',ep',hL,r'⟩) hok hg
def ZZ.turned {t':Nat}{it:Addr}(I:ZZ X zk σ H s)(k:∀b o,b≠it->s.heap.get? b=some o->h'.get? b=some o)(hn:H it=none)(hL:it≠X.env.locals)
   (h1:it∈X.ex\/X.s₀.heap.objs.size<=it) (h2:∀x c,X.env.cells.lookup x=some c->c≠it) (h3:∀p∈X.pn++zk,p.1≠it):ZZ X zk σ H { s with heap:=h',toks:=t' }:=by
 have nit:∀b u,H b=some u->b≠it:=λb u e z=>by rw[z,hn] at e;cases e
 refine I.step (g':=s.gens) (d':=s.drawn) (ch:=[it]) (λb hb=>?_) (λb o _ _ hc e _=>k b o (λz=>hc (by simp[z])) e) (λb o _ _ hc e _=>⟨o.slots,k b o (λz=>hc (by simp[z])) e⟩) (λ_ _ _ _ n=>n)
   (λb o hc e=>⟨o,k b o (λz=>hc (by simp[z])) e⟩) (λ_ _ e=>e) (λ_ _ _ e=>e) (λb ps e=>⟨#[],by rw[e];simp⟩) (λm hm=>?_) (λb u e=>?_) I.bare
 · have e:b=it:=by simpa using hb
   subst e;exact⟨h1,hL,h2,h3⟩
 · let⟨o,es,ep,ho,r⟩:=hm
   exact⟨o,es,ep,k _ o (qX hL) ho,r⟩
 · refine(I.hok b u e).stay (λc v hc q=>k c v ?_ q) (λ_ q=>q) λ_ _ q=>q
   rcases hc with z | z
   · rw[z];exact nit b u e
   · exact nit c _ z
def ZZ.tok (I:ZZ X zk σ H s)(t:Nat): ZZ X zk σ H { s with toks:=t }:=I.un (h':=s.heap) (t':=t) Un.refl I.hok
def ZZ.kept {t':Nat}(I:ZZ X zk σ H s)(k:∀b u,s.heap.get? b=some u->h'.get? b=some u): ZZ X zk σ H { s with heap:=h',toks:=t' }:=I.un (Un.kept k) (I.hok.kept k)
def ZZ.laid {a:Addr}{o:HO}{t':Nat}(I:ZZ X zk σ H s)(k:∀b u,s.heap.get? b=some u->h'.get? b=some u)(hp:s.heap.objs.size<=a)(new:gN X.prog X.w (upd H a o) h' a o):
 ZZ X zk σ (upd H a o) { s with heap:=h',toks:=t' }:=I.un (Un.laid k hp (I.hok.fresh hp)) (I.hok.laid k hp new)
def ZZ.write {x e:Addr}{o:HO}{t':Nat}(I:ZZ X zk σ H s)(mu:Mut (H x))(he:e=x\/H e=some (.own x))(k:∀b u,b≠e->s.heap.get? b=some u->h'.get? b=some u)(heo:∃u,h'.get? e=some u)
 (new:gN X.prog X.w (upd H x o) h' x o):ZZ X zk σ (upd H x o) { s with heap:=h',toks:=t' }:=I.un (Un.write mu he k heo) (I.hok.write mu he k heo new)
def ZZ.JK {mQ:zh}(I:ZZ X zk σ H s)(h:∀p∈mQ,s.heap.get? p.1=some p.2/\H p.1=none/\p.1≠X.env.locals/\p.1∉X.fs/\∀v,p.2.data≠.cell v): ZZ X mQ σ H s :=
 ⟨I.ok,I.os,I.bare,I.base,I.loc,I.cell,I.free,I.oU,λp hp=>(q_.mp hp).elim (λz=>I.pin p (QM _ z)) (h p),I.hok,I.len⟩
abbrev zq:=List Str
def AV {N:zq}(hN:N.Nodup){i j:Nat}{x:Str}(a:N[i]?=some x)(b:N[j]?=some x): i=j:=by
 let⟨h1,e1⟩:=qg.mp a;let⟨h2,e2⟩:=qg.mp b;exact(List.getElem_inj hN).mp (e1.trans e2.symm)
def KJ {M:Model}{A:Around}{E:ze}{i:Nat}{x:Str}{v:V}{u:Value}{Q:zg}(I:ZZ X zk σ H s)(hN:X.N.Nodup)(hi:X.N[i]?=some x)(hx:Loc X.env.scope x)(r:ZX v u)
   (h:∀s',ZZ X zk (σ.set i (some v)) H s'->(∃a,abp a s.heap s'.heap/\(a=X.env.locals\/X.env.cells.lookup x=some a))->Q () s') (hf:X.fn x=true\/X.env.scope.names.lookup x=some .local:=by first | exact .inl rfl | exact .inr rfl | assumption):wpAny M A (storeName X.env x u) Q E s:=by
 let⟨m,hn,hl⟩:=id I.loc;have hcls:(X.env.scope.kind==.class || (X.env.scope.kind==.module&&X.env.locals != X.env.globals))=false:=by rw[I.ok.kind];rfl
 have hiσ:i < σ.length:=by rw[I.len];exact(qg.mp hi).1
 have cne:=I.cne;have tracked:∀{a:Addr} {h':Heap},(∃o,s.heap.get? a=some o/\H a=none)->abp a s.heap h'->HOk X.prog X.w H h':=λ{a h'} ha hs b ob e=>by
   let⟨_,_,hfree⟩:=ha;refine(I.hok b ob e).stay (λc w' hc q=>(hs.2 c ?_).trans q) (λ_ q=>q) λ_ _ q=>q;rintro rfl;rcases hc with rfl | hc
   · rw[hfree] at e;cases e
   · rw[hfree] at hc;cases hc
 rcases hx with hk | hk
 · refine wpAny_storeName_local hk hn (λh' hn' hs=>?_) hcls
   let⟨oL,_,_,hoL,_⟩:=id hn;refine h _ ⟨I.ok,I.os,I.bare,⟨λb o e n hb hx=>?_,λb o e n hb hx=>?_,I.base.free,λb o e hx=>?_,I.base.tups,I.base.uM,I.base.vH⟩,⟨_,hn',λj y v' e1 e2 e3=>?_⟩,λy c e=>?_,I.free,I.oU,λp hp=>?_,tracked ⟨oL,hoL,I.free⟩ hs,by simpa using I.len⟩ ⟨_,hs,.inl rfl⟩
   · exact(hs.2 b (qH (qz (qj e) I.ok.above))).trans (I.base.keep b o e n hb hx)
   · let⟨sl,e1⟩:=I.base.slot b o e n hb hx
     exact⟨sl,(hs.2 b (qH (qz (qj e) I.ok.above))).trans e1⟩
   · let⟨o',e1⟩:=I.base.there b o e hx
     exact⟨o',(hs.2 b (qH (qz (qj e) I.ok.above))).trans e1⟩
   · by_cases hj:j=i
     · subst hj
       rw[hi] at e1;cases e1;rw[abJ hiσ] at e2;cases e2;exact⟨u,r,.inl ⟨hk,by simp⟩⟩
     · rw[ace (qX hj)] at e2
       let⟨u',r',q⟩:=hl j y v' e1 e2 e3;refine⟨u',r',?_⟩;rcases q with ⟨k,e⟩ | ⟨k,c,e,z⟩
       · refine .inl ⟨k,?_⟩
         have:y≠x:=λe=>hj (AV hN e1 (e ▸ hi));simp[this,e]
       · exact .inr ⟨k,c,e,z.sameBut hs (cne y c e)⟩
   · let⟨w',z⟩:=I.cell y c e
     exact⟨w',z.sameBut hs (cne y c e)⟩
   · let⟨e,n,ne,nf,d⟩:=I.pin p hp
     exact⟨(hs.2 p.1 ne).trans e,n,ne,nf,d⟩
 · have hfn:X.fn x=true:=by
     rcases hf with z | z
     · exact z
     · rw[z] at hk;cases hk
   let⟨c,hc⟩:=I.ok.has x (.inl hk);let⟨w',z⟩:=I.cell x c hc;refine wpAny_storeName_cell I.ok.kind hk hc z (λh' hc' hs=>?_);let⟨oc,hoc,X6⟩:=id z;refine h { s with heap:=h' } ⟨I.ok,I.os,I.bare,⟨λb o e n hb hx=>?_,λb o e n hb hx=>?_,I.base.free,λb o e hx=>?_,I.base.tups,I.base.uM,I.base.vH⟩,⟨m,hn.sameBut hs (qX (cne x c hc)),λj y v' e1 e2 e3=>?_⟩,λy c' e=>?_,I.free,I.oU,λp hp=>?_,tracked ⟨oc,hoc,I.oU x c hc⟩ hs,by simpa using I.len⟩ ⟨c,hs,.inr hc⟩
   · exact(hs.2 b (qH (qz (qj e) (I.ok.cab x c hfn hc)))).trans (I.base.keep b o e n hb hx)
   · let⟨sl,e1⟩:=I.base.slot b o e n hb hx
     exact⟨sl,(hs.2 b (qH (qz (qj e) (I.ok.cab x c hfn hc)))).trans e1⟩
   · let⟨o',e1⟩:=I.base.there b o e hx
     exact⟨o',(hs.2 b (qH (qz (qj e) (I.ok.cab x c hfn hc)))).trans e1⟩
   · by_cases hj:j=i
     · subst hj
       rw[hi] at e1;cases e1;rw[abJ hiσ] at e2;cases e2;exact⟨u,r,.inr ⟨.inl hk,c,hc,hc'⟩⟩
     · rw[ace (qX hj)] at e2
       let⟨u',r',q⟩:=hl j y v' e1 e2 e3;refine⟨u',r',?_⟩;rcases q with q | ⟨k,c',e,z'⟩
       · exact .inl q
       · refine .inr ⟨k,c',e,z'.sameBut hs ?_⟩
         rintro rfl;exact hj (AV hN e1 (I.ok.inj _ _ _ e hc ▸ hi))
   · by_cases hcc:c'=c
     · subst hcc;exact⟨_,hc'⟩
     · let⟨w2,z2⟩:=I.cell y c' e
       exact⟨w2,z2.sameBut hs hcc⟩
   · let⟨e,n,ne,nf,d⟩:=I.pin p hp
     refine⟨(hs.2 p.1 ?_).trans e,n,ne,nf,d⟩;intro q;rw[q,hoc] at e;have q':oc=p.2:=qI e;exact d w' (by rw[<-q'];exact X6)
def AW {M:Model}{A:Around}{E:ze}{i:Nat}{x:Str}{v:V}{u:Value}{Q:zg}(I:ZZ X zk σ H s)(hN:X.N.Nodup)(hi:X.N[i]?=some x)(hx:Loc X.env.scope x)(r:ZX v u)
   (h:∀s',ZZ X zk (σ.set i (some v)) H s'->Q () s') (hf:X.fn x=true\/X.env.scope.names.lookup x=some .local:=by first | exact .inl rfl | exact .inr rfl | assumption):wpAny M A (storeName X.env x u) Q E s :=
 KJ I hN hi hx r (λs' I' _=>h s' I') hf
def ZZ.call' {s':Shared}{ch:zj}(I:ZZ X zk σ H s)(ho:s'.os=s.os)(u:Un (frs X.stack) ch H H' s.heap s'.heap)(hok:HOk X.prog X.w H' s'.heap)(hg:AllBare s'.gens)
   (hch:∀b∈ch,(b∈X.ex\/X.s₀.heap.objs.size<=b)/\b≠X.env.locals/\(∀x c,X.env.cells.lookup x=some c->c≠b)/\∀p∈X.pn++zk,p.1≠b):ZZ X zk σ H' s':=by
 let⟨h',g',d',t',o'⟩:=s';have e:o'=s.os:=ho;subst e;exact I.call (g':=g') (t':=t') (d':=d') u hok hg hch
end
abbrev XK:=Value->Option Addr->Hp->Prop
abbrev St:=List (Option V)
abbrev VK:=V->Hp->Prop
abbrev TE:=St->Hp->VK->Prop
abbrev TT:=St->Hp->(Bool->Hp->Prop)->Prop
abbrev TA:=St->Hp->(List V->Hp->Prop)->Prop
structure Ends where
 nx:St->Hp->Prop
 rt:VK
 bk:St->Hp->Prop:=λ_ _=>False
 ct:St->Hp->Prop:=λ_ _=>False
abbrev TS:=Ends->St->Hp->Prop
def EP (X:Cx)(zk:zh)(σ:St)(Q:VK)(u:Value)(s':Shared): Prop:=∃v H',ZZ X zk σ H' s'/\ZX v u/\Q v H'
abbrev Ze:=Bool->Hp->Prop
def TP (X:Cx)(zk:zh)(σ:St)(Q:Ze)(b:Bool)(s':Shared): Prop:=∃H',ZZ X zk σ H' s'/\Q b H'
def AP (X:Cx)(zk:zh)(σ:St)(Q:List V->Hp->Prop)(us:zi)(s':Shared): Prop:=∃vs H',ZZ X zk σ H' s'/\Vals vs us/\Q vs H'
def SP (X:Cx)(zk:zh)(D:Ends)(f:Flow)(s':Shared): Prop :=
 match f with
 | .next=>∃σ' H',ZZ X zk σ' H' s'/\D.nx σ' H'
 | .brk=>∃σ' H',ZZ X zk σ' H' s'/\D.bk σ' H'
 | .cont=>∃σ' H',ZZ X zk σ' H' s'/\D.ct σ' H'
 | .ret u=>∃v σ' H',ZZ X zk σ' H' s'/\ZX v u/\D.rt v H'
def PE (X:Cx)(e:Expr)(t:TE): Prop :=
 ∀(zk:zh) (s:Shared) (σ:St) (H:Hp) (Q:VK),ZZ X zk σ H s->t σ H Q->wpAny (model X.prog X.w) X.A (eval e X.env) (EP X zk σ Q) X.xe s
def PT (X:Cx)(e:Expr)(t:TT): Prop :=
 ∀(zk:zh) (s:Shared) (σ:St) (H:Hp) (Q:Ze),ZZ X zk σ H s->t σ H Q->wpAny (model X.prog X.w) X.A (isTrue e X.env (eval e X.env)) (TP X zk σ Q) X.xe s
def PW (X:Cx)(e:Expr)(t:TT): Prop :=
 ∀(whole:Sem Value) (zk:zh) (s:Shared) (σ:St) (H:Hp) (Q:Ze),ZZ X zk σ H s->t σ H Q->wpAny (model X.prog X.w) X.A (isTrue e X.env whole) (TP X zk σ Q) X.xe s
def PW.pt {X:Cx}{e:Expr}{t:TT}(h:PW X e t): PT X e t:=h _
abbrev zx:=List Expr
def PA (X:Cx)(es:zx)(t:TA): Prop :=
 ∀(pos:Pos) (zk:zh) (s:Shared) (σ:St) (H:Hp) (Q:List V->Hp->Prop),ZZ X zk σ H s->t σ H Q->wpAny (model X.prog X.w) X.A (spliced (backTo pos (starEach es X.env))) (AP X zk σ Q) X.xe s
def PS (X:Cx)(st:Stmt)(t:TS): Prop :=
 ∀(zk:zh) (s:Shared) (σ:St) (H:Hp) (D:Ends),ZZ X zk σ H s->t D σ H->wpAny (model X.prog X.w) X.A (exec st X.env) (SP X zk D) X.xe s
abbrev zS:=List Stmt
def PSs (X:Cx)(st:zS)(t:TS): Prop :=
 ∀(zk:zh) (s:Shared) (σ:St) (H:Hp) (D:Ends),ZZ X zk σ H s->t D σ H->wpAny (model X.prog X.w) X.A (execs st X.env) (SP X zk D) X.xe s
def ZQ {α:Type}{t:Sem α}{Q Q':α->Shared->Prop}{M:Model}{A:Around}{E:ze}{s:Shared}(h:wpAny M A t Q E s)(hQ:∀a s,Q a s->Q' a s): wpAny M A t Q' E s:=wpAny_mono h hQ λ_ _ x=>x
section
variable {X:Cx}
def Tz (i:Nat): TE:=λσ H Q=>∃v,σ[i]?=some (some v)/\Q v H
def tC (v:V): TE:=λ_ H Q=>Q v H
def TB {i:Nat} {x:Str} {pos:Pos} (hN:X.N[i]?=some x) (hv:Vis X.env.scope x) (hd:(x==("__debug__" : Str))=false:=by decide) (hcd:(x==("__classdict__" : Str))=false:=by decide):PE X (.Name x pos) (Tz i):=by
 intro zk s σ H Q I h;let⟨v,e,h⟩:=h;let⟨m,hn,hl⟩:=I.loc;let⟨u,r,l⟩:=hl i x v hN e hv;have fin:EP X zk σ Q u s:=⟨v,H,I,r,h⟩;rcases l with ⟨hk,hm⟩ | ⟨hk,c,hc,hcell⟩
 · exact wpAny_Name (wpAny_loadName_local I.ok.kind hk hn hm fin) hd
 · rcases hk with hk | hk
   · exact wpAny_Name (wpAny_loadName_cell I.ok.kind hk hc hcell fin) hd
   · exact wpAny_Name (wpAny_loadName_free I.ok.kind hk hc hcell fin hcd) hd
def ai {i j pos}: PE X (.Constant (.int i) j pos) (tC (.int i)):=λ_ _ _ H _ I h=>wpAny_Constant_int ⟨.int i,H,I.tok _,⟨_,rfl⟩,h⟩
def vI {b j pos}: PE X (.Constant (.bool b) j pos) (tC (.bl b)):=λ_ _ _ H _ I h=>Constant_bool ⟨.bl b,H,I,rfl,h⟩
def jS {j pos}: PE X (.Constant .none j pos) (tC .non):=λ_ _ _ H _ I h=>Constant_none ⟨.non,H,I,rfl,h⟩
def aD {x j pos}: PE X (.Constant (.str x) j pos) (tC (.str x)):=λ_ _ _ H _ I h=>Calls.Constant_str ⟨.str x,H,I.tok _,⟨_,rfl⟩,h⟩
def Gl (X:Cx)(x:Str): Prop:=X.env.kindOf x=some .globalImplicit
def lO {E:ze}{zk:zh}{s:Shared}{σ:St}{H:Hp}{x:Str}{u:Value}{pos:Pos}{Q:ze}(I:ZZ X zk σ H s)(hg:Gl X x)(hm:X.mg x=some u)(h:Q u s)
   (hd:(x==("__debug__" : Str))=false:=by decide):wpAny (model X.prog X.w) X.A (eval (.Name x pos) X.env) Q E s :=
 acC I.ok.kind hg (Calls.loadGlobal_global (by rw[I.ok.glob];exact I.mod.glob.keeps I.bk) hm h) hd
def mR {E:ze}{zk:zh}{s:Shared}{σ:St}{H:Hp}{x:Str}{u:Value}{pos:Pos}{Q:ze}(I:ZZ X zk σ H s)(hg:Gl X x)(hm:X.mg x=none)(hv:bootBuiltins x=some u)(h:Q u s)
   (hn:x ≠ "__name__" := by decide) (hd:(x==("__debug__" : Str))=false:=by decide):wpAny (model X.prog X.w) X.A (eval (.Name x pos) X.env) Q E s:=by
 let⟨mb,h1,h2⟩:=I.mod.blt;exact acC I.ok.kind hg (Calls.loadGlobal_builtin (by rw[I.ok.glob];exact I.mod.glob.keeps I.bk) hm (by rw[I.ok.blt];exact h1.keeps I.bk) ((h2 x hn).trans hv) h) hd
def eX {x:Str} {v:V} {u:Value} {pos:Pos} (hg:Gl X x) (hm:X.mg x=some u) (r:ZX v u) (hd:(x==("__debug__" : Str))=false:=by decide):PE X (.Name x pos) (tC v) :=
 λ_ _ _ H _ I h=>lO I hg hm ⟨v,H,I,r,h⟩ hd
def EF {x:Str} {v:V} {u:Value} {pos:Pos} (hg:Gl X x) (hm:X.mg x=none) (hv:bootBuiltins x=some u) (r:ZX v u) (hn:x ≠ "__name__" := by decide) (hd:(x==("__debug__" : Str))=false:=by decide):PE X (.Name x pos) (tC v) :=
 λ_ _ _ H _ I h=>mR I hg hm hv ⟨v,H,I,r,h⟩ hn hd
variable {a b:Expr}{ta tb:TE}{pos:Pos}
def tB (t:TE): TT:=λσ H Q=>t σ H λx H1=>∃c,x=.bl c/\Q c H1
def g9 {e:Expr}{t:TE}(h:PE X e t)(he:∀whole,isTrue e X.env whole=(do let v <-whole;standAt e.pos;holding [v] (truthy v)):=by intro _;rfl): PT X e (tB t):=by
 intro zk s σ H Q I hw;refine isTrue_plain (ZQ (h zk s σ H _ I hw) λv s1 ⟨x,H1,I1,r1,q1⟩=>?_) (he _);let⟨d,rfl,q⟩:=q1;cases r1;exact wpAny_truthy_bool ⟨H1,I1,q⟩
variable {tA tB':TT}{rest:zx}
def X7 (t u:TT): TT:=λσ H Q=>t σ H λc H1=>if c=true then u σ H1 Q else Q false H1
def tOr (t u:TT): TT:=λσ H Q=>t σ H λc H1=>if c=true then Q true H1 else u σ H1 Q
def X8 (t:TT): TT:=λσ H Q=>t σ H λc H1=>Q (!c) H1
def pF (ha:PT X a tA): PW X (.BoolOp .And [a] pos) tA:=by
 intro wh zk s σ H Q I h;refine isTrue_and (ZQ (ha zk s σ H Q I h) λc s1 e=>?_);cases c with
 | true=>exact isTrue_and_nil e
 | false=>exact e
def Mi (ha:PT X a tA): PW X (.BoolOp .Or [a] pos) tA:=by
 intro wh zk s σ H Q I h;refine isTrue_or (ZQ (ha zk s σ H Q I h) λc s1 e=>?_);cases c with
 | false=>exact isTrue_or_nil e
 | true=>exact e
def pG (ha:PT X a tA)(hb:PW X (.BoolOp .And (b::rest) pos) tB'): PW X (.BoolOp .And (a::b::rest) pos) (X7 tA tB'):=by
 intro wh zk s σ H Q I h;refine isTrue_and (ZQ (ha zk s σ H _ I h) λc s1 ⟨H1,I1,q1⟩=>?_);cases c with
 | true=>exact hb wh zk s1 σ H1 Q I1 q1
 | false=>exact⟨H1,I1,q1⟩
def Sz (ha:PT X a tA)(hb:PW X (.BoolOp .Or (b::rest) pos) tB'): PW X (.BoolOp .Or (a::b::rest) pos) (tOr tA tB'):=by
 intro wh zk s σ H Q I h;refine isTrue_or (ZQ (ha zk s σ H _ I h) λc s1 ⟨H1,I1,q1⟩=>?_);cases c with
 | true=>exact⟨H1,I1,q1⟩
 | false=>exact hb wh zk s1 σ H1 Q I1 q1
def jh (ha:PT X a tA): PT X (.UnaryOp .Not a pos) (X8 tA):=by
 intro zk s σ H Q I h;exact isTrue_not (ha zk s σ H (λc H1=>Q (!c) H1) I h)
def VJ (ta tb:TE): TE:=λσ H Q=>ta σ H λx H1=>∃c,x=.bl c/\if c=true then tb σ H1 Q else Q (.bl false) H1
def VL (ta:TE): TE:=λσ H Q=>ta σ H λx H1=>∃c,x=.bl c/\Q (.bl (!c)) H1
def Io {op}{t:TE}(h:PE X a t): PE X (.BoolOp op [a] pos) t:=λzk s σ H Q I hw=>BoolOp_one (h zk s σ H Q I hw)
def AX (ha:PE X a ta)(hb:PE X (.BoolOp .And (b::rest) pos) tb): PE X (.BoolOp .And (a::b::rest) pos) (VJ ta tb):=by
 intro zk s σ H Q I h;refine BoolOp_and (ZQ (ha zk s σ H _ I h) λv s1 hz_=>?_);let⟨x,H1,I1,r1,q1⟩:=hz_;let⟨c,rfl,q1⟩:=q1;cases r1;refine wpAny_truthy_bool ?_;cases c with
 | true=>exact hb zk s1 σ H1 Q I1 q1
 | false=>exact⟨.bl false,H1,I1,rfl,q1⟩
def Ip (ha:PE X a ta): PE X (.UnaryOp .Not a pos) (VL ta):=by
 intro zk s σ H Q I h;refine UnaryOp_ (ZQ (ha zk s σ H _ I h) λv s1 hz_=>?_);let⟨x,H1,I1,r1,q1⟩:=hz_;let⟨c,rfl,q1⟩:=q1;cases r1;exact not_of (wpAny_truthy_bool ⟨.bl (!c),H1,I1,rfl,q1⟩)
end
def Zx (K:qm)(H:Hp)(a:Addr)(xs:zu): Prop :=
 Rd H a (.lst xs) ∨
   ∃(o:Obj) (its:zp) (n:Nat),K.lookup a=some o/\o.cls=.type "list" ∧ o.dict=none/\o.data=.seq its n/\its.size<=sizeLine/\Vals xs its.toList
def SqT (K:qm)(H:Hp)(a:Addr)(xs:zu): Prop :=
 Rd H a (.tup xs) ∨
   ∃(o:Obj) (its:zp) (n:Nat),K.lookup a=some o/\o.cls=.type "tuple" ∧ o.data=.seq its n/\its.size<=sizeLine/\Vals xs its.toList
def X9:Value->Option V
 | .none=>some .non
 | .bool b=>some (.bl b)
 | .int i _=>some (.int i)
 | .str x _=>some (.str x)
 | .bytes b _=>some (.byt b)
 | .float b _=>some (.flt b)
 | .ref a=>some (.ref a)
 | .type n=>some (.ty n)
 | _=>none
def ZX.abs {x:V}{u:Value}(r:ZX x u): X9 u=some x:=by
 cases x with
 | non=>cases r;rfl
 | bl _=>cases r;rfl
 | int _=>let⟨t,rfl⟩:=r;rfl
 | str _=>let⟨t,rfl⟩:=r;rfl
 | byt _=>let⟨t,rfl⟩:=r;rfl
 | flt _=>let⟨t,rfl⟩:=r;rfl
 | ref _=>cases r;rfl
 | ty _=>cases r;rfl
def ZX.inj {x y:V}{u:Value}(r:ZX x u)(q:ZX y u): x=y:=qI (r.abs.symm.trans q.abs)
def Vals.inj:∀{xs ys:zu} {us:zi},Vals xs us->Vals ys us->xs=ys
 | _,_,_,.nil,.nil=>rfl
 | _,_,_,.cons r t,.cons r' t'=>by rw[r.inj r',Vals.inj t t']
section
variable {X:Cx}{zk:zh}{σ:St}{H:Hp}{s:Shared}{a:Addr}{xs ys:zu}
def Zx.of {K:qm}(h:H a=some (.lst xs)): Zx K H a xs:=.inl (.inl h)
def SqT.of {K:qm}(h:H a=some (.tup xs)): SqT K H a xs:=.inl (.inl h)
def ZZ.list (I:ZZ X zk σ H s)(h:Zx X.K H a xs): ∃its:zi,Vals xs its/\PlainL s.heap a its.toArray/\xs.length<=sizeLine:=by
 rcases h with h | ⟨o,its,n,hk,hc,hd,hs,hz,r⟩
 · let⟨z,its,n,r,e⟩:=h.ok I.hok
   exact⟨its,r,⟨_,n,e,rfl,rfl,rfl⟩,z⟩
 · refine⟨its.toList,r,⟨o,n,I.kIn a o hk,hc,hd,by simpa using hs⟩,?_⟩
   have e:=r.length;simp only [Qo] at e;lia
def ZZ.tuple (I:ZZ X zk σ H s)(h:SqT X.K H a xs): ∃its:zi,Vals xs its/\IsTup s.heap a its.toArray/\xs.length<=sizeLine:=by
 rcases h with h | ⟨o,its,n,hk,hc,hs,hz,r⟩
 · let⟨z,its,r,p⟩:=h.ok I.hok
   exact⟨its,r,p,z⟩
 · refine⟨its.toList,r,⟨o,I.kIn a o hk,hc,n,by simpa using hs⟩,?_⟩
   have e:=r.length;simp only [Qo] at e;lia
def ZZ.vJ (I:ZZ X zk σ H s)(h:Zx X.K H a xs)(h':Zx X.K H a ys): xs=ys:=by
 let⟨its,r,⟨o,n,e,_,_,d⟩,_⟩:=I.list h;let⟨its',r',⟨o',n',e',_,_,d'⟩,_⟩:=I.list h';rw[e] at e';cases e';rw[d] at d';injection d' with d1 _;have:its=its':=by simpa using congrArg Array.toList d1
 subst this;exact r.inj r'
def ZZ.DV (I:ZZ X zk σ H s)(h:SqT X.K H a xs)(h':SqT X.K H a ys): xs=ys:=by
 let⟨its,r,⟨o,e,_,n,d⟩,_⟩:=I.tuple h;let⟨its',r',⟨o',e',_,n',d'⟩,_⟩:=I.tuple h';rw[e] at e';cases e';rw[d] at d';injection d' with d1 _;have:its=its':=by simpa using congrArg Array.toList d1
 subst this;exact r.inj r'
end
section
variable {X:Cx}{zk:zh}{σ:St}{H:Hp}{s:Shared}{E:ze}
end
section
variable {X:Cx}{st:Stmt}{rest:zS}{t u:TS}{e:Expr}{te:TE}{pos:Pos}
def VM:TS:=λD σ H=>D.nx σ H
def iG (t u:TS): TS:=λD σ H=>t { D with nx:=u D } σ H
def bb:PSs X [] VM:=λ_ _ σ H _ I h=>wpAny_execs_nil ⟨σ,H,I,h⟩
def ae (h1:PS X st t)(h2:PSs X rest u): PSs X (st::rest) (iG t u):=by
 intro zk s σ H D I h;refine wpAny_execs_cons (ZQ (h1 zk s σ H { D with nx:=u D } I h) λf s1 q=>?_);cases f with
 | next =>
   let⟨σ',H',I',q⟩:=q;exact h2 zk s1 σ' H' D I' q
 | ret v=>exact q
 | brk=>exact q
 | cont=>exact q
def af (h1:PS X st t): PSs X [st] t:=by
 intro zk s σ H D I h;refine wpAny_execs_cons (ZQ (h1 zk s σ H D I h) λf s1 q=>?_);cases f with
 | next=>exact wpAny_execs_nil q
 | ret v=>exact q
 | brk=>exact q
 | cont=>exact q
def TC:TS:=λD σ H=>D.bk σ H
def Mj:PS X (.Break pos) TC:=λ_ _ σ H _ I h=>wpAny_Break ⟨σ,H,I,h⟩
def ZZ.quiet {zk:zh}{σ:St}{H:Hp}{s:Shared}(I:ZZ X zk σ H s): interactive X.env=false:=by simp[interactive,I.ok.kind]
def VN (te:TE): TS:=λD σ H=>te σ H λ_ H1=>D.nx σ H1
def aF (he:PE X e te)(hs:swapsWith e none pos.line X.env=pure false:=by rfl): PS X (.Expr e pos) (VN te):=by
 intro zk s σ H D I h;exact wpAny_Expr_any (ZQ (he zk s σ H _ I h) λv s1 ⟨x,H1,I1,r1,q1⟩=>⟨σ,H1,I1,q1⟩) I.quiet hs
def X_ (te:TE): TS:=λD σ H=>te σ H D.rt
def bq (he:PE X e te): PS X (.Return (some e) pos) (X_ te):=by
 intro zk s σ H D I h;exact wpAny_Return_some (ZQ (he zk s σ H _ I h) λv s1 ⟨x,H1,I1,r1,q1⟩=>⟨x,σ,H1,I1,r1,q1⟩)
def VO:TS:=λD _ H=>D.rt .non H
def JL:PS X (.Return none pos) VO:=λ_ _ σ H _ I h=>wpAny_Return_none ⟨.non,σ,H,I,rfl,h⟩
def Ya (c:TT)(t u:TS): TS:=λD σ H=>c σ H λb H1=>if b=true then t D σ H1 else u D σ H1
def cG {c:Expr}{a b:zS}{tc:TT}(hc:PT X c tc)(ha:PSs X a t)(hb:PSs X b u): PS X (.If c a b pos) (Ya tc t u):=by
 intro zk s σ H D I h;refine wpAny_If (ZQ (hc zk s σ H _ I h) λd s1 ⟨H1,I1,q1⟩=>?_);cases d with
 | true=>exact ha zk s1 σ H1 D I1 q1
 | false=>exact hb zk s1 σ H1 D I1 q1
end
abbrev TG:=V->St->Hp->(St->Hp->Prop)->Prop
abbrev TGs:=List V->St->Hp->(St->Hp->Prop)->Prop
def PG (X:Cx)(target:Expr)(t:TG): Prop :=
 ∀(zk:zh) (s:Shared) (σ:St) (H:Hp) (v:V) (u:Value) (Q:St->Hp->Prop),ZZ X zk σ H s->ZX v u->t v σ H Q ->
   wpAny (model X.prog X.w) X.A (assign target X.env u) (λ_ s'=>∃σ' H',ZZ X zk σ' H' s'/\Q σ' H') X.xe s
def PGs (X:Cx)(ts:zx)(t:TGs): Prop :=
 ∀(zk:zh) (s:Shared) (σ:St) (H:Hp) (vs:zu) (us:zi) (Q:St->Hp->Prop),ZZ X zk σ H s->Vals vs us->t vs σ H Q ->
   wpAny (model X.prog X.w) X.A (assignInOrder ((assignEach ts X.env).map (·.2)) us) (λ_ s'=>∃σ' H',ZZ X zk σ' H' s'/\Q σ' H') X.xe s
abbrev TD:=V->V->V->Hp->(Hp->Prop)->Prop
def VP (X:Cx)(t:TD): Prop :=
 ∀(zk:zh) (s:Shared) (σ:St) (H:Hp) (o i v:V) (ov iv u:Value) (Q:Hp->Prop),ZZ X zk σ H s->ZX o ov->ZX i iv->ZX v u->t o i v H Q ->
   wpAny (model X.prog X.w) X.A (setItem ov iv u) (λ_ s'=>∃H',ZZ X zk σ H' s'/\Q H') X.xe s
section
variable {X:Cx}{pos:Pos}
def yz (i:Nat): TG:=λv σ H Q=>Q (σ.set i (some v)) H
def pH {i:Nat}{x:Str}(hN:X.N.Nodup)(hi:X.N[i]?=some x)(hx:Loc X.env.scope x)(hf:X.fn x=true\/X.env.scope.names.lookup x=some .local:=by first | exact .inl rfl | exact .inr rfl | assumption): PG X (.Name x pos) (yz i):=by
 intro zk s σ H v u Q I r h;exact wpAny_assign_Name (AW I hN hi hx r (λs' I'=>⟨_,H,I',h⟩) hf)
def VQ:TGs:=λvs σ H Q=>vs=[]/\Q σ H
def Ml (t:TG)(u:TGs): TGs:=λvs σ H Q=>∃v r,vs=v::r/\t v σ H λσ' H'=>u r σ' H' Q
def jv:PGs X [] VQ:=by
 intro zk s σ H vs us Q I r h;let⟨e,h⟩:=h;subst e;cases r;exact assignInOrder_nil ⟨σ,H,I,h⟩
def eV {e:Expr}{es:zx}{t:TG}{u:TGs}(h1:PG X e t)(h2:PGs X es u)
   (hs:(assignEach (e::es) X.env).map (·.2)=assign e X.env::(assignEach es X.env).map (·.2):=by rfl):PGs X (e::es) (Ml t u):=by
 intro zk s σ H vs us Q I r h;let⟨v,vr,e1,h⟩:=h;subst e1;cases r with
 | cons r rr =>
   rw[hs];refine assignInOrder_cons (ZQ (h1 zk s σ H _ _ _ I r h) λ_ s1 ⟨σ1,H1,I1,q1⟩=>?_);exact h2 zk s1 σ1 H1 _ _ Q I1 rr q1
def TF (K:qm)(n:Nat)(t:TGs): TG:=λv σ H Q=>∃a xs,v=.ref a/\SqT K H a xs/\xs.length=n/\t xs σ H Q
def kK {es:zx}{k:Nat}{t:TGs}{n:Nat}(hc:X.calm=true)(h:PGs X es t)
   (hn:(assignEach es X.env).length=n:=by rfl) (hst:(assignEach es X.env).findIdx? (·.1)=none:=by rfl):PG X (.Tuple es k pos) (TF X.K n t):=by
 intro zk s σ H v u Q I r hw;let⟨a,xs,e1,hq,hl,hw⟩:=hw;subst e1;cases r;let⟨its,rv,ht,hz⟩:=I.tuple hq;refine assign_Tuple_tuple (I.ok.hd hc) ht (by simp[hn,<-hl,rv.length]) hst λh' hx=>?_;have I1:ZZ X zk σ H { s with heap:=h' }:=I.kept (t':=s.toks) λb o e=>hx b o (qH (qj e)) e;exact h zk _ σ H xs _ Q I1 (by simpa using rv) hw
def Yb (to ti:TE)(t:TD): TG:=λv σ H Q=>to σ H λo H1=>ti σ H1 λi H2=>t o i v H2 λH3=>Q σ H3
def uO {o i:Expr}{to ti:TE}{t:TD}(ho:PE X o to)(hi:PE X i ti)(hs:VP X t)
   (ha:∀v,assign (.Subscript o i pos) X.env v=(do
     let ov <-holding [v] (eval o X.env)
     let iv <-holding [v,ov] (eval i X.env)
     standAt pos
     holding [v,ov,iv] (setItem ov iv v)
     release [v,ov,iv] []):=by intro _;rfl):PG X (.Subscript o i pos) (Yb to ti t):=by
 intro zk s σ H v u Q I r h;rw[ha];refine wpAny_bind (wpAny_holding (ZQ (ho zk s σ H _ I h) λov s1 hz_=>?_));let⟨x,H1,I1,r1,q1⟩:=hz_;refine wpAny_bind (wpAny_holding (ZQ (hi zk s1 σ H1 _ I1 q1) λiv s2 hz_=>?_));let⟨y,H2,I2,r2,q2⟩:=hz_;refine wpAny_bind (wpAny_standAt (wpAny_bind (wpAny_holding (ZQ (hs zk s2 σ H2 x y v ov iv u _ I2 r1 r2 r q2) λ_ s3 ⟨H3,I3,q3⟩=>?_))));exact wpAny_release ⟨σ,H3,I3,q3⟩
def TJ (te:TE)(g:TG): TS:=λD σ H=>te σ H λx H1=>g x σ H1 D.nx
def mS {tg e:Expr}{te:TE}{g:TG}(he:PE X e te)(hg:PG X tg g)(hs:swapsWithSole [tg] e pos.line X.env=pure false:=by rfl)(hw:swappedStores [tg] e X.env=pure none:=by rfl)
   (h1:(assignEach [tg] X.env).map (·.2)=[assign tg X.env]:=by rfl):PS X (.Assign [tg] e pos) (TJ te g):=by
 intro zk s σ H D I h;refine wpAny_Assign_stores (ZQ (he zk s σ H _ I h) λv s1 ⟨x,H1,I1,r1,q1⟩=>?_) hs hw;rw[h1];exact ZQ (hg zk s1 σ H1 x v _ I1 r1 q1) λ_ s2 q=>q
def TK {i:Nat}{x:Str}{e:Expr}{te:TE}{pos':Pos}(hN:X.N.Nodup)(hi:X.N[i]?=some x)(hx:Loc X.env.scope x)(he:PE X e te)(hs:swapsWith e (some (.Name x pos')) pos.line X.env=pure false:=by rfl)(hf:X.fn x=true\/X.env.scope.names.lookup x=some .local:=by first | exact .inl rfl | exact .inr rfl | assumption):
   PS X (.Assign [.Name x pos'] e pos) (TJ te (yz i)):=by
 intro zk s σ H D I h;refine wpAny_Assign_Name (ZQ (he zk s σ H _ I h) λv s1 hz_=>?_) hs;let⟨y,H1,I1,r1,q1⟩:=hz_;exact AW I1 hN hi hx r1 (λs2 I2=>⟨_,H1,I2,q1⟩) hf
end
section
variable {X:Cx}{pos:Pos}
def TL (c:TT)(tb:TS): TS:=λD σ H=>∃W:Nat->St->Hp->Prop,(∃m,W m σ H)/\∀m σ H,W m σ H ->
 c σ H λb H1=>if b=true then ∃N:St->Hp->Prop,(∀σ' H',N σ' H'->∃m',m' < m/\W m' σ' H')/\tb { D with nx:=N,ct:=N,bk:=D.nx } σ H1 else D.nx σ H1
def Mm {c:Expr}{body:zS}{tc:TT}{tb:TS}(hp:PassesOwn (model X.prog X.w) X.A X.env X.xe)(hc:PT X c tc)(hb:PSs X body tb): PS X (.While c body [] pos) (TL tc tb):=by
 intro zk s σ H D I h;let⟨W,⟨m0,w0⟩,turn⟩:=h;refine wpAny_While (codeAny_whileLoop (λn s'=>∃σ' H',ZZ X zk σ' H' s'/\W n σ' H') ?_ m0 ⟨σ,H,I,w0⟩);rintro n s1 ⟨σ1,H1,I1,w1⟩;refine wpAny_passesOwn hp (ZQ (hc zk s1 σ1 H1 _ I1 (turn n σ1 H1 w1)) λb s2 ⟨H2,I2,q2⟩=>?_);cases b with
 | true =>
   let⟨N,hN,q2⟩:=q2;rw[if_pos rfl];refine wpAny_passesOwn hp (ZQ (hb zk s2 σ1 H2 _ I2 q2) λf s3 q3=>?_);cases f with
   | next =>
     let⟨σ3,H3,I3,n3⟩:=q3;let⟨m',hm,w3⟩:=hN σ3 H3 n3;exact⟨m',hm,σ3,H3,I3,w3⟩
   | cont =>
     let⟨σ3,H3,I3,n3⟩:=q3;let⟨m',hm,w3⟩:=hN σ3 H3 n3;exact⟨m',hm,σ3,H3,I3,w3⟩
   | brk=>exact q3
   | ret v=>exact q3
 | false =>
   rw[if_neg qf];exact wpAny_execs_nil ⟨σ1,H2,I2,q2⟩
end
structure It where
 go:Nat->Hp->Prop
 yld:Nat->Hp->V->Hp->Prop
 stop:Nat->Hp->Prop
def sk (X:Cx)(zk:zh)(H:Hp)(b:Addr): Prop :=
 H b=none/\b≠X.env.locals/\b∉X.fs/\(b∈X.ex\/X.s₀.heap.objs.size<=b)/\(∀x c,X.env.cells.lookup x=some c->c≠b)/\∀p∈X.pn++zk,p.1≠b
def ZZ.xB {X:Cx}{zk:zh}{σ:St}{H H':Hp}{s:Shared}{b:Addr}(I:ZZ X zk σ H s)(hb:s.heap.objs.size<=b)(hn:H' b=none): sk X zk H' b:=by
 refine⟨hn,adi (qz I.lt hb),I.X5 hb,.inr (Qh I.sz hb),λx c e z=>?_,λp hp z=>?_⟩
 · let⟨v,q⟩:=I.cell x c e
   exact absurd (qz q.lt (by rw[z];exact hb)) (Qj _)
 · exact absurd (qz (qj (I.pin p hp).1) (by rw[z];exact hb)) (Qj _)
structure Turn (P:Program)(w:World)(K:qm)(tg:Expr)(J:It)(fp:zj)(it:Addr)(tn:Nat->Heap->Prop): Prop where
 mem:it∈fp
 obj:∀i h,tn i h->∀b∈fp,∃o,h.get? b=some o/\∀v,o.data≠.cell v
 keep:∀i h h',tn i h->(∀b∈fp,∀o,h.get? b=some o->h'.get? b=some o)->tn i h'
 item:∀(X:Cx),X.prog=P->X.w=w->X.K=K->X.calm=true->∀(i:Nat) (zk:zh) (s:Shared) (σ:St) (H:Hp) (E:ze),ZZ X zk σ H s->(∀b∈fp,sk X zk H b)->tn i s.heap->J.go i H ->
   wpAny (model P w) X.A (pyNext (.ref it)) (λr s1=>∃u,r=some u ∧
     wpAny (model P w) X.A (letOwnedTupleGo tg (.ref it) u) (λ_ s2=>∃x H',ZZ X zk σ H' s2/\ZX x u/\J.yld i H x H'/\tn (i+1) s2.heap/\∀b∈fp,H' b=none) E s1) E s
 done:∀(X:Cx),X.prog=P->X.w=w->X.K=K->X.calm=true->∀(i:Nat) (zk:zh) (s:Shared) (σ:St) (H:Hp) (E:ze),ZZ X zk σ H s->(∀b∈fp,sk X zk H b)->tn i s.heap->J.stop i H ->
   wpAny (model P w) X.A (pyNext (.ref it)) (λr s1=>r=none/\ZZ X zk σ H s1) E s
 self:∀(A:Around) (i:Nat) (s:Shared) (Q:ze) (E:ze),tn i s.heap->Q (.ref it) s->wpAny (model P w) A (pyIter (.ref it)) Q E s
abbrev TI:=St->Hp->(It->Hp->Prop)->Prop
abbrev Zh:=It->Hp->Prop
def PIE (X:Cx)(zk:zh)(σ:St)(tg:Expr)(R:Zh)(itv:Value)(s2:Shared): Prop :=
 ∃(it:Addr) (fp:zj) (tn:Nat->Heap->Prop) (J:It) (H':Hp),itv=.ref it/\ZZ X zk σ H' s2/\Turn X.prog X.w X.K tg J fp it tn/\tn 0 s2.heap/\(∀b∈fp,sk X zk H' b)/\R J H'
def PI (X:Cx)(tg iter:Expr)(wi:TI): Prop :=
 ∀(zk:zh) (s:Shared) (σ:St) (H:Hp) (R:Zh),ZZ X zk σ H s->wi σ H R ->
   wpAny (model X.prog X.w) X.A (eval iter X.env) (λv s1=>wpAny (model X.prog X.w) X.A (pyIter v) (PIE X zk σ tg R) X.xe s1) X.xe s
def DW {M:Model}{A:Around}{E:ze}{s:Shared}{tg:Expr}{it:Addr}{u:Value}{o:Obj}{n:String}{vs:zp}{Q:zg}(ho:s.heap.get? it=some o)(hc:o.cls=.type n)(hd:o.data=.fields vs)
   (hn:["enumerate","zip","dict_itemiterator","dict_reverseitemiterator","odict_iterator","itertools.zip_longest","itertools.pairwise"].contains n=false) (hQ:Q () s):wpAny M A (letOwnedTupleGo tg (.ref it) u) Q E s:=by
 unfold letOwnedTupleGo;cases tg<;>first
   | exact wpAny_pure hQ
   | (cases u<;>first
       | exact wpAny_pure hQ
       | (refine wpAny_bind (wpAny_load ho ?_)
          rw[hc,hd];show wpAny M A (if (["enumerate","zip","dict_itemiterator","dict_reverseitemiterator","odict_iterator","itertools.zip_longest","itertools.pairwise"].contains n&&vs[0]?==some (rawInt _))=true then _ else _) Q E s;rw[if_neg (by intro h;rw[hn,Bool.false_and] at h;cases h)];exact wpAny_pure hQ))
def Itl (K:qm)(a:Addr): It :=
 ⟨λi H=>∃xs x,Zx K H a xs/\xs[i]?=some x,λi H x H'=>H'=H/\∀xs,Zx K H a xs->xs[i]?=some x,λi H=>∃xs,Zx K H a xs/\xs.length<=i⟩
def Itt (K:qm)(a:Addr): It :=
 ⟨λi H=>∃xs x,SqT K H a xs/\xs[i]?=some x,λi H x H'=>H'=H/\∀xs,SqT K H a xs->xs[i]?=some x,λi H=>∃xs,SqT K H a xs/\xs.length<=i⟩
def Itr (lo:Int)(n:Nat): It:=⟨λi _=>i < n,λi H x H'=>H'=H/\x=.int (lo+i),λi _=>n<=i⟩
def KN {P:Program}{w:World}{K:qm}{tg:Expr}(a it:Addr): Turn P w K tg (Itl K a) [it] it (λi h=>h.IsListIter it a i) where
 mem:=by simp
 obj:=λi h st b hb=>by
   have e:b=it:=by simpa using hb
   subst e;let⟨o,e,c,d⟩:=st;exact⟨o,e,λv z=>by rw[d] at z;cases z⟩
 keep:=λi h h' st k=>st.at λo e=>k it (by simp) o e
 item:=by
   walk_at "0c";let⟨xs,x,hq,hx⟩:=hg;let⟨its,rv,p,hz⟩:=I.list hq;let⟨u,hu,ru⟩:=rv.get hx;walk_at "0g";refine wpAny_pyNext_list_item st p.isList (x:=u) (by simpa using hu) λh' st' sb=>?_;have I1:ZZ X zk σ H { s with heap:=h' }:=I.turned (t':=s.toks) (λb o hb e=>(sb.2 b hb).trans e) f0 f1 f3 f4 f5;let⟨o,e,c,d⟩:=id st';exact⟨u,rfl,DW (s:={ s with heap:=h' }) e c d (by decide) ⟨x,H,I1,ru,⟨rfl,λys hy=>by rw[I.vJ hy hq];exact hx⟩,st',λb hb=>(hf b hb).1⟩⟩
 done:=by
   walk_at "0c";let⟨xs,hq,hx⟩:=hg;let⟨its,rv,p,hz⟩:=I.list hq;walk_at "0g";have hl:=rv.length;exact wpAny_pyNext_list_end (I.ok.hd hc) st p.isList (by simp;lia) λh' eb=>⟨rfl,I.turned (t':=s.toks) (λb o hb e=>eb b o hb e) f0 f1 f3 f4 f5⟩
 self:=λ_ _ _ _ _ st h=>wpAny_pyIter_listiter st h
def Iq {P:Program}{w:World}{K:qm}{tg:Expr}(a it:Addr): Turn P w K tg (Itt K a) [it] it (λi h=>h.IsTupleIter it a i) where
 mem:=by simp
 obj:=λi h st b hb=>by
   have e:b=it:=by simpa using hb
   subst e;let⟨o,e,c,d⟩:=st;exact⟨o,e,λv z=>by rw[d] at z;cases z⟩
 keep:=λi h h' st k=>st.at λo e=>k it (by simp) o e
 item:=by
   walk_at "0c";let⟨xs,x,hq,hx⟩:=hg;let⟨its,rv,p,hz⟩:=I.tuple hq;let⟨u,hu,ru⟩:=rv.get hx;walk_at "0g";refine wpAny_pyNext_tuple_item st (show s.heap.IsTuple a its.toArray from p) (x:=u) (by simpa using hu) λh' st' sb=>?_;have I1:ZZ X zk σ H { s with heap:=h' }:=I.turned (t':=s.toks) (λb o hb e=>(sb.2 b hb).trans e) f0 f1 f3 f4 f5;let⟨o,e,c,d⟩:=id st';exact⟨u,rfl,DW (s:={ s with heap:=h' }) e c d (by decide) ⟨x,H,I1,ru,⟨rfl,λys hy=>by rw[I.DV hy hq];exact hx⟩,st',λb hb=>(hf b hb).1⟩⟩
 done:=by
   walk_at "0c";let⟨xs,hq,hx⟩:=hg;let⟨its,rv,p,hz⟩:=I.tuple hq;walk_at "0g";have hl:=rv.length;exact wpAny_pyNext_tuple_end (I.ok.hd hc) st (show s.heap.IsTuple a its.toArray from p) (by simp;lia) λh' eb=>⟨rfl,I.turned (t':=s.toks) (λb o hb e=>eb b o hb e) f0 f1 f3 f4 f5⟩
 self:=λ_ _ _ _ _ st h=>wpAny_pyIter_tupleiter st h
def Ir {P:Program}{w:World}{K:qm}{tg:Expr}(it:Addr)(lo:Int)(n:Nat): Turn P w K tg (Itr lo n) [it] it (λi h=>IsRangeIter h it (lo+(i:Nat)*1) ((n:Int)-(i:Nat)) 1) where
 mem:=by simp
 obj:=λi h st b hb=>by
   have e:b=it:=by simpa using hb
   subst e;exact⟨_,st,λv z=>by
     have z':aeK _=Data.cell v:=z;cases z'⟩
 keep:=λi h h' st k=>k it (by simp) _ st
 item:=by
   walk_at "0c";walk_at "0g";have W:=Walks.range (prog:=X.prog) (w:=X.w) (I.ok.hd hc) it lo 1 n;refine W.item i s _ _ hg st λv h' tk hv st' kk=>?_;let⟨t,rfl⟩:=hv;have I1:ZZ X zk σ H { s with heap:=h',toks:=tk }:=I.turned (λb o hb e=>kk b o (by simpa using hb) e) f0 f1 f3 f4 f5;refine⟨_,rfl,DW (s:={ s with heap:=h',toks:=tk }) (n := "range_iterator") st' rfl rfl (by decide) ⟨.int (lo+i),H,I1,⟨t,?_⟩,⟨rfl,rfl⟩,st',λb hb=>(hf b hb).1⟩⟩;rw[aeL]
 done:=by
   walk_at "0c";walk_at "0g";exact wpAny_pyNext_range_end (I.ok.hd hc) st (by have:n<=i:=hg;lia) λh' eb=>⟨rfl,I.turned (t':=s.toks) (λb o hb e=>eb b o hb e) f0 f1 f3 f4 f5⟩
 self:=λ_ _ _ _ _ st h=>wpAny_pyIter_rangeiter st h
section
variable {X:Cx}{tg:Expr}
def VR (K:qm)(tl:TE): TI:=λσ H R=>tl σ H λx H1=>∃a,x=.ref a/\(∃xs,Zx K H1 a xs)/\R (Itl K a) H1
def Yc (K:qm)(tl:TE): TI:=λσ H R=>tl σ H λx H1=>∃a,x=.ref a/\(∃xs,SqT K H1 a xs)/\R (Itt K a) H1
def gP {l:Expr}{tl:TE}(hl:PE X l tl): PI X tg l (VR X.K tl):=by
 intro zk s σ H R I h;refine ZQ (hl zk s σ H _ I h) λv s1 hz_=>?_;let⟨x,H1,I1,r1,q1⟩:=hz_;let⟨a,e,⟨xs,hq⟩,q⟩:=q1;subst e;cases r1;let⟨its,rv,p,hz⟩:=I1.list hq;refine wpAny_pyIter_list p.isList ?_;refine⟨s1.heap.objs.size,[s1.heap.objs.size],_,_,H1,rfl,I1.kept (t':=s1.toks) λb o e=>qb _ e,KN a _,⟨_,qp _ rfl,rfl,rfl⟩,λb hb=>?_,q⟩;have e:b=s1.heap.objs.size:=by simpa using hb
 subst e;exact I1.xB (qe _) (I1.hok.fresh (qe _))
def EG {l:Expr}{tl:TE}(hl:PE X l tl): PI X tg l (Yc X.K tl):=by
 intro zk s σ H R I h;refine ZQ (hl zk s σ H _ I h) λv s1 hz_=>?_;let⟨x,H1,I1,r1,q1⟩:=hz_;let⟨a,e,⟨xs,hq⟩,q⟩:=q1;subst e;cases r1;let⟨its,rv,p,hz⟩:=I1.tuple hq;refine wpAny_pyIter_tuple (show s1.heap.IsTuple a its.toArray from p) ?_;refine⟨s1.heap.objs.size,[s1.heap.objs.size],_,_,H1,rfl,I1.kept (t':=s1.toks) λb o e=>qb _ e,Iq a _,⟨_,qp _ rfl,rfl,rfl⟩,λb hb=>?_,q⟩;have e:b=s1.heap.objs.size:=by simpa using hb
 subst e;exact I1.xB (qe _) (I1.hok.fresh (qe _))
def Mp {zk:zh}{σ:St}{H:Hp}{s:Shared}{R:Zh}{E:ze}{lo hi:Int}{t u v:Tok}{tk:Nat}(I:ZZ X zk σ H s)(h1:-(2^62)<=lo)(h2:lo < 2^62)(h3:-(2^62)<=hi)(h4:hi < 2^62)
   (q:R (Itr lo (hi-lo).toNat) H):wpAny (model X.prog X.w) X.A (pyIter (.ref s.heap.objs.size)) (PIE X zk σ tg R) E { s with heap:=s.heap.push { cls:=.type "range",data:=.fields #[.int lo t,.int hi u,.int 1 v] },toks:=tk }:=by
 refine wpAny_pyIter_range (IsRange.new ..) (small_one h1 h2 h3 h4) ?_;have I1:ZZ X zk σ H { s with heap:=s.heap.push { cls:=.type "range",data:=.fields #[.int lo t,.int hi u,.int 1 v] },toks:=tk }:=I.kept λb o e=>qb _ e;refine⟨(s.heap.push { cls:=.type "range",data:=.fields #[.int lo t,.int hi u,.int 1 v] }).objs.size,[(s.heap.push { cls:=.type "range",data:=.fields #[.int lo t,.int hi u,.int 1 v] }).objs.size],_,_,H,rfl,
   I1.kept (t':=tk) λb o e=>qb _ e,Ir _ lo (hi-lo).toNat,?_,λb hb=>?_,q⟩
 · have e1:lo+((0:Nat):Int)*1=lo:=by simp
   have e2:(((hi-lo).toNat:Nat):Int)-((0:Nat):Int)=Qm lo hi 1:=by rw[rangeSize_one];split<;>lia
   show IsRangeIter _ _ (lo+((0:Nat):Int)*1) ((((hi-lo).toNat:Nat):Int)-((0:Nat):Int)) 1;rw[e1,e2];exact qp _ rfl
 · have e:b=(s.heap.push { cls:=.type "range",data:=.fields #[.int lo t,.int hi u,.int 1 v] }).objs.size:=by simpa using hb
   subst e;exact I1.xB (qe _) (I1.hok.fresh (qe _))
def VS (ta:TA): TI:=λσ H R=>ta σ H λvs H1=>∃j:Int,vs=[.int j]/\-(2^62)<=j/\j < 2^62/\R (Itr 0 j.toNat) H1
def DX {a:Expr} {ta:TA} {p pos:Pos} (hg:Gl X "range") (hm:X.mg "range" = none) (ha:PA X [a] ta) (hs:starEach [a] X.env=[(false,eval a X.env)]:=by rfl):PI X tg (.Call (.Name "range" p) [a] [] pos) (VS ta):=by
 intro zk s σ H R I h;refine Call_ (mR I hg hm boot_range (qT (ZQ (ha pos zk s σ H _ I h) λus s1 ⟨vs,H1,I1,r1,q1⟩=>?_) hs rfl));let⟨j,e,q1,q2,q⟩:=q1;subst e;cases r1 with
 | cons r rr =>
   cases rr;let⟨t,rfl⟩:=r;exact call_range_1 (Mp I1 (by lia) (by lia) q1 q2 (by simpa using q))
def VU (wi:TI)(g:TG)(tb:TS): TS:=λD σ H=>wi σ H λJ H1=>∃W:Nat->Nat->St->Hp->Prop,(∃m,W 0 m σ H1)/\∀i m σ H,W i m σ H ->
 (J.stop i H/\D.nx σ H)\/(J.go i H/\∃N:St->Hp->Prop,(∀σ' H',N σ' H'->∃m',m' < m/\W (i+1) m' σ' H')/\∀x H',J.yld i H x H'->g x σ H' λσ2 H2=>tb { D with nx:=N,ct:=N,bk:=D.nx } σ2 H2)
def xC (fp:zj)(h:Heap): List (Addr×Obj):=fp.filterMap λb=>(h.get? b).map λo=>(b,o)
def lB {fp:zj}{h:Heap}{b:Addr}{o:Obj}(hb:b∈fp)(e:h.get? b=some o): (b,o)∈xC fp h:=aep.mpr ⟨b,hb,by rw[e];rfl⟩
def KO {fp:zj}{h:Heap}{p:Addr×Obj}(hp:p∈xC fp h): p.1∈fp/\h.get? p.1=some p.2:=by
 let⟨b,hb,e⟩:=aep.mp hp;cases q:h.get? b with
 | none=>rw[q] at e;cases e
 | some o =>
   rw[q] at e;have e':(b,o)=p:=qI e;subst e';exact⟨hb,q⟩
def ZZ.pinned {zk:zh}{σ:St}{H:Hp}{s:Shared}{fp:zj}(I:ZZ X zk σ H s)(hf:∀b∈fp,sk X zk H b)(ho:∀b∈fp,∃o,s.heap.get? b=some o/\∀v,o.data≠.cell v): ZZ X (zk++xC fp s.heap) σ H s :=
 I.JK λp hp=>(q_.mp hp).elim (λz=>I.pin p (qM _ z)) λz=>by
   let⟨hb,e⟩:=KO z;let⟨f0,f1,f2,_⟩:=hf p.1 hb;let⟨o,e',d⟩:=ho p.1 hb;rw[e] at e';cases e';exact⟨e,f0,f1,f2,d⟩
def ZZ.su {zk pl:zh}{σ:St}{H:Hp}{s:Shared}(I:ZZ X (zk++pl) σ H s): ZZ X zk σ H s:=I.JK λp hp=>I.pin p (qM _ (QM _ hp))
def TN {iter:Expr}{body:zS}{wi:TI}{g:TG}{tb:TS}{pos:Pos}(hp:PassesOwn (model X.prog X.w) X.A X.env X.xe)(hc:X.calm=true)(hi:PI X tg iter wi)(hg:PG X tg g)(hb:PSs X body tb)
   (hs:∀x,foldedSetIterable iter X.env x=pure x:=by intro _;rfl):PS X (.For tg iter body [] pos) (VU wi g tb):=by
 intro zk s σ H D I h;refine wpAny_For (ZQ (hi zk s σ H _ I h) λv s1 h1=>ZQ h1 λitv s2 h2=>?_) hs;let⟨it,fp,tn,J,H2,e,I2,T,st2,f2,W,⟨m0,w0⟩,turn⟩:=h2;subst e;have stat:∀{H':Hp},(∀b∈fp,H' b=none)->∀b∈fp,sk X zk H' b:=λhn b hb=>⟨hn b hb,(f2 b hb).2⟩;refine codeAny_forLoop_any (λn s'=>∃i σ' H',ZZ X zk σ' H' s'/\tn i s'.heap/\(∀b∈fp,H' b=none)/\W i n σ' H') ?_ m0 ⟨0,σ,H2,I2,st2,λb hb=>(f2 b hb).1,w0⟩;rintro n s3 ⟨i,σ3,H3,I3,st3,fr3,w3⟩;rcases turn i n σ3 H3 w3 with ⟨stop,qn⟩ | ⟨go,N,hN,step⟩
 · refine wpAny_passesOwn hp (ZQ (T.done X rfl rfl rfl hc i zk s3 σ3 H3 X.xe I3 (stat fr3) st3 stop) λr s4 ⟨hr,I4⟩=>?_)
   subst hr;exact wpAny_execs_nil ⟨σ3,H3,I4,qn⟩
 · refine wpAny_passesOwn hp (ZQ (T.item X rfl rfl rfl hc i zk s3 σ3 H3 X.xe I3 (stat fr3) st3 go) λr s4 ⟨u,hr,h4⟩=>?_)
   subst hr;refine wpAny_passesOwn hp (ZQ h4 λ_ s5 hz_=>?_);let⟨x,H5,I5,r5,y5,st5,fr5⟩:=hz_;have I5':=I5.pinned (stat fr5) (T.obj _ _ st5);refine wpAny_passesOwn hp (ZQ (hg _ s5 σ3 H5 x u _ I5' r5 (step x H5 y5)) λ_ s6 ⟨σ6,H6,I6,q6⟩=>?_);refine wpAny_passesOwn hp (ZQ (hb _ s6 σ6 H6 _ I6 q6) λf s7 q7=>?_);have again:∀{σ7:St} {H7:Hp},ZZ X (zk++xC fp s5.heap) σ7 H7 s7->N σ7 H7->∃m,m < n/\∃i σ' H',ZZ X zk σ' H' s7/\tn i s7.heap/\(∀b∈fp,H' b=none)/\W i m σ' H':=λ{σ7 H7} I7 n7=>by
     let⟨m',hm,w7⟩:=hN σ7 H7 n7;refine⟨m',hm,i+1,σ7,H7,I7.su,T.keep _ _ _ st5 λb hb o e=>(I7.pin (b,o) (qM _ (qM _ (lB hb e)))).1,λb hb=>?_,w7⟩;let⟨o,e,d⟩:=T.obj _ _ st5 b hb;exact(I7.pin (b,o) (qM _ (qM _ (lB hb e)))).2.1
   cases f with
   | next=>let⟨σ7,H7,I7,n7⟩:=q7;exact again I7 n7
   | cont=>let⟨σ7,H7,I7,n7⟩:=q7;exact again I7 n7
   | brk=>let⟨σ7,H7,I7,q7⟩:=q7;exact⟨σ7,H7,I7.su,q7⟩
   | ret v=>let⟨x7,σ7,H7,I7,r7,q7⟩:=q7;exact⟨x7,σ7,H7,I7.su,r7,q7⟩
end
abbrev zG:=Nat->St->Hp->Prop
def iq {K:qm}{a:Addr}{xs:zu}{g:TG}{tb:TS}{D:Ends}{σ:St}{H:Hp}(Pv:zG)(h0:Pv 0 σ H)(hl:∀i σ H,i<=xs.length->Pv i σ H->Zx K H a xs)
   (hs:∀i x σ H,xs[i]?=some x->Pv i σ H->g x σ H λσ2 H2=>tb { D with nx:=Pv (i+1),ct:=Pv (i+1),bk:=D.nx } σ2 H2) (hd:∀σ H,Pv xs.length σ H->D.nx σ H) :
   ∃W:Nat->Nat->St->Hp->Prop,(∃m,W 0 m σ H)/\∀i m σ H,W i m σ H ->
     ((Itl K a).stop i H/\D.nx σ H)\/((Itl K a).go i H/\∃N:St->Hp->Prop,(∀σ' H',N σ' H'->∃m',m' < m/\W (i+1) m' σ' H')/\∀x H',(Itl K a).yld i H x H'->g x σ H' λσ2 H2=>tb { D with nx:=N,ct:=N,bk:=D.nx } σ2 H2):=by
 refine⟨λi m σ H=>m=xs.length-i/\i<=xs.length/\Pv i σ H,⟨xs.length,by simp,qV _,h0⟩,?_⟩;rintro i m σ H ⟨rfl,hi,p⟩;have q:=hl i σ H hi p;by_cases hlt:i < xs.length
 · refine .inr ⟨⟨xs,xs[i],q,by simp[hlt]⟩,Pv (i+1),λσ' H' p'=>⟨xs.length-(i+1),by lia,rfl,hlt,p'⟩,λx H' y=>?_⟩
   let⟨e,y⟩:=y;subst e;exact hs i x σ _ (y xs q) p
 · have e:i=xs.length:=by lia
   subst e;exact .inl ⟨⟨xs,q,qe _⟩,hd σ H p⟩
def AG {K:qm}{a:Addr}{xs:zu}{g:TG}{tb:TS}{D:Ends}{σ:St}{H:Hp}(Pv:zG)(h0:Pv 0 σ H)(hl:∀i σ H,i<=xs.length->Pv i σ H->SqT K H a xs)
   (hs:∀i x σ H,xs[i]?=some x->Pv i σ H->g x σ H λσ2 H2=>tb { D with nx:=Pv (i+1),ct:=Pv (i+1),bk:=D.nx } σ2 H2) (hd:∀σ H,Pv xs.length σ H->D.nx σ H) :
   ∃W:Nat->Nat->St->Hp->Prop,(∃m,W 0 m σ H)/\∀i m σ H,W i m σ H ->
     ((Itt K a).stop i H/\D.nx σ H)\/((Itt K a).go i H/\∃N:St->Hp->Prop,(∀σ' H',N σ' H'->∃m',m' < m/\W (i+1) m' σ' H')/\∀x H',(Itt K a).yld i H x H'->g x σ H' λσ2 H2=>tb { D with nx:=N,ct:=N,bk:=D.nx } σ2 H2):=by
 refine⟨λi m σ H=>m=xs.length-i/\i<=xs.length/\Pv i σ H,⟨xs.length,by simp,qV _,h0⟩,?_⟩;rintro i m σ H ⟨rfl,hi,p⟩;have q:=hl i σ H hi p;by_cases hlt:i < xs.length
 · refine .inr ⟨⟨xs,xs[i],q,by simp[hlt]⟩,Pv (i+1),λσ' H' p'=>⟨xs.length-(i+1),by lia,rfl,hlt,p'⟩,λx H' y=>?_⟩
   let⟨e,y⟩:=y;subst e;exact hs i x σ _ (y xs q) p
 · have e:i=xs.length:=by lia
   subst e;exact .inl ⟨⟨xs,q,qe _⟩,hd σ H p⟩
def KP {lo:Int}{n:Nat}{g:TG}{tb:TS}{D:Ends}{σ:St}{H:Hp}(Pv:zG)(h0:Pv 0 σ H)
   (hs:∀i σ H,i < n->Pv i σ H->g (.int (lo+i)) σ H λσ2 H2=>tb { D with nx:=Pv (i+1),ct:=Pv (i+1),bk:=D.nx } σ2 H2) (hd:∀σ H,Pv n σ H->D.nx σ H) :
   ∃W:Nat->Nat->St->Hp->Prop,(∃m,W 0 m σ H)/\∀i m σ H,W i m σ H ->
     ((Itr lo n).stop i H/\D.nx σ H)\/((Itr lo n).go i H/\∃N:St->Hp->Prop,(∀σ' H',N σ' H'->∃m',m' < m/\W (i+1) m' σ' H')/\∀x H',(Itr lo n).yld i H x H'->g x σ H' λσ2 H2=>tb { D with nx:=N,ct:=N,bk:=D.nx } σ2 H2):=by
 refine⟨λi m σ H=>m=n-i/\i<=n/\Pv i σ H,⟨n,by simp,qV _,h0⟩,?_⟩;rintro i m σ H ⟨rfl,hi,p⟩;by_cases hlt:i < n
 · refine .inr ⟨hlt,Pv (i+1),λσ' H' p'=>⟨n-(i+1),by lia,rfl,hlt,p'⟩,λx H' y=>?_⟩
   let⟨e,y⟩:=y;subst e y;exact hs i σ _ hlt p
 · have e:i=n:=by lia
   subst e;exact .inl ⟨qe _,hd σ H p⟩
abbrev R2:=V->V->Hp->VK->Prop
abbrev zL:=Value->Value->Sem Value
def OpR (X:Cx)(f:zL)(r:R2): Prop :=
 ∀(zk:zh) (s:Shared) (σ:St) (H:Hp) (x y:V) (v u:Value) (Q:VK),ZZ X zk σ H s->ZX x v->ZX y u->r x y H Q ->
   wpAny (model X.prog X.w) X.A (f v u) (EP X zk σ Q) X.xe s
def UnR (X:Cx)(f:Value->Sem Value)(r:V->Hp->VK->Prop): Prop :=
 ∀(zk:zh) (s:Shared) (σ:St) (H:Hp) (x:V) (v:Value) (Q:VK),ZZ X zk σ H s->ZX x v->r x H Q ->
   wpAny (model X.prog X.w) X.A (f v) (EP X zk σ Q) X.xe s
abbrev Zc:=List V->Hp->VK->Prop
def oV (X:Cx)(f:Value)(r:Zc): Prop :=
 ∀(zk:zh) (s:Shared) (σ:St) (H:Hp) (xs:zu) (us:zi) (Q:VK),ZZ X zk σ H s->Vals xs us->r xs H Q ->
   wpAny (model X.prog X.w) X.A (call f us) (EP X zk σ Q) X.xe s
def tOp (r:R2)(ta tb:TE): TE:=λσ H Q=>ta σ H λx H1=>tb σ H1 λy H2=>r x y H2 Q
def tUn (r:V->Hp->VK->Prop)(ta:TE): TE:=λσ H Q=>ta σ H λx H1=>r x H1 Q
def rI (C:Int->Int->Prop)(g:Int->Int->V): R2:=λx y H Q=>∃i j,x=.int i/\y=.int j/\C i j/\Q (g i j) H
def rI0 (g:Int->Int->V): R2:=λx y H Q=>∃i j,x=.int i/\y=.int j/\Q (g i j) H
def rU (g:Int->V): V->Hp->VK->Prop:=λx H Q=>∃i,x=.int i/\Q (g i) H
section
variable {X:Cx}{a b c:Expr}{ta tb tc:TE}{pos:Pos}
def TQ (ha:PE X a ta)(hb:PE X b tb){zk:zh}{s:Shared}{σ:St}{H:Hp}{R:V->V->Hp->Prop}(I:ZZ X zk σ H s)
   (h:ta σ H λx H1=>tb σ H1 λy H2=>R x y H2) {Q:ze} {f:zL}
   (hf:∀v u s2 x y H2,ZZ X zk σ H2 s2->ZX x v->ZX y u->R x y H2->wpAny (model X.prog X.w) X.A (f v u) Q X.xe s2) :
   wpAny (model X.prog X.w) X.A (eval a X.env) (λv s₁=>wpAny (model X.prog X.w) X.A (eval b X.env) (λu s₂=>wpAny (model X.prog X.w) X.A (f v u) Q X.xe s₂) X.xe s₁) X.xe s:=by
 refine ZQ (ha zk s σ H _ I h) λv s1 hz_=>?_;let⟨x,H1,I1,r1,q1⟩:=hz_;refine ZQ (hb zk s1 σ H1 _ I1 q1) λu s2 hz_=>?_;let⟨y,H2,I2,r2,q2⟩:=hz_;exact hf v u s2 x y H2 I2 r1 r2 q2
def dL {op:Operator}{r:R2}(ho:OpR X (binaryOp op) r)(ha:PE X a ta)(hb:PE X b tb): PE X (.BinOp a op b pos) (tOp r ta tb):=by
 intro zk s σ H Q I h;exact wpAny_BinOp (TQ ha hb I h λv u s2 x y H2 I2 rx ry q=>ho zk s2 σ H2 x y v u Q I2 rx ry q)
def nK {op:UnaryOp}{r:V->Hp->VK->Prop}(ho:UnR X (unaryOp op) r)(ha:PE X a ta): PE X (.UnaryOp op a pos) (tUn r ta):=by
 intro zk s σ H Q I h;exact UnaryOp_ (ZQ (ha zk s σ H _ I h) λv s1 ⟨x,H1,I1,r1,q1⟩=>ho zk s1 σ H1 x v Q I1 r1 q1)
def opI {f:zL}{C:Int->Int->Prop}{g:Int->Int->Int}
   (rule:∀(i j:Int) (t u:Tok) (s:Shared) (Q:ze) (E:ze),C i j->Q (.int (g i j) s.toks) { s with toks:=s.toks+1 }->wpAny (model X.prog X.w) X.A (f (.int i t) (.int j u)) Q E s) :
   OpR X f (rI C λi j=>.int (g i j)):=by
 ac_rfl;let⟨i,j,rfl,rfl,hc,q⟩:=h;let⟨t,rfl⟩:=rx;let⟨t',rfl⟩:=ry;exact rule i j t t' s _ _ hc ⟨.int (g i j),H,I.tok _,⟨_,rfl⟩,q⟩
def Mq {f:zL}{g:Int->Int->Int}
   (rule:∀(i j:Int) (t u:Tok) (s:Shared) (Q:ze) (E:ze),Q (.int (g i j) s.toks) { s with toks:=s.toks+1 }->wpAny (model X.prog X.w) X.A (f (.int i t) (.int j u)) Q E s) :
   OpR X f (rI0 λi j=>.int (g i j)):=by
 ac_rfl;let⟨i,j,rfl,rfl,q⟩:=h;let⟨t,rfl⟩:=rx;let⟨t',rfl⟩:=ry;exact rule i j t t' s _ _ ⟨.int (g i j),H,I.tok _,⟨_,rfl⟩,q⟩
def TR {f:zL}{g:Int->Int->Bool}
   (rule:∀(i j:Int) (t u:Tok) (s:Shared) (Q:ze) (E:ze),Q (.bool (g i j)) s->wpAny (model X.prog X.w) X.A (f (.int i t) (.int j u)) Q E s) :
   OpR X f (rI0 λi j=>.bl (g i j)):=by
 ac_rfl;let⟨i,j,rfl,rfl,q⟩:=h;let⟨t,rfl⟩:=rx;let⟨t',rfl⟩:=ry;exact rule i j t t' s _ _ ⟨.bl (g i j),H,I,rfl,q⟩
def VW (i j:Int): Prop:=0 < j/\j < 1073741824
def Mr (i j:Int): Prop:=0<=j/\j<=1000000/\i.natAbs < 2^64
def Mt (i j:Int): Prop:=(-(2^64) < i/\i < 2^64)\/(-(2^64) < j/\j < 2^64)
def Mt.ok {i j:Int}(h:Mt i j): IntMulOk i j:=by
 rcases h with ⟨h1,h2⟩ | ⟨h1,h2⟩
 · exact .of_left (intBits_le_64 h1 h2)
 · exact .of_right (intBits_le_64 h1 h2)
def Iu (k:Nat): (0:Int)<=2^k:=by
 rw[two_pow_cast];exact Int.natCast_nonneg _
def kL:OpR X (binaryOp .Add) (rI0 λi j=>.int (i+j)):=Mq λ_ _ _ _ _ _ _ q=>add_int q
def ji:OpR X (binaryOp .Sub) (rI0 λi j=>.int (i-j)):=Mq λ_ _ _ _ _ _ _ q=>sub_int q
def EH:OpR X (binaryOp .Mult) (rI Mt λi j=>.int (i*j)):=opI λ_ _ _ _ _ _ _ hc q=>mul_int q hc.ok
def mD:OpR X (binaryOp .FloorDiv) (rI VW λi j=>.int (i / j)):=opI λi j _ _ _ _ _ hc q=>by
 have h1:(0:Int) < j:=hc.1;have h2:j < 1073741824:=hc.2;exact floordiv_int (by lia) (by rw[acD i (by lia)];exact q) (.inl (PyProof.noPylong_small (by lia)))
def kM:OpR X (binaryOp .Mod) (rI (λ_ j=>0 < j) λi j=>.int (i%j)):=opI λi j _ _ _ _ _ hc q=>by
 have h1:(0:Int) < j:=hc;exact mod_int' (by lia) (by rw[Int.fmod_eq_emod_of_nonneg i (by lia)];exact q)
def EI:OpR X (binaryOp .Pow) (rI Mr λi j=>.int (i^j.toNat)):=opI λ_ _ _ _ _ _ _ hc q=>pow_int_small hc.1 hc.2.1 hc.2.2 q
def Iv:OpR X (binaryOp .LShift) (rI Mr λi j=>.int (i*2^j.toNat)):=opI λ_ _ _ _ _ _ _ hc q=>lshift_int_small hc.1 hc.2.1 hc.2.2 q
def Mu:OpR X (binaryOp .RShift) (rI (λ_ j=>0<=j) λi j=>.int (i / 2^j.toNat)):=opI λi j _ _ _ _ _ hc q =>
 rshift_int hc (by rw[acD i (Iu _)];exact q)
def AY:OpR X (binaryOp .BitAnd) (rI0 λi j=>.int (abK i j)):=Mq λ_ _ _ _ _ _ _ q=>and_int q
def SD:OpR X (binaryOp .BitOr) (rI0 λi j=>.int (abY i j)):=Mq λ_ _ _ _ _ _ _ q=>or_int q
def TU:OpR X (binaryOp .BitXor) (rI0 λi j=>.int (adN i j)):=Mq λ_ _ _ _ _ _ _ q=>xor_int q
def unI {f:Value->Sem Value}{g:Int->Int}
   (rule:∀(i:Int) (t:Tok) (s:Shared) (Q:ze) (E:ze),Q (.int (g i) s.toks) { s with toks:=s.toks+1 }->wpAny (model X.prog X.w) X.A (f (.int i t)) Q E s) :
   UnR X f (rU λi=>.int (g i)):=by
 intro zk s σ H x v Q I rx h;let⟨i,rfl,q⟩:=h;let⟨t,rfl⟩:=rx;exact rule i t s _ _ ⟨.int (g i),H,I.tok _,⟨_,rfl⟩,q⟩
def kN:UnR X (unaryOp .USub) (rU λi=>.int (-i)):=unI λ_ _ _ _ _ q=>neg_int q
end
def VX:V->V->Bool
 | .non,.non=>true | .non,.int _=>true | .int _,.non=>true | .non,.bl _=>true | .bl _,.non=>true | .non,.str _=>true | .str _,.non=>true
 | .int _,.int _=>true | .bl _,.bl _=>true | .str _,.str _=>true | .byt _,.byt _=>true
 | .int _,.str _=>true | .str _,.int _=>true | .bl _,.str _=>true | .str _,.bl _=>true
 | _,_=>false
def rEq:R2:=λx y H Q=>VX x y=true/\Q (.bl (decide (x=y))) H
def rNe:R2:=λx y H Q=>VX x y=true/\Q (.bl (!decide (x=y))) H
def JM {i j:Int}: decide (V.int i=V.int j)=(i==j):=by
 rw[QX];simp
def Mv {i j:Bool}: decide (V.bl i=V.bl j)=(i==j):=by
 rw[QX];simp
def JN {i j:Str}: decide (V.str i=V.str j)=(i==j):=by
 rw[QX];simp
def JO {i j:Array UInt8}: decide (V.byt i=V.byt j)=(i.toList==j.toList):=by
 rw[QX];cases i;cases j;simp
section
variable {X:Cx}{a b c:Expr}{ta tb tc:TE}{pos:Pos}
def gv {zk:zh}{σ:St}{H:Hp}{s:Shared}{Q:VK}{k k':Bool}(I:ZZ X zk σ H s)(q:Q (.bl k) H)(e:k=k'): EP X zk σ Q (.bool k') s:=by
 subst e;exact⟨.bl k,H,I,rfl,q⟩
def gM:OpR X (compareOp .Eq) rEq:=by
 ac_rfl;let⟨hs,q⟩:=h;cases x with
 | non =>
   cases rx;cases y with
   | non=>cases ry;exact PySem.EqNone.eq_none_none (gv I q (by simp))
   | bl j=>cases ry;exact PySem.EqNone.eq_none_bool (gv I q (by simp))
   | int j=>let⟨t',rfl⟩:=ry;exact PySem.EqNone.eq_none_int (gv I q (by simp))
   | str j=>let⟨t',rfl⟩:=ry;exact PySem.EqNone.eq_none_str (gv I q (by simp))
   | _=>exact absurd (show false=true from hs) qf
 | bl i =>
   cases rx;cases y with
   | non=>cases ry;exact PySem.EqNone.eq_bool_none (gv I q (by simp))
   | bl j=>cases ry;exact eq_bool (gv I q Mv)
   | str j=>let⟨t',rfl⟩:=ry;exact PySem.EqMixed.eq_bool_str (gv I q (by simp))
   | _=>exact absurd (show false=true from hs) qf
 | int i =>
   let⟨t,rfl⟩:=rx;cases y with
   | non=>cases ry;exact PySem.EqNone.eq_int_none (gv I q (by simp))
   | int j=>let⟨t',rfl⟩:=ry;exact eq_int (gv I q JM)
   | str j=>let⟨t',rfl⟩:=ry;exact PySem.EqMixed.eq_int_str (gv I q (by simp))
   | _=>exact absurd (show false=true from hs) qf
 | str i =>
   let⟨t,rfl⟩:=rx;cases y with
   | non=>cases ry;exact PySem.EqNone.eq_str_none (gv I q (by simp))
   | bl j=>cases ry;exact PySem.EqMixed.eq_str_bool (gv I q (by simp))
   | int j=>let⟨t',rfl⟩:=ry;exact PySem.EqMixed.eq_str_int (gv I q (by simp))
   | str j=>let⟨t',rfl⟩:=ry;exact eq_str (gv I q JN)
   | _=>exact absurd (show false=true from hs) qf
 | byt i =>
   let⟨t,rfl⟩:=rx;cases y with
   | byt j=>let⟨t',rfl⟩:=ry;exact PySem.W.eq_bytes (gv I q JO)
   | _=>exact absurd (show false=true from hs) qf
 | _=>cases y<;>exact absurd (show false=true from hs) qf
def Mw:OpR X (compareOp .NotEq) rNe:=by
 ac_rfl;let⟨hs,q⟩:=h;cases x with
 | non =>
   cases rx;cases y with
   | non=>cases ry;exact PySem.EqNone.ne_none_none (gv I q (by simp))
   | bl j=>cases ry;exact PySem.EqNone.ne_none_bool (gv I q (by simp))
   | int j=>let⟨t',rfl⟩:=ry;exact PySem.EqNone.ne_none_int (gv I q (by simp))
   | str j=>let⟨t',rfl⟩:=ry;exact PySem.EqNone.ne_none_str (gv I q (by simp))
   | _=>exact absurd (show false=true from hs) qf
 | bl i =>
   cases rx;cases y with
   | non=>cases ry;exact PySem.EqNone.ne_bool_none (gv I q (by simp))
   | bl j=>cases ry;exact ne_bool (gv I q (congrArg not Mv))
   | str j=>let⟨t',rfl⟩:=ry;exact PySem.EqMixed.ne_bool_str (gv I q (by simp))
   | _=>exact absurd (show false=true from hs) qf
 | int i =>
   let⟨t,rfl⟩:=rx;cases y with
   | non=>cases ry;exact PySem.EqNone.ne_int_none (gv I q (by simp))
   | int j=>let⟨t',rfl⟩:=ry;exact ne_int (gv I q (congrArg not JM))
   | str j=>let⟨t',rfl⟩:=ry;exact PySem.EqMixed.ne_int_str (gv I q (by simp))
   | _=>exact absurd (show false=true from hs) qf
 | str i =>
   let⟨t,rfl⟩:=rx;cases y with
   | non=>cases ry;exact PySem.EqNone.ne_str_none (gv I q (by simp))
   | bl j=>cases ry;exact PySem.EqMixed.ne_str_bool (gv I q (by simp))
   | int j=>let⟨t',rfl⟩:=ry;exact PySem.EqMixed.ne_str_int (gv I q (by simp))
   | str j=>let⟨t',rfl⟩:=ry;exact ne_str (gv I q (congrArg not JN))
   | _=>exact absurd (show false=true from hs) qf
 | byt i =>
   let⟨t,rfl⟩:=rx;cases y with
   | byt j=>let⟨t',rfl⟩:=ry;exact PySem.W.ne_bytes (gv I q (congrArg not JO))
   | _=>exact absurd (show false=true from hs) qf
 | _=>cases y<;>exact absurd (show false=true from hs) qf
def AZ:OpR X (compareOp .Lt) (rI0 λi j=>.bl (decide (i < j))):=TR λ_ _ _ _ _ _ _ q=>lt_int q
def jR:OpR X (compareOp .LtE) (rI0 λi j=>.bl (decide (i<=j))):=TR λ_ _ _ _ _ _ _ q=>le_int q
def Gu:OpR X (compareOp .Gt) (rI0 λi j=>.bl (decide (j < i))):=TR λ_ _ _ _ _ _ _ q=>gt_int q
def A0:OpR X (compareOp .Is) (λx y H Q=>y=.non/\Q (.bl (decide (x=.non))) H):=by
 ac_rfl;let⟨rfl,q⟩:=h;cases ry;refine is_none_gen (gv I q ?_);cases x<;>first
   | (cases rx;rfl)
   | (let⟨t,rfl⟩:=rx;rfl)
def vK:OpR X (compareOp .IsNot) (λx y H Q=>y=.non/\Q (.bl (!decide (x=.non))) H):=by
 ac_rfl;let⟨rfl,q⟩:=h;cases ry;refine isnot_none_gen (gv I q ?_);cases x<;>first
   | (cases rx;rfl)
   | (let⟨t,rfl⟩:=rx;rfl)
def My (b:Expr){op:CmpOp}(h:op≠.In:=by decide)(h2:op≠.NotIn:=by decide): behindInMarks op b=false:=by
 have e1:(op==CmpOp.In)=false:=by cases op<;>first | rfl | exact absurd rfl h
 have e2:(op==CmpOp.NotIn)=false:=by cases op<;>first | rfl | exact absurd rfl h2
 cases b<;>simp[behindInMarks,e1,e2]
def Pw {op:CmpOp}{r:R2}(ho:OpR X (compareOp op) r)(ha:PE X a ta)(hb:PE X b tb)(hm:behindInMarks op b=false): PE X (.Compare a [op] [b] pos) (tOp r ta tb):=by
 intro zk s σ H Q I h;exact wpAny_Compare1 (TQ ha hb I h λv u s2 x y H2 I2 rx ry q=>ho zk s2 σ H2 x y v u Q I2 rx ry q) hm
def MA (t:TE): TT:=λσ H Q=>t σ H λx H'=>∃k,x=.bl k/\Q k H'
def Px {op:CmpOp}{r:R2}(ho:OpR X (compareOp op) r)(ha:PE X a ta)(hb:PE X b tb)(hm:behindInMarks op b=false): PT X (.Compare a [op] [b] pos) (MA (tOp r ta tb)):=by
 intro zk s σ H Q I h;refine wpAny_isTrue_Compare1 (ZQ (ha zk s σ H _ I h) λv s1 ⟨x,H1,I1,r1,q1⟩=>ZQ (hb zk s1 σ H1 _ I1 q1) λu s2 ⟨y,H2,I2,r2,q2⟩ =>
   ZQ (ho zk s2 σ H2 x y v u _ I2 r1 r2 q2) λc s3 ⟨z,H3,I3,r3,k,e,q3⟩=>?_) hm
 subst e;cases r3;exact wpAny_truthy_bool ⟨H3,I3,q3⟩
def MB (r r':R2)(ta tb tc:TE): TE:=λσ H Q=>ta σ H λx H1=>tb σ H1 λy H2=>r x y H2 λz H3=>∃k,z=.bl k ∧
 (if k=true then tc σ H3 λw' H4=>r' y w' H4 Q else Q (.bl false) H3)
def MC {op op':CmpOp}{r r':R2}(ho:OpR X (compareOp op) r)(ho':OpR X (compareOp op') r')(ha:PE X a ta)(hb:PE X b tb)(hc:PE X c tc)
   (hm:lastMarks [op,op'] [b,c]=false:=by with_unfolding_all rfl):PE X (.Compare a [op,op'] [b,c] pos) (MB r r' ta tb tc):=by
 intro zk s σ H Q I h;refine Compare_chain (ZQ (ha zk s σ H _ I h) λv s1 ⟨x,H1,I1,r1,q1⟩=>chain_link (ZQ (hb zk s1 σ H1 _ I1 q1) λu s2 ⟨y,H2,I2,r2,q2⟩ =>
   ZQ (ho zk s2 σ H2 x y v u _ I2 r1 r2 q2) λd s3 ⟨z,H3,I3,r3,k,e,q3⟩=>?_)) hm
 subst e;cases r3;refine wpAny_truthy_bool ?_;cases k with
 | false=>exact ite_ff ⟨.bl false,H3,I3,rfl,q3⟩
 | true=>exact ite_tt (chain_last (ZQ (hc zk s3 σ H3 _ I3 q3) λw' s4 ⟨z',H4,I4,r4,q4⟩=>ho' zk s4 σ H4 y z' u w' Q I4 r2 r4 q4))
def i9 {op op':CmpOp}{r r':R2}(ho:OpR X (compareOp op) r)(ho':OpR X (compareOp op') r')(ha:PE X a ta)(hb:PE X b tb)(hc:PE X c tc)
   (hm:lastMarks [op,op'] [b,c]=false:=by with_unfolding_all rfl):PT X (.Compare a [op,op'] [b,c] pos) (MA (MB r r' ta tb tc)):=by
 intro zk s σ H Q I h;refine isTrue_chain (ZQ (ha zk s σ H _ I h) λv s1 ⟨x,H1,I1,r1,q1⟩=>test_link (ZQ (hb zk s1 σ H1 _ I1 q1) λu s2 ⟨y,H2,I2,r2,q2⟩ =>
   ZQ (ho zk s2 σ H2 x y v u _ I2 r1 r2 q2) λd s3 ⟨z,H3,I3,r3,k,e,q3⟩=>?_)) hm
 subst e;cases r3;refine wpAny_truthy_bool ?_;cases k with
 | false =>
   let⟨k',e',q'⟩:=q3;cases e';exact ite_ff ⟨H3,I3,q'⟩
 | true =>
   refine ite_tt (test_last (ZQ (hc zk s3 σ H3 _ I3 q3) λw' s4 ⟨z',H4,I4,r4,q4⟩=>ZQ (ho' zk s4 σ H4 y z' u w' _ I4 r2 r4 q4) λd' s5 hz_=>?_));let⟨z2,H5,I5,r5,k2,e2,q5⟩:=hz_;subst e2;cases r5;exact wpAny_truthy_bool ⟨H5,I5,q5⟩
def A1:(sizeLine:Nat) < 2^63:=by rw[sizeLine_eq];decide
def vals1 {x:V}{us:zi}(r:Vals [x] us): ∃u,us=[u]/\ZX x u:=by
 cases r with
 | cons r1 r2=>cases r2;exact⟨_,rfl,r1⟩
def vals2 {x y:V}{us:zi}(r:Vals [x,y] us): ∃u w',us=[u,w']/\ZX x u/\ZX y w':=by
 cases r with
 | cons r1 r2 =>
   cases r2 with
   | cons r3 r4=>cases r4;exact⟨_,_,rfl,r1,r3⟩
end
structure Iw (h:Heap)(x dx C:Addr)(mA:zf): Prop where
 obj:h.get? x=some (QO C dx)
 ns:h.Ns1 dx mA
 ne:dx≠x
def KQ {h:Heap}{dx:Addr}{mA:zf}(n:h.Ns1 dx mA): ∃od,h.get? dx=some od/\∀name,acE name od=some (mA name):=by
 let⟨o,es,ep,ho,hd,hk,_,hm⟩:=n;refine⟨o,ho,λname=>?_⟩;have e:=hm name;unfold nsFind findBy at e;rw[<-Array.find?_toList] at e;unfold acE;rw[hd];dsimp only;split
 · rename_i y q
   rw[q] at e;exact congrArg some e
 · rename_i q
   rw[q] at e;have a:es.toList.any (·.refKey)=false:=by
     rw[List.any_eq_false];intro y hy;let⟨z,t,hkey⟩:=hk y (Array.mem_toList_iff.mp hy);simp[DictEntry.refKey,hkey]
   have a':¬es.toList.any (·.refKey)=true:=by rw[a];exact qf
   rw[if_neg a'];exact congrArg some e
def Iw.look {h:Heap}{x dx C:Addr}{mA:zf}(I:Iw h x dx C mA): ∃od,PySem.W.InstAt h x (QO C dx) C (some od)/\∀name,acE name od=some (mA name) :=
 let ⟨od,ho,hl⟩:=KQ I.ns
 ⟨od,⟨I.obj,rfl,rfl,ho⟩,hl⟩
section
variable {prog:Program}{w:World}{A:Around}{E:ze}{s:Shared}{K:qm}{x dx C f:Addr}{mA:zf}{name:Str}{v:Value}
def get_map {expr:Bool}{Q:ze}(X:K.In s.heap)(I:Iw s.heap x dx C mA)(hg:abS K C name=true)(hh:acP K C=true)
   (ha:QA K (.ref C) name=some none) (hv:mA name=some v) (hv':aeG v=true) (h:Q v { s with toks:=s.toks+1 }) :
   wpAny (model prog w) A (getAttr (.ref x) name expr) Q E s:=by
 let⟨od,J,hl⟩:=I.look;exact PySem.W.get_value X J (acr hg).1 (PySem.W.findObj_own hh ha rfl (by rw[hl,hv])) hv' h
abbrev zX:=Sem Bool
def MD {pl:zX}{Q:Value×List Value->Shared->Prop}(X:K.In s.heap)(I:Iw s.heap x dx C mA)(hg:abS K C name=true)
   (hf:QA K (.ref C) name=some (some (.ref f))) (ht:aey K (.ref f)=true) (hv:mA name=none) (h:Q (.ref f,[.ref x]) s) :
   wpAny (model prog w) A (getMethod (.ref x) name pl) Q E s:=by
 let⟨od,J,hl⟩:=I.look;exact PySem.W.method_fn X J (acr hg).1 (acr hg).2 hf (beq_iff_eq.mp ht) (by show (acE name od).map (·.isSome)=some false;rw[hl,hv];rfl) h
def Py {ns:zq}{Q:zg}(X:K.In s.heap)(I:Iw s.heap x dx C mA)
   (hs:QA K (.ref C) "__setattr__" = some (some (.builtin "object.__setattr__"))) (hp:aez K C=true) (ht:adB K C name=some none) (hh:acP K C=true)
   (hw:abI mA ns) (hsz:ns.length<=sizeLine)
   (h:∀h',Iw h' x dx C (λy=>if y=name then some v else mA y)->abp dx s.heap h'->Q () { s with heap:=h',toks:=s.toks+2 }) :
   wpAny (model prog w) A (setAttr (.ref x) name v) Q E s:=by
 let⟨od,J,hl⟩:=I.look;refine PySem.W.set_plain X J hs (PySem.W.osa_open (s:={ s with toks:=s.toks+1 }) (r:=none) X J hp ht λb=>?_);let⟨cd,hc,hd'⟩:=PySem.W.any_some hh;have hx:s.heap.get? x=some ⟨.ref C,some dx,.plain,#[]⟩:=I.obj;refine wpAny_bind (wpAny_pure (wpAny_bind (wpAny_bind (wpAny_loadPart hx (wpAny_bind (PySem.W.Looks.here (s:={ s with toks:=s.toks+1 }) (PySem.W.looks_clsIn X hc) ?_))))));rw[hd'];refine wpAny_pure (a:=some dx) (wpAny_bind (wpAny_pure (wpAny_bind ?_)));refine wpAny_nsSet1 (s:={ s with toks:=s.toks+1 }) I.ns λh' hn2 hs2=>?_;let⟨oD,esD,epD,hoD,hdD,hcD⟩:=hn2.count (acQ name v hw);refine wpAny_bind (wpAny_lookBehind hoD (by rw[hdD];exact pastItsLine_dict (Qh hcD (by rw[qJ];lia))) ?_);exact wpAny_pure (h _ ⟨(hs2.2 _ (qX I.ne)).trans I.obj,hn2,I.ne⟩ hs2)
abbrev zH:=List (Str×Value)
abbrev z7:=Result->Shared->Prop
def ME {R:z7}{vs:zi}{kw:zH}(X:K.In s.heap)(hm:aeN K C=true)
   (hi:QA K (.ref C) "__init__" = some (some (.ref f))) (hf:PySem.W.typeIn K (.ref f)=some (.type "function"))
   (h:codeAny (model prog w) (A.under (.builtin "type.__call__" ⟨.ref C::vs,kw⟩)) (.call (.ref f) ⟨.ref (s.heap.objs.size+1)::vs,kw⟩) (PySem.W.InitBack (s.heap.objs.size+1) R)
     { s with heap:=(s.heap.push Qq).push (QO C s.heap.objs.size) }) :
   codeAny (model prog w) A (.call (.ref C) ⟨vs,kw⟩) R s:=by
 let⟨hh,g,d,t,os⟩:=s;exact PySem.W.make_core (PySem.W.makes_of X hm) (PySem.W.looks_findIn X hi) (λself=>PySem.W.bind_fn X self hf) (.inl rfl) h
end
def jT (f:Str)(v:V): List (Str×V)->List (Str×V)
 | []=>[(f,v)]
 | (g,x)::r=>if g=f then (g,v)::r else (g,x)::jT f v r
def sB (f g:Str)(v:V): ∀fs:List (Str×V),(jT f v fs).lookup g=if g=f then some v else fs.lookup g
 | []=>by
   show QN g [(f,v)]=_;by_cases h:g=f
   · have hb:(g==f)=true:=beq_iff_eq.mpr h
     simp only [QN,hb,if_pos h]
   · have hb:(g==f)=false:=beq_eq_false_iff_ne.mpr h
     simp only [QN,hb,if_neg h]
 | (k,x)::r=>by
   have ih:=sB f g v r;rw[show jT f v ((k,x)::r)=(if k=f then (k,v)::r else (k,x)::jT f v r) from rfl];by_cases hk:k=f
   · rw[if_pos hk]
     by_cases h:g=k
     · have hb:(g==k)=true:=beq_iff_eq.mpr h
       simp only [QN,hb,if_pos (h.trans hk)]
     · have hb:(g==k)=false:=beq_eq_false_iff_ne.mpr h
       simp only [QN,hb,if_neg (λe:g=f=>h (e.trans hk.symm))]
   · rw[if_neg hk]
     by_cases h:g=k
     · have hb:(g==k)=true:=beq_iff_eq.mpr h
       simp only [QN,hb,if_neg (λe:g=f=>hk (h.symm.trans e))]
     · have hb:(g==k)=false:=beq_eq_false_iff_ne.mpr h
       simp only [QN,hb];exact ih
def oW (f:Str)(v:V): ∀fs:List (Str×V),f∈(jT f v fs).map (·.1)/\∀g,g∈fs.map (·.1)->g∈(jT f v fs).map (·.1)
 | []=>⟨by simp[jT],λg h=>by simp at h⟩
 | (k,x)::r=>by
   let⟨i1,i2⟩:=oW f v r;rw[show jT f v ((k,x)::r)=(if k=f then (k,v)::r else (k,x)::jT f v r) from rfl];by_cases hk:k=f
   · rw[if_pos hk]
     subst hk;exact⟨by simp,λg h=>by simpa using h⟩
   · rw[if_neg hk]
     refine⟨?_,λg h=>?_⟩
     · rw[Qb]
       exact qB _ i1
     · rw[Qb] at h ⊢
       rcases qk.mp h with e | e
       · exact qk.mpr (.inl e)
       · exact qB _ (i2 g e)
def yA (f:Str)(v:V): ∀fs:List (Str×V),(jT f v fs).length<=fs.length+1
 | []=>by simp[jT]
 | (k,x)::r=>by
   have ih:=yA f v r;rw[show jT f v ((k,x)::r)=(if k=f then (k,v)::r else (k,x)::jT f v r) from rfl];by_cases hk:k=f
   · rw[if_pos hk,qJ,qJ];lia
   · rw[if_neg hk,qJ,qJ];lia
abbrev zF:=Option Value
def lu.some_of {v:V}{o:zF}(r:lu (some v) o): ∃u,o=some u/\ZX v u:=by
 cases o with
 | none=>exact(show False from r).elim
 | some u=>exact⟨u,rfl,r⟩
def lu.none_of {o:zF}(r:lu none o): o=none:=by
 cases o with
 | none=>rfl
 | some u=>exact(show False from r).elim
def DY {v:V}{u:Value}(r:ZX v u): aeG u=true:=by
 cases v with
 | non=>cases (show u=qD from r);rfl
 | bl b=>cases (show u=aeo b from r);rfl
 | int i=>let⟨t,e⟩:=(show ∃t,u=acz i t from r);cases e;rfl
 | str x=>let⟨t,e⟩:=(show ∃t,u=acA x t from r);cases e;rfl
 | byt b=>let⟨t,e⟩:=(show ∃t,u=Value.bytes b t from r);cases e;rfl
 | flt b=>let⟨t,e⟩:=(show ∃t,u=aeJ b t from r);cases e;rfl
 | ref a=>cases (show u=qh a from r);rfl
 | ty n=>cases (show u=abR n from r);rfl
section
variable {P:Program}{w:World}{H H':Hp}{h h':Heap}{a C dx:Addr}{fs fs':zw}
def AH (hok:HOk P w H h)(e:H a=some (.ins C dx fs)): ∃mA,Iw h a dx C mA/\(∀f,lu (fs.lookup f) (mA f))/\abI mA (fs.map (·.1))/\fs.length<=1000/\H dx=some (.own a):=by
 let⟨d,z,ne,ob,mA,n,r,q⟩:=(show gN P w H h a (.ins C dx fs) from hok a _ e);exact⟨mA,⟨ob,n,ne⟩,r,q,z,d⟩
end
structure Zw (K:qm)(C:Addr): Prop where
 pg:abS K C Str.empty=true
 hd:acP K C=true
 po:aez K C=true
 sa:QA K (.ref C) "__setattr__" = some (some (.builtin "object.__setattr__"))
def Zw.get {K:qm}{C:Addr}(c:Zw K C)(f:Str): abS K C f=true:=c.pg
def bK (K:qm)(C:Addr)(f:Str): Prop:=QA K (.ref C) f=some none
def bK.taker {K:qm}{C:Addr}{f:Str}(n:bK K C f): adB K C f=some none:=by
 unfold adB;rw[show QA K (.ref C) f=some none from n];rfl
structure Meth (K:qm)(C:Addr)(m:Str)(f:Addr): Prop where
 at_:QA K (.ref C) m=some (some (.ref f))
 fn:aey K (.ref f)=true
 kp:aeP K (.ref f)=true
section
variable {X:Cx}{zk:zh}{σ:St}{H:Hp}{s:Shared}{a C dx:Addr}{fs:zw}{f:Str}{v:V}{A:Around}{E:ze}
def Iy {b:Bool}{Q:ze}(I:ZZ X zk σ H s)(e:H a=some (.ins C dx fs))(c:Zw X.K C)(n:bK X.K C f)(l:fs.lookup f=some v)
   (h:∀u s',ZZ X zk σ H s'->ZX v u->Q u s'):wpAny (model X.prog X.w) A (getAttr (.ref a) f b) Q E s:=by
 let⟨mA,O,r,_,_,_⟩:=AH I.hok e;let⟨u,hu,ru⟩:=lu.some_of (v:=v) (o:=mA f) (by rw[<-l];exact r f);exact get_map I.kIn O (c.get f) c.hd n hu (DY ru) (h u _ (I.tok _) ru)
def uP {m:Str}{g:Addr}{pl:zX}{Q:Value×List Value->Shared->Prop}(I:ZZ X zk σ H s)(e:H a=some (.ins C dx fs))(c:Zw X.K C)(k:Meth X.K C m g)(l:fs.lookup m=none)
   (h:Q (.ref g,[.ref a]) s):wpAny (model X.prog X.w) A (getMethod (.ref a) m pl) Q E s:=by
 let⟨mA,O,r,_,_,_⟩:=AH I.hok e;have hn:mA m=none:=lu.none_of (by rw[<-l];exact r m);exact MD I.kIn O (c.get m) k.at_ k.fn hn h
def Iz {y:V}{u:Value}{Q:zg}(I:ZZ X zk σ H s)(e:H a=some (.ins C dx fs))(c:Zw X.K C)(n:bK X.K C f)(hl:fs.length < 1000)(ry:ZX y u)
   (h:∀s',ZZ X zk σ (upd H a (.ins C dx (jT f y fs))) s'->Q () s'):wpAny (model X.prog X.w) A (setAttr (.ref a) f u) Q E s:=by
 let⟨mA,O,r,wi,_,ho⟩:=AH I.hok e;have hz:(fs.map (·.1)).length<=sizeLine:=by rw[qa,sizeLine_eq];lia
 refine Py I.kIn O c.sa c.po n.taker c.hd wi hz λh' O' sb=>h _ ?_;have hd:∃o,h'.get? dx=some o:=(by let⟨o,_,_,e',_⟩:=O'.ns;exact ⟨o,e'⟩);refine I.write (x:=a) (e:=dx) (by rw[e];exact QU) (.inr ho) (λb q hb z=>(sb.2 b hb).trans z) hd ?_;refine⟨by rw[ak O.ne];exact ho,?_,O.ne,O'.obj,_,O'.ns,λg=>?_,λg hg=>?_⟩
 · have:=yA f y fs;lia
 · show lu ((jT f y fs).lookup g) (if g=f then some u else mA g)
   rw[sB];by_cases q:g=f
   · rw[if_pos q,if_pos q];exact ry
   · rw[if_neg q,if_neg q];exact r g
 · by_cases q:g=f
   · rw[q];exact(oW f y fs).1
   · refine(oW f y fs).2 g (wi g λz=>hg ?_)
     show (if g=f then some u else mA g)=none;rw[if_neg q];exact z
def ZZ.made (I:ZZ X zk σ H s): ZZ X zk σ (upd (upd H s.heap.objs.size (.own (s.heap.objs.size+1))) (s.heap.objs.size+1) (.ins C s.heap.objs.size []))
   { s with heap:=(s.heap.push Qq).push (QO C s.heap.objs.size) }:=by
 have e1:(s.heap.push Qq).get? s.heap.objs.size=some Qq:=qp s.heap rfl;have e2:((s.heap.push Qq).push (QO C s.heap.objs.size)).get? (s.heap.objs.size+1)=some (QO C s.heap.objs.size):=by
   have:=qp (s.heap.push Qq) (o:=QO C s.heap.objs.size) rfl;rwa [adO] at this
 have e3:(s.heap.push Qq).Ns s.heap.objs.size (λ_=>none):=⟨Qq,#[],_,e1,rfl,(λe he=>absurd he (by simp)),λ_=>rfl⟩;have I1:=I.laid (a:=s.heap.objs.size) (o:=.own (s.heap.objs.size+1)) (h':=s.heap.push Qq) (t':=s.toks) (λb u q=>qb _ q) (qe _) ⟨_,e1⟩;refine I1.laid (a:=s.heap.objs.size+1) (o:=.ins C s.heap.objs.size []) (t':=s.toks) (λb u q=>qb _ q) (Nat.le_of_eq (adO _ _)) ?_;have ne:s.heap.objs.size≠s.heap.objs.size+1:=qH (abT _);refine⟨by rw[ak ne,ah],qV _,ne,e2,λ_=>none,(aeA e3).at λo q=>qb _ q,λ_=>QU,λy hy=>absurd rfl hy⟩
def JP {prog:Program}{w:World}{env:Env}{e:Expr}{f:Str}{pos:Pos}{s:Shared}{Q:ze}(hb:attributeBase e f env (eval e env)=eval e env)
   (h:wpAny (model prog w) A (eval e env) (λo s₁=>wpAny (model prog w) A (getAttr o f true) Q E s₁) E s):wpAny (model prog w) A (eval (.Attribute e f pos) env) Q E s :=
 Attribute_any_ h (by rw[arm_eval_Attribute,hb])
end
def TV (K:qm)(ta:TE)(f:Str): TE:=λσ H Q=>ta σ H λx H1=>∃a C dx fs v,x=.ref a/\H1 a=some (.ins C dx fs)/\Zw K C/\bK K C f/\fs.lookup f=some v/\Q v H1
def Yd (K:qm)(ta tv:TE)(f:Str): TS:=λD σ H=>tv σ H λy H1=>ta σ H1 λx H2=>∃a C dx fs,x=.ref a/\H2 a=some (.ins C dx fs)/\Zw K C/\bK K C f/\fs.length < 1000 ∧
 D.nx σ (upd H2 a (.ins C dx (jT f y fs)))
section
variable {X:Cx}{o e value:Expr}{f:Str}{pos pos' tpos:Pos}{ta tv:TE}
def MF (he:PE X e ta)(hb:attributeBase e f X.env (eval e X.env)=eval e X.env): PE X (.Attribute e f pos) (TV X.K ta f):=by
 intro zk s σ H Q I h;refine JP hb (ZQ (he zk s σ H _ I h) λu s1 hz_=>?_);let⟨x,H1,I1,rx,a,C,dx,fs,v,ex,ea,c,n,l,q⟩:=hz_;walk_at "0j";exact Iy I1 ea c n l λu' s2 I2 ru=>⟨v,H1,I2,ru,q⟩
def fR (ha:PE X o ta)(hv:PE X value tv)(hs:swapsWith value (some (.Attribute o f pos')) pos.line X.env=pure false): PS X (.Assign [.Attribute o f pos'] value pos) (Yd X.K ta tv f):=by
 intro zk s σ H D I h;refine plainObj_wpAny_Assign_Attribute (ZQ (hv zk s σ H _ I h) λu s1 ⟨y,H1,I1,ry,q⟩=>ZQ (ha zk s1 σ H1 _ I1 q) λov s2 hz_=>?_) hs;let⟨x,H2,I2,rx,a,C,dx,fs,ex,ea,c,n,l,q2⟩:=hz_;subst ex;obtain rfl:ov=qh a:=rx;exact Iz I2 ea c n l ry λs3 I3=>⟨σ,_,I3,q2⟩
end
section
variable {X:Cx}{zk:zh}{σ:St}{H:Hp}{s:Shared}{A:Around}{E:ze}{Q:ze}{c:Value}{b:Bool}
inductive aw (K:qm)(H:Hp): V->Value->Prop where
 | non:aw K H .non (.type "NoneType")
 | bl (x:Bool):aw K H (.bl x) (.type "bool")
 | int (i:Int):aw K H (.int i) (.type "int")
 | str (x:Str):aw K H (.str x) (.type "str")
 | flt (x:UInt64):aw K H (.flt x) (.type "float")
 | lst {a:Addr} {xs:zu} (e:H a=some (.lst xs)):aw K H (.ref a) (.type "list")
 | frz {a:Addr} {o:Obj} {xs:zu} (e:H a=some (.frz o (.lst xs))):aw K H (.ref a) (.type "list")
 | tup {a:Addr} {xs:zu} (e:H a=some (.tup xs)):aw K H (.ref a) (.type "tuple")
 | dK {a:Addr} {z_:zv} (e:H a=some (.dK z_)):aw K H (.ref a) (.type "dict")
 | dT {a:Addr} {z_:zD} (e:H a=some (.dT z_)):aw K H (.ref a) (.type "dict")
 | ins {a C dx:Addr} {fs:zw} (e:H a=some (.ins C dx fs)) (cl:Zw K C) (ha:QA K (.ref C) "__class__" = some (some (.builtin "object.__class__")))
     (hn:PySem.W.specialIn K (.builtin "object.__class__") "__get__" = some (some (.builtin "getset_descriptor.__get__"))) (htk:PySem.W.takesIn K (.builtin "object.__class__")=some true)
     (hm:PySem.W.mroIn K C (.type "object")=some true):aw K H (.ref a) (.ref C)
end
structure iH (k:Nat)(A:Around): Prop where
 hd:A.handled=none
 dp:A.depth+3*k+5 < recursionLimit
 un:A.units+16*k+200 < cLine
def iH.mono {j k:Nat}{A:Around}(r:iH k A)(h:j<=k): iH j A:=⟨r.hd,by have:=r.dp;lia,by have:=r.un;lia⟩
def iH.deeper {k:Nat}{A:Around}(r:iH (k+1) A)(env:Env): iH k (A.deeper env) :=
 ⟨r.hd,by have:=r.dp;show A.depth+1+3*k+5 < _;lia,by have:=r.un;show A.units+3+16*k+200 < _;lia⟩
def IA {A:Around}{C:Addr}{us:zi}{kw:zH}: (A.under (.builtin "type.__call__" ⟨.ref C::us,kw⟩)).depth=A.depth+1:=by
 first | rfl | simp[aeB,Code.weight,Code.isCreation,Code.isGuard,Code.isCaller,Code.frames,aeC,guardIds]
def IB {A:Around}{C:Addr}{us:zi}{kw:zH}: (A.under (.builtin "type.__call__" ⟨.ref C::us,kw⟩)).units=A.units+1:=by
 first | rfl | simp[aeB,Code.cUnits,Code.frames,aeC]
def iH.make {k:Nat}{A:Around}(r:iH (k+1) A)(C:Addr)(us:zi)(kw:zH): iH k (A.under (.builtin "type.__call__" ⟨.ref C::us,kw⟩)) :=
 ⟨r.hd,by have:=r.dp;rw[IA];lia,by have:=r.un;rw[IB];lia⟩
def iH.depth {k:Nat}{A:Around}(r:iH k A): A.depth < recursionLimit:=by have:=r.dp;lia
def iH.units {k:Nat}{A:Around}(r:iH k A): A.units+64 < cLine:=by have:=r.un;lia
def KR:TA:=λ_ H Q=>Q [] H
def JQ (ta:TE)(tr:TA): TA:=λσ H Q=>ta σ H λx H1=>tr σ H1 λxs H2=>Q (x::xs) H2
section
variable {X:Cx}{e:Expr}{es:zx}{te:TE}{t:TA}{pos:Pos}
def jx:PA X [] KR:=λ_ _ _ _ H Q I h=>QY ⟨[],H,I,.nil,h⟩
def tU (ha:PE X e te)(hr:PA X es t)(hs:starEach (e::es) X.env=(false,eval e X.env)::starEach es X.env:=by rfl): PA X (e::es) (JQ te t):=by
 intro pos zk s σ H Q I h;rw[hs];show wpAny _ _ (spliced ((false,eval e X.env)::backTo pos (starEach es X.env))) _ _ s;refine Qu (ZQ (ha zk s σ H _ I h) λu s1 hz_=>?_);let⟨x,H1,I1,r1,q1⟩:=hz_;exact ZQ (hr pos zk s1 σ H1 _ I1 q1) λus s2 ⟨xs,H2,I2,r2,q2⟩=>⟨x::xs,H2,I2,.cons r1 r2,q2⟩
def Ye (t:TA): TE:=λσ H Q=>t σ H λxs H1=>xs.length<=sizeLine/\∀p,H1 p=none->Q (.ref p) (upd H1 p (.tup xs))
def Yf (t:TA): TE:=λσ H Q=>t σ H λxs H1=>xs.length<=sizeLine/\∀p,H1 p=none->Q (.ref p) (upd H1 p (.lst xs))
def fM {x1}(h:PA X es t): PE X (.Tuple es x1 pos) (Ye t):=by
 intro zk s σ H Q I hq;refine wpAny_Tuple_spliced (ZQ (h pos zk s σ H _ I hq) λus s1 ⟨xs,H1,I1,r,z,q⟩=>⟨by rw[<-r.length];exact z,?_⟩);have hf:H1 s1.heap.objs.size=none:=I1.hok.fresh (qe _);refine⟨.ref s1.heap.objs.size,upd H1 s1.heap.objs.size (.tup xs),I1.laid (t':=s1.toks) (λb u e=>qb _ e) (qe _) ?_,rfl,q _ hf⟩;exact⟨z,us,r,⟨_,qp _ rfl,rfl,_,rfl⟩⟩
def eS (h:PA X es t): PE X (.List es pos) (Yf t):=by
 intro zk s σ H Q I hq;refine wpAny_List_spliced (ZQ (h pos zk s σ H _ I hq) λus s1 ⟨xs,H1,I1,r,z,q⟩=>⟨by rw[<-r.length];exact z,?_⟩);have hf:H1 s1.heap.objs.size=none:=I1.hok.fresh (qe _);refine⟨.ref s1.heap.objs.size,upd H1 s1.heap.objs.size (.lst xs),I1.laid (t':=s1.toks) (λb u e=>qb _ e) (qe _) ?_,rfl,q _ hf⟩;exact⟨z,us,0,r,qp _ rfl⟩
end
abbrev Sp:=List V->Hp->VK->XK->Prop
abbrev CXT:=List Env->Hp->Shared->XK->Value->Shared->Prop
structure IC (P:Program)(w:World)(K:qm)(mg:zf)(base:Heap)(A:Around)(outer:zC)(s:Shared)(H:Hp): Prop where
 frames:A.frames=some outer
 mod:Mod K mg base
 bs:∀b o,base.get? b=some o->s.heap.get? b=some o/\H b=none
 bsz:base.objs.size<=s.heap.objs.size
 yT:s.heap.FunFrames base outer
 frf:∀b∈frs outer,H b=none
 hok:HOk P w H s.heap
 bare:AllBare s.gens
def CE (outer:zC)(P:Program)(w:World)(H:Hp)(s:Shared)(Q:VK)(u:Value)(s':Shared): Prop :=
 ∃v H',s'.os=s.os/\AllBare s'.gens/\Un (frs outer) [] H H' s.heap s'.heap/\HOk P w H' s'.heap/\ZX v u/\Q v H'
def CR (CX:CXT)(outer:zC)(P:Program)(w:World)(H:Hp)(s:Shared)(Q:VK)(E:XK)(r:Result)(s':Shared): Prop :=
 match r with
 | .ok (.ret u)=>CE outer P w H s Q u s'
 | .ok _=>False
 | .error e=>CX outer H s E e s'
structure lw (P:Program)(w:World)(K:qm)(mg:zf)(base:Heap)(CX:CXT)(k:Nat)(f:Addr)(fd:FuncData)(ps:zq)(sp:Sp): Prop where
 len:∀vs H Q E,sp vs H Q E->vs.length=ps.length
 run:∀(A:Around) (outer:zC) (s:Shared) (H:Hp) (args:Args) (us:zi) (vs:zu) (Q:VK) (E:XK),iH k A->IC P w K mg base A outer s H->BindsTo s fd args (ps.zip us)->Vals vs us->sp vs H Q E ->
   codeAny (model P w) A (.call (.ref f) args) (CR CX outer P w H s Q E) s
def IC.make {P:Program}{w:World}{K:qm}{mg:zf}{base:Heap}{A:Around}{outer:zC}{s:Shared}{H:Hp}(e:IC P w K mg base A outer s H)(C:Addr)(us:zi)(kw:zH):
 IC P w K mg base (A.under (.builtin "type.__call__" ⟨.ref C::us,kw⟩)) outer s H:=⟨by first | exact e.frames | (simpa [aeB,Code.envs,aeC,pushEnvs] using e.frames),e.mod,e.bs,e.bsz,e.yT,e.frf,e.hok,e.bare⟩
section
variable {X:Cx}{zk:zh}{σ:St}{H:Hp}{s s':Shared}
def ZZ.env0 (I:ZZ X zk σ H s): IC X.prog X.w X.K X.mg X.base X.A X.stack s H :=
 ⟨I.ok.frames,I.ok.mod,I.bs,Qh I.ok.bsz I.sz,I.stack,I.ED,I.hok,I.bare⟩
def ZZ.after {Q:VK}{u:Value}(I:ZZ X zk σ H s)(h:CE X.stack X.prog X.w H s Q u s'): EP X zk σ Q u s':=by
 let⟨v,H',os,bare,un,hok,r,q⟩:=h;let⟨hh,g,d,t,os'⟩:=s';obtain rfl:os'=s.os:=os;exact⟨v,H',I.call (h':=hh) (g':=g) (d':=d) (t':=t) (ch:=[]) un hok bare (λb z=>absurd z (by simp)),r,q⟩
end
def Binds (K:qm)(fd:FuncData)(ps:zq)(ds:zi): Prop :=
 ∀(s:Shared) (us:zi),K.In s.heap->(us++ds).length=ps.length->BindsTo s fd ⟨us,[]⟩ (ps.zip (us++ds))
def Binds.all {K:qm}{fd:FuncData}{ps:zq}(h:∀us:zi,us.length=ps.length->bindArgs fd ⟨us,[]⟩=pure (ps.zip us)): Binds K fd ps []:=λs us _ hl=>by
 rw[abC] at hl ⊢;exact .of_eq (h us hl)
section
variable {X:Cx}{CX:CXT}{k:Nat}{f C:Addr}{fd:FuncData}{ps:zq}{sp:Sp}{Zz:zu}{ds:zi}{E:XK}{x m:Str}{p pos apos:Pos}{e o:Expr}{es:zx}{ta:TE}{t:TA}
structure Mk (K:qm)(C f:Addr): Prop where
 makes:aeN K C=true
 init:QA K (.ref C) "__init__" = some (some (.ref f))
 fn:aey K (.ref f)=true
 kp:aeP K (.ref C)=true
end
section
abbrev zY:=List Keyword
variable {X:Cx}{CX:CXT}{k:Nat}{f C:Addr}{fd:FuncData}{ps ks:zq}{sp:Sp}{E:XK}{x m:Str}{p pos apos kpos:Pos}{e o:Expr}{es:zx}{kws:zY}{te ta:TE}{t tk:TA}{nm:Option Str}
variable {g:zi->List Value->List Value}{gV:List V->List V->List V}
end
structure mE (N P:zq)(sc:Scope): Prop where
 kind:sc.kind=.function
 co:sc.isCoroutine=false
 gen:sc.isGenerator=false
 nd:N.Nodup
 pre:N.take P.length=P
 par:∀x∈P,sc.names.lookup x=some .local\/sc.names.lookup x=some .cell
 TX:∀y∈sc.names,y.2≠.free
abbrev zZ:=Str->Option NameKind
def DZ {kindOf:zZ}{x:Str}: ∀{binds:zH} {m:zf},(∀v,(x,v)∉binds)->bindL kindOf binds m x=m x
 | [],_,_=>rfl
 | (n,v)::r,m,h=>by
   unfold bindL;rw[DZ λw hw=>h w (qB _ hw)];split
   · have:x≠n:=by rintro rfl;exact h v qG
     simp[this]
   · rfl
def D0 {kindOf:zZ}{x:Str}: ∀{binds:zH} {m:zf},(∀v,(x,v)∉binds)->bindC kindOf binds m x=m x
 | [],_,_=>rfl
 | (n,v)::r,m,h=>by
   unfold bindC;rw[D0 λw hw=>h w (qB _ hw)];split
   · rfl
   · have:x≠n:=by rintro rfl;exact h v qG
     simp[this]
def D3 {kindOf:zZ}{x:Str}{v:Value}: ∀{P:zq} {vs:zi} {i:Nat} {m:zf},P.Nodup->P[i]?=some x->vs[i]?=some v->kindOf x=some .local ->
   bindL kindOf (P.zip vs) m x=some v
 | [],_,_,_,_,h,_,_=>by simp at h
 | _::_,[],_,_,_,_,h,_=>by simp at h
 | p::P,w::vs,0,m,nd,h1,h2,hk=>by
   simp at h1 h2;subst h1;subst h2;show bindL kindOf ((p,w)::P.zip vs) m p=_;unfold bindL;rw[DZ λv hv=>(Qs.mp nd).1 (adC hv).1,if_pos hk];simp
 | p::P,w::vs,i+1,m,nd,h1,h2,hk=>by
   show bindL kindOf ((p,w)::P.zip vs) m x=_;unfold bindL;exact D3 (i:=i) (Qs.mp nd).2 (by simpa using h1) (by simpa using h2) hk
def D4 {kindOf:zZ}{x:Str}{v:Value}: ∀{P:zq} {vs:zi} {i:Nat} {m:zf},P.Nodup->P[i]?=some x->vs[i]?=some v->kindOf x≠some .local ->
   bindC kindOf (P.zip vs) m x=some v
 | [],_,_,_,_,h,_,_=>by simp at h
 | _::_,[],_,_,_,_,h,_=>by simp at h
 | p::P,w::vs,0,m,nd,h1,h2,hk=>by
   simp at h1 h2;subst h1;subst h2;show bindC kindOf ((p,w)::P.zip vs) m p=_;unfold bindC;rw[D0 λv hv=>(Qs.mp nd).1 (adC hv).1,if_neg hk];simp
 | p::P,w::vs,i+1,m,nd,h1,h2,hk=>by
   show bindC kindOf ((p,w)::P.zip vs) m x=_;unfold bindC;exact D4 (i:=i) (Qs.mp nd).2 (by simpa using h1) (by simpa using h2) hk
def start (N:zq)(vs:zu): St:=vs.map some++qq (N.length-vs.length) none
def lX (CX:CXT)(P:Program)(w:World)(K:qm)(mg:zf)(base:Heap)(N:zq)(qual:Str)(scope:Scope)(f:Addr)(cd:Value)(A:Around)(outer:zC)(s:Shared)(H:Hp)(E:XK): Cx where
 prog:=P
 w:=w
 K:=K
 mg:=mg
 base:=base
 A:=A.deeper (envOfC qual scope s.heap.objs.size f cd)
 N:=N
 s₀:=s
 H₀:=H
 env:=envOfC qual scope s.heap.objs.size f cd
 outer:=outer
 stack:=envOfC qual scope s.heap.objs.size f cd::outer
 ex:=[]
 calm:=true
 fn:=λ_=>true
 pn:=[]
 xe:=λe s'=>wpAny (model P w) (A.deeper (envOfC qual scope s.heap.objs.size f cd)) (leaving (envOfC qual scope s.heap.objs.size f cd) e) (λ_ s''=>CX outer H s E e s'') (λe' s''=>CX outer H s E e' s'') s'
def Gv {sc:Scope}{n:Nat}{x:Str}(h:sc.names.lookup x=some .cell): ∃c,(cellsFrom n sc.names []).lookup x=some c:=by
 have q:=adk sc.names n [] (.inl h);exact qZ.mp q
def KS {CX:CXT}{P:Program}{w:World}{K:qm}{mg:zf}{base:Heap}{N ps:zq}{qual:Str}{scope:Scope}{f:Addr}{cd:Value}{A:Around}{outer:zC}{s s1:Shared}{H:Hp}{E:XK}{us:zi}{vs:zu}
   (S:mE N ps scope) (hd:A.handled=none) (e0:IC P w K mg base A outer s H) (hl:vs.length=ps.length) (r:Vals vs us)
   (x:InCallC s s.heap.objs.size (bindL (envOfC qual scope s.heap.objs.size f cd).kindOf (ps.zip us) λ_=>none) (cellsFrom (s.heap.objs.size+1) scope.names []) (bindC (envOfC qual scope s.heap.objs.size f cd).kindOf (ps.zip us) λ_=>none) s1) :
   ZZ (lX CX P w K mg base N qual scope f cd A outer s H E) [] (start N vs) H s1:=by
 have hpl:ps.length<=N.length:=by have:=congrArg Qg S.pre;rw[qA] at this;lia
 let⟨h1,tk,rfl,hk⟩:=x.done;have noA:∀b:Addr,b∉(lX CX P w K mg base N qual scope f cd A outer s H E).ex:=λb z=>absurd (show b∈([]:zj) from z) (by simp);refine⟨⟨e0.mod,S.kind,rfl,rfl,qe _,λy z c h1 h2=>?_,λy hy=>?_,λy c _ h=>?_,λ_=>hd,Around.frames_deeper e0.frames,.inr ⟨rfl,rfl⟩,λb z=>absurd z (noA b),e0.bs,e0.bsz,λb _ _=>noA b,λb z=>absurd z (noA b),e0.yT,e0.frf⟩,
   rfl,e0.bare,Un.kept hk,⟨_,x.toInCall.ns,λi y v h1 h2 h3=>?_⟩,λy c h=>⟨_,x.cell y c h⟩,e0.hok.fresh (qe _),λy c h=>?_,λp hp=>absurd (show p∈([]:zh) from hp) (by simp),e0.hok.kept hk,?_⟩
 · exact name_of_addr x.apart (QP h1) (QP h2)
 · have hy:scope.names.lookup y=some .cell\/scope.names.lookup y=some .free:=hy
   rcases hy with hy | hy
   · exact Gv hy
   · exact absurd rfl (S.TX _ (QP hy))
 · exact aex (x.above y c (QP h))
 · have hi:i < vs.length:=by
     unfold start at h2;by_cases hi:i < vs.length
     · exact hi
     · rw[qF (by simpa using hi)] at h2
       rw[ada] at h2;split at h2<;>cases h2
   have ha:vs[i]?=some v:=by
     unfold start at h2;rw[qR (by simpa using hi),qx] at h2;cases e:vs[i]? with
     | none=>rw[e] at h2;cases h2
     | some a=>rw[e] at h2;cases h2;rfl
   let⟨u,hu,rv⟩:=r.get ha;have hp:ps[i]?=some y:=by
     rw[<-S.pre,List.getElem?_take_of_lt (by lia)];exact h1
   have ndP:ps.Nodup:=by rw[<-S.pre];exact S.nd.sublist (acR _ _)
   refine⟨u,rv,?_⟩;rcases S.par y (qw hp) with k | k
   · exact .inl ⟨k,D3 ndP hp hu k⟩
   · let⟨c,e⟩:=Gv (n:=s.heap.objs.size+1) k
     refine .inr ⟨.inl k,c,e,?_⟩;have q:=x.cell y c e;rw[D4 ndP hp hu (by show scope.names.lookup y≠_;rw[k];decide)] at q;exact q
 · exact e0.hok.fresh (aex (x.above y c (QP h)))
 · unfold start
   show _=N.length;rw[qd,qa,qO];lia
abbrev zy:=Array (Option Value)
def yB {CX:CXT}{P:Program}{w:World}{K:qm}{mg:zf}{base:Heap}{k:Nat}{f:Addr}{name qual:Str}{params:Arguments}{body:zS}{scope:Scope}{dV kV doc pm cdv ct oc:Value}{an od:zo}
   {osl:zy} {N ps:zq} {sp:Sp} (lk:K.lookup f=some ⟨oc,od,.func (PySem.W.fnOf name qual params body scope dV kV doc pm an cdv ct),osl⟩) (hcd:PySem.W.codeIn K cdv qual=true) (S:mE N ps scope)
   (len:∀vs H Q E,sp vs H Q E->vs.length=ps.length)
   (hbody:∀(A:Around) (outer:zC) (s:Shared) (H:Hp) (vs:zu) (Q:VK) (E:XK),iH k (A.deeper (envOfC qual scope s.heap.objs.size f cdv))->sp vs H Q E ->
     ∃t,PSs (lX CX P w K mg base N qual scope f cdv A outer s H E) body t/\t { nx:=λ_ H'=>Q .non H',rt:=Q } (start N vs) H) :
   lw P w K mg base CX (k+1) f (PySem.W.fnOf name qual params body scope dV kV doc pm an cdv ct) ps sp:=by
 refine⟨len,λA outer s H args us vs Q E hr e0 hb r hsp=>?_⟩;have hl:=len _ _ _ _ hsp;have KX:K.In s.heap:=e0.mod.kin.keeps λb o e=>(e0.bs b o e).1;have lim:s.heap.NoLimit:=e0.mod.nolimit.keeps λb o e=>(e0.bs b o e).1;have hkind:∀y∈ps.zip us,scope.names.lookup y.1=some .local\/(scope.names.lookup y.1=some .cell/\((cellsFrom (s.heap.objs.size+1) scope.names []).lookup y.1).isSome=true):=λ⟨n,v⟩ hy=>by
   rcases S.par n (adC hy).1 with q | q
   · exact .inl q
   · exact .inr ⟨q,adk _ _ _ (.inl q)⟩
 refine codeAny_call_function hr.depth (KX _ _ lk) rfl S.co S.gen rfl (PySem.W.codeRec_of KX hcd) (hb _ _ _ _ ?_);refine wpAny_newFunctionEnv_cells S.kind hkind λenv he s1 x=>?_;subst he;refine⟨lim.keeps x.toInCall.keep,codeAny_func ?_⟩;let⟨t,ht,hq⟩:=hbody A outer s H vs Q E (hr.deeper _) hsp;have I:ZZ (lX CX P w K mg base N qual scope f cdv A outer s H E) [] (start N vs) H s1:=KS S hr.hd e0 hl r x;refine wpAny_mono (ht [] s1 (start N vs) H _ I hq) (λfl s' hs=>?_) λe s' hs=>hs;have fin:∀{σ':St} {H':Hp} {v:V} {u:Value},ZZ (lX CX P w K mg base N qual scope f cdv A outer s H E) [] σ' H' s'->ZX v u->Q v H'->CE outer P w H s Q u s' :=
   λ{σ' H' v u} J rv q=>⟨v,H',J.os,J.bare,J.base,J.hok,rv,q⟩
 cases fl with
 | ret u =>
   let⟨v,σ',H',J,rv,q⟩:=hs;exact fin J rv q
 | next =>
   let⟨σ',H',J,q⟩:=hs;exact fin (v:=V.non) (u:=qD) J rfl q
 | brk =>
   let⟨_,_,_,q⟩:=hs;exact Qp q
 | cont =>
   let⟨_,_,_,q⟩:=hs;exact Qp q
section
variable {X:Cx}{x:Str}{p pos:Pos}{e:Expr}{es:zx}{t:TA}{id T:String}{r:Zc}
def tCB (r:Zc)(t:TA): TE:=λσ H Q=>t σ H λvs H1=>r vs H1 Q
def mU (hc:oV X (.builtin id) r) (hg:Gl X x) (hm:X.mg x=none) (hv:bootBuiltins x=some (.builtin id)) (ha:PA X (e::es) t) (hn:x ≠ "__name__" := by decide) (hdb:(x==("__debug__" : Str))=false:=by decide)
   (he:starEach (e::es) X.env=(false,eval e X.env)::starEach es X.env:=by rfl) (hpl:(backTo pos (starEach es X.env)).any (·.1)=false:=by rfl):PE X (.Call (.Name x p) (e::es) [] pos) (tCB r t):=by
 intro zk s σ H Q I h;refine wpAny_Call_Name_kw (mR I hg hm hv ?_ hn hdb);exact abU (ZQ (ha pos zk s σ H _ I h) λus s1 ⟨vs,H1,I1,r1,q1⟩=>hc zk s1 σ H1 vs us Q I1 r1 q1) he hpl
def kA (hc:oV X (.type T) r) (hg:Gl X x) (hm:X.mg x=none) (hv:bootBuiltins x=some (.type T)) (ha:PA X (e::es) t) (hn:x ≠ "__name__" := by decide) (hdb:(x==("__debug__" : Str))=false:=by decide)
   (he:starEach (e::es) X.env=(false,eval e X.env)::starEach es X.env:=by rfl) (hpl:(backTo pos (starEach es X.env)).any (·.1)=false:=by rfl):PE X (.Call (.Name x p) (e::es) [] pos) (tCB r t):=by
 intro zk s σ H Q I h;refine wpAny_Call_Name_kw (mR I hg hm hv ?_ hn hdb);exact qT (ZQ (ha pos zk s σ H _ I h) λus s1 ⟨vs,H1,I1,r1,q1⟩=>hc zk s1 σ H1 vs us Q I1 r1 q1) he hpl
end
end L2
namespace HT
open PySem PyProof.Rows
section
open PySem.SeqAt
open PySem.AutoSeq1 (wpAny_loadPart')
open PySem.MeetsSeq PySem.MeetsSeq2 PySem.MeetsSeq3
end
section
variable {prog:Program}{w:World}{A:Around}{E:ze}{s:Shared}
def Pz {t b:Addr}{vs ws:zi}{Q:ze}(ht:IsTup s.heap t vs.toArray)(hb:IsTup s.heap b ws.toArray)(hv:vs≠[])
   (h1:ws=[]->Q (.ref t) s) (h2:ws≠[]->Q (.ref s.heap.objs.size) { s with heap:=s.heap.push { cls:=.type "tuple",data:=.seq (vs++ws).toArray } })
   (hsz:vs.length+ws.length<=sizeLine):wpAny (model prog w) A (binaryOp .Add (.ref t) (.ref b)) Q E s:=by
 let⟨⟨cls,dd,data,sl⟩,ho,hc,n,hd⟩:=id ht;let⟨⟨cls2,dd2,data2,sl2⟩,ho2,hc2,n2,hd2⟩:=id hb;simp only at hc hd hc2 hd2;subst hc hd hc2 hd2;have e:vs.toArray++ws.toArray=(vs++ws).toArray:=by simp
 by_cases hw:ws=[]
 · exact concat_meets ⟨_,ho,rfl⟩ ⟨_,ho2,rfl⟩ noFill_tuple_add seq_tuple_add adl adb (acX _ _)
     (tuple_addW1 t b vs.toArray ws.toArray n n2 dd dd2 sl sl2 (by simpa using hv) (by simp[hw])) ⟨ho,ho2,h1 hw⟩
 · refine concat_meets ⟨_,ho,rfl⟩ ⟨_,ho2,rfl⟩ noFill_tuple_add seq_tuple_add adl adb (acX _ _)
     (tuple_addW2 t b vs.toArray ws.toArray n n2 dd dd2 sl sl2 (by simpa using hv) (by simpa using hw) (by rw[qo,qo];exact hsz)) ⟨ho,ho2,?_⟩
   rw[e];exact h2 hw
def sIx (n d:Nat): Option Int->Nat
 | none=>d
 | some v=>if v < 0 then (v+(n:Int)).toNat else min v.toNat n
def MG (n d:Nat): sIx n d none=d:=rfl
def TY (n d:Nat)(hd:d<=n)(o:Option Int): sIx n d o<=n:=by
 cases o with
 | none=>exact hd
 | some v =>
   show (if v < 0 then (v+(n:Int)).toNat else min v.toNat n)<=n;by_cases hv:v < 0
   · rw[if_pos hv];lia
   · rw[if_neg hv];exact Nat.min_le_right _ _
def JR (v:Int)(n d:Nat): (if v < 0 then max (v+(n:Int)) 0 else min v (n:Int))=((sIx n d (some v):Nat):Int):=by
 show (if v < 0 then max (v+(n:Int)) 0 else min v (n:Int))=(((if v < 0 then (v+(n:Int)).toNat else min v.toNat n):Nat):Int);by_cases hv:v < 0
 · simp only [if_pos hv];lia
 · simp only [if_neg hv];lia
def IE (lo hi:Option Int)(n:Nat): abt lo hi 1 (n:Int)=(((sIx n 0 lo:Nat):Int),((sIx n n hi:Nat):Int)):=by
 have h1:¬((1:Int) < 0):=by lia
 unfold abt;simp only [h1,if_false];refine Prod.ext ?_ ?_
 · cases lo with
   | none=>rfl
   | some v=>exact JR v n 0
 · cases hi with
   | none=>rfl
   | some v=>exact JR v n n
def IG (i j:Nat): QV (i:Int) (j:Int) 1=j-i:=by
 unfold QV;have h1:(1:Int) > 0:=by lia
 simp only [h1,if_true,Int.ediv_one];split<;>lia
def A2 {v:Value}{o:Option Int}{Q:Option Int->Shared->Prop}(p:IsPart v o)(h:Q o s): wpAny (model prog w) A (Builtin.Slice.slicePartIndex v) Q E s:=by
 cases p with
 | none=>exact slicePart_none h
 | int i t=>exact slicePart_int h
def xD {sl:Addr}{vl vu:Value}{lo hi:Option Int}{n:Nat}{Q:Int×Int×Nat->Shared->Prop}(hs:s.heap.IsSliceOf sl vl vu .none)(pl:IsPart vl lo)(pu:IsPart vu hi)
   (h:Q (((sIx n 0 lo:Nat):Int),1,sIx n n hi-sIx n 0 lo) s):wpAny (model prog w) A (acF (.ref sl) (pure (n:Int))) Q E s:=by
 let⟨os,hos,hcs,hds⟩:=id hs;unfold acF Builtin.Slice.sliceFields;refine wpAny_bind (wpAny_bind (wpAny_field hos hds (x:=vl) rfl (wpAny_bind (wpAny_field hos hds (x:=vu) rfl (wpAny_bind (wpAny_field hos hds (x:=.none) rfl (wpAny_pure ?_)))))));refine wpAny_bind (slicePart_none ?_);show wpAny _ _ (if ((1:Int)==0)=true then _ else _) _ _ s;rw[if_neg (by decide)];refine wpAny_bind (A2 pl (wpAny_bind (A2 pu (wpAny_bind (wpAny_pure ?_)))));show wpAny _ _ (match abt lo hi 1 (n:Int) with | (lo,hi)=>pure (lo,(1:Int),QV lo hi 1)) _ _ s;rw[IE lo hi n];show wpAny _ _ (pure (((sIx n 0 lo:Nat):Int),(1:Int),QV ((sIx n 0 lo:Nat):Int) ((sIx n n hi:Nat):Int) 1)) _ _ s;rw[IG];exact wpAny_pure h
def MH (xs:zp)(i k:Nat): ((abG k).filterMap λ(m:Nat)=>xs[((i:Int)+(m:Int)*1).toNat]?).toArray=((xs.toList.drop i).take k).toArray:=by
 have e:(λ(m:Nat)=>xs[((i:Int)+(m:Int)*1).toNat]?)=λm=>xs[i+m]?:=by
   funext m;have:((i:Int)+(m:Int)*1).toNat=i+m:=by lia
   rw[this]
 rw[e];have:=pick_run xs i k;rw[List.filterMap_map] at this;have e2:((λx=>xs[x]?) ∘ λx=>i+x)=λm=>xs[i+m]?:=rfl;rw[e2] at this;rw[this]
def vL {t sl:Addr}{items:zp}{vl vu:Value}{lo hi:Option Int}{Q:ze}(ht:IsTup s.heap t items)(hs:s.heap.IsSliceOf sl vl vu .none)(pl:IsPart vl lo)(pu:IsPart vu hi)
   (hw:¬(sIx items.size 0 lo=0/\sIx items.size items.size hi=items.size))
   (h:Q (.ref s.heap.objs.size) { s with heap:=s.heap.push { cls:=.type "tuple",data:=.seq ((items.toList.drop (sIx items.size 0 lo)).take (sIx items.size items.size hi-sIx items.size 0 lo)).toArray } })
   (hsz:items.size<=sizeLine):wpAny (model prog w) A (getItem (.ref t) (.ref sl)) Q E s:=by
 have JS:sizeOk (.seq ((items.toList.drop (sIx items.size 0 lo)).take (sIx items.size items.size hi-sIx items.size 0 lo)).toArray):=by
   show ((items.toList.drop (sIx items.size 0 lo)).take (sIx items.size items.size hi-sIx items.size 0 lo)).toArray.size<=sizeLine;rw[qo,qA,ade,Qo];lia
 have hj:sIx items.size items.size hi<=items.size:=TY _ _ (qe _) hi;let⟨os,hos,hcs,hds⟩:=id hs;have hTs:s.TypeIs (.ref sl) "slice" := ⟨os,hos,hcs⟩;unfold getItem
 try with_reducible refine wpAny_holding ?_
 first | refine wpAny_bind (wpAny_pure ?_) | skip
 refine wpAny_bind (wpAny_sequenceKey ht.typeIs (by decide) ?_);refine wpAny_bind (wpAny_callSpecial?_slot (name:=QZ "__getitem__") ht.typeIs Q7
   (wpAny_call_entry Q7 ht.typeIs entry_tuple_getitem ?_ (args_tuple_getitem _ _)))
 show wpAny _ _ (Builtin.Tuple.tupleItemsOf (.ref t) >>= _) _ _ s;refine wpAny_bind (tupleItemsOf_ ht ?_);refine wpAny_bind (wpAny_typeOf hTs ?_);rw[if_pos (by decide)];refine wpAny_bind (xD hs pl pu ?_);have hno:¬((((sIx items.size 0 lo:Nat):Int)==0&&(1:Int)==1&&(sIx items.size items.size hi-sIx items.size 0 lo)==items.size)=true):=by
   intro q;rw[Q9,Q9] at q;have q1:((sIx items.size 0 lo:Nat):Int)=0:=eq_of_beq q.1.1;have q2:sIx items.size items.size hi-sIx items.size 0 lo=items.size:=eq_of_beq q.2;exact hw ⟨by lia,by lia⟩
 show wpAny _ _ (if (((sIx items.size 0 lo:Nat):Int)==0&&(1:Int)==1&&(sIx items.size items.size hi-sIx items.size 0 lo)==items.size)=true then _ else _) _ _ s;rw[if_neg hno,MH]
 first
   | exact wpAny_bind (m:=Qr _) (wpAny_newObj_type (wpAny_pure ⟨_,rfl,wpAny_pure h⟩) JS)
   | exact wpAny_bind (m:=Qr _) (wpAny_newObj_type (wpAny_bind (wpAny_pure (wpAny_pure ⟨_,rfl,wpAny_pure h⟩))) JS)
   | exact wpAny_bind (wpAny_bind (m:=Qr _) (wpAny_newObj_type (wpAny_pure (wpAny_pure ⟨_,rfl,wpAny_pure h⟩)) JS))
   | exact wpAny_bind (wpAny_bind (m:=Qr _) (wpAny_newObj_type (wpAny_pure ⟨_,rfl,wpAny_pure h⟩) JS))
end
end HT
namespace L2
open PySem PySem.Spec PyProof.Rows
abbrev TO:=St->Hp->(Option Int->Hp->Prop)->Prop
def PO (X:Cx)(e:Option Expr)(t:TO): Prop :=
 ∀(zk:zh) (s:Shared) (σ:St) (H:Hp) (Q:Option Int->Hp->Prop),ZZ X zk σ H s->t σ H Q ->
   wpAny (model X.prog X.w) X.A (evalPart e X.env) (λu s'=>∃o H',ZZ X zk σ H' s'/\IsPart u o/\Q o H') X.xe s
def PB:TO:=λ_ H Q=>Q none H
def VY (t:TE): TO:=λσ H Q=>t σ H λx H1=>∃i,x=.int i/\Q (some i) H1
section
variable {X:Cx}{e:Expr}{te:TE}{lo hi:Option Expr}{tl th:TO}{pos p2:Pos}
def vM:PO X none PB:=by
 intro zk s σ H Q I h;rw[evalPart_none];exact wpAny_pure ⟨none,H,I,.none,h⟩
def pI (h:PE X e te): PO X (some e) (VY te):=by
 intro zk s σ H Q I hw;rw[evalPart_some];refine ZQ (h zk s σ H _ I hw) λu s1 hz_=>?_;let⟨x,H1,I1,r1,q1⟩:=hz_;let⟨i,rfl,q⟩:=q1;let⟨t,rfl⟩:=r1;exact⟨some i,H1,I1,.int i t,q⟩
abbrev zO:=V->Option Int->Option Int->Hp->VK->Prop
abbrev Za:=Option Int
def SlR (X:Cx)(r:zO): Prop :=
 ∀(zk:zh) (s:Shared) (σ:St) (H:Hp) (x:V) (v vl vu:Value) (lo hi:Za) (sl:Addr) (Q:VK),ZZ X zk σ H s->ZX x v->s.heap.IsSliceOf sl vl vu .none->IsPart vl lo->IsPart vu hi->r x lo hi H Q ->
   ∃T id,typeLookup (.type T) "__getitem__" = pure (some (.builtin id))/\s.TypeIs v T/\wpAny (model X.prog X.w) X.A (getItem v (.ref sl)) (EP X zk σ Q) X.xe s
def tSl (r:zO)(te:TE)(tl th:TO): TE:=λσ H Q=>te σ H λx H1=>tl σ H1 λl H2=>th σ H2 λu H3=>r x l u H3 Q
def oX {r:zO}(hr:SlR X r)(he:PE X e te)(hl:PO X lo tl)(hu:PO X hi th): PE X (.Subscript e (.Slice lo hi none p2) pos) (tSl r te tl th):=by
 intro zk s σ H Q I h;refine Subscript_ (ZQ (he zk s σ H _ I h) λv s1 hz_=>?_);let⟨x,H1,I1,r1,q1⟩:=hz_;refine wpAny_Slice (ZQ (hl zk s1 σ H1 _ I1 q1) λvl s2 ⟨l,H2,I2,pl,q2⟩=>ZQ (hu zk s2 σ H2 _ I2 q2) λvu s3 hz_=>?_);let⟨u,H3,I3,pu,q3⟩:=hz_;rw[evalPart_none];refine wpAny_pure ?_;have I4:ZZ X zk σ H3 { s3 with heap:=s3.heap.push { cls:=.type "slice",data:=.fields #[vl,vu,.none] } }:=I3.kept (t':=s3.toks) λb ob q=>qb _ q;let⟨T,id,hT,ht,hg⟩:=hr zk { s3 with heap:=s3.heap.push { cls:=.type "slice",data:=.fields #[vl,vu,.none] } } σ H3 x v vl vu l u s3.heap.objs.size Q I4 r1 (Heap.IsSliceOf.new ..) pl pu q3;show wpAny (model X.prog X.w) X.A (subscriptTail e (.Slice lo hi none p2) v (.ref s3.heap.objs.size)) (EP X zk σ Q) X.xe { s3 with heap:=s3.heap.push { cls:=.type "slice",data:=.fields #[vl,vu,.none] } };exact tail_any (ops:=[.ref s3.heap.objs.size,v]) ht hT hg (by with_unfolding_all rfl)
def yU (xs:zu)(lo hi:Za): List V:=(xs.drop (HT.sIx xs.length 0 lo)).take (HT.sIx xs.length xs.length hi-HT.sIx xs.length 0 lo)
def yC (xs:zu)(lo hi:Za): (yU xs lo hi).length<=xs.length:=by
 unfold yU;rw[qA,ade];lia
def Yg (K:qm): V->Option Int->Option Int->Hp->VK->Prop:=λx lo hi H Q=>∃a xs,x=.ref a/\SqT K H a xs ∧
 ¬(HT.sIx xs.length 0 lo=0/\HT.sIx xs.length xs.length hi=xs.length)/\∀p,H p=none->Q (.ref p) (upd H p (.tup (yU xs lo hi)))
def A5:SlR X (Yg X.K):=by
 intro zk s σ H x v vl vu lo hi sl Q I rx hs pl pu h;let⟨a,xs,rfl,hx,hw,q⟩:=h;cases rx;let⟨its,r,ht,hz⟩:=I.tuple hx;have hlen:its.toArray.size=xs.length:=by rw[qo];exact r.length.symm
 refine⟨"tuple",_,Q7.lookup,ht.typeIs,?_⟩;refine HT.vL ht hs pl pu (by rw[hlen];exact hw) ?_ (by rw[hlen];exact hz);rw[hlen];refine⟨.ref s.heap.objs.size,_,I.laid (t':=s.toks) (o:=.tup (yU xs lo hi)) (λb ob q=>qb _ q) (qe _) ?_,rfl,q _ (I.hok.fresh (qe _))⟩;exact⟨Qh (yC xs lo hi) hz,_,(r.drop (HT.sIx xs.length 0 lo)).take (HT.sIx xs.length xs.length hi-HT.sIx xs.length 0 lo),IsTup.new _ _⟩
def VZ (K:qm): R2:=λx y H Q=>∃a b xs ys,x=.ref a/\y=.ref b/\SqT K H a xs/\SqT K H b ys/\xs≠[]/\xs.length+ys.length<=sizeLine ∧
 (ys=[]->Q (.ref a) H)/\(ys≠[]->∀p,H p=none->Q (.ref p) (upd H p (.tup (xs++ys))))
def Vals.EJ {xs:zu}{us:zi}(r:Vals xs us): us=[]↔xs=[]:=by
 cases r with
 | nil=>simp
 | cons _ _=>simp
def PC:OpR X (binaryOp .Add) (VZ X.K):=by
 ac_rfl;let⟨a,b,xs,ys,rfl,rfl,ha,hb,hx,hz,q1,q2⟩:=h;cases rx;cases ry;let⟨its,r1,p1,_⟩:=I.tuple ha;let⟨its2,r2,p2,_⟩:=I.tuple hb;refine HT.Pz p1 p2 (λz=>hx (r1.EJ.mp z)) (λz=>⟨.ref a,H,I,rfl,q1 (r2.EJ.mp z)⟩) (λz=>?_) (by rw[<-r1.length,<-r2.length];exact hz);refine⟨.ref s.heap.objs.size,_,I.laid (t':=s.toks) (o:=.tup (xs++ys)) (λb ob q=>qb _ q) (qe _) ?_,rfl,q2 (λw=>z (r2.EJ.mpr w)) _ (I.hok.fresh (qe _))⟩;exact⟨by rw[qd];exact hz,_,r1.append r2,IsTup.new _ _⟩
end
def ixN (n:Nat)(i:Int): Option Nat:=if 0<=i then (if i < n then some i.toNat else none) else if -(n:Int)<=i then some (i+n).toNat else none
def atI {α:Type}(xs:List α)(i:Int): Option α:=(ixN xs.length i).bind λj=>xs[j]?
def JT {n:Nat}{i:Int}{j:Nat}(h:ixN n i=some j): seqIndex? i n=some j/\j < n/\-(n:Int)<=i/\i < n:=by
 unfold ixN at h;by_cases h0:0<=i
 · rw[if_pos h0] at h
   by_cases h1:i < n
   · rw[if_pos h1] at h
     have e:i.toNat=j:=qI h;exact⟨by rw[seqIndex_of h0 h1,e],by lia,by lia,h1⟩
   · rw[if_neg h1] at h;cases h
 · rw[if_neg h0] at h
   by_cases h1:-(n:Int)<=i
   · rw[if_pos h1] at h
     have e:(i+n).toNat=j:=qI h;exact⟨by rw[seqIndex_neg (by lia) h1,e],by lia,h1,by lia⟩
   · rw[if_neg h1] at h;cases h
def JU {α:Type}{xs:List α}{i:Int}{v:α}(h:atI xs i=some v): ∃j,seqIndex? i xs.length=some j/\xs[j]?=some v/\j < xs.length/\-(xs.length:Int)<=i/\i < xs.length:=by
 unfold atI at h;cases e:ixN xs.length i with
 | none=>rw[e] at h;cases h
 | some j =>
   rw[e] at h;let⟨h1,h2,h3,h4⟩:=JT e;exact⟨j,h1,h,h2,h3,h4⟩
def pJ {α:Type}{xs:List α}{j:Nat}{v:α}(h:xs[j]?=some v): atI xs (j:Int)=some v:=by
 have hj:j < xs.length:=(qg.mp h).1;have e:ixN xs.length (j:Int)=some j:=by
   unfold ixN;rw[if_pos (by lia),if_pos (by lia)];simp
 unfold atI;rw[e];exact h
def JV (b:Expr): Prop:=∀o i,subscripted b false o i=operate [o,i] (getItem o i)
def IxR (X:Cx)(r:R2): Prop :=
 ∀(value slice:Expr) (zk:zh) (s:Shared) (σ:St) (H:Hp) (x y:V) (v u:Value) (Q:VK),ZZ X zk σ H s->ZX x v->ZX y u->r x y H Q ->
   subscripted slice false v u=operate [v,u] (getItem v u)->wpAny (model X.prog X.w) X.A (subscriptTail value slice v u) (EP X zk σ Q) X.xe s
abbrev zW:=V->List V->Hp->VK->Prop
def MtR (X:Cx)(id:String)(r:zW): Prop :=
 ∀(zk:zh) (s:Shared) (σ:St) (H:Hp) (x:V) (xs:zu) (v:Value) (us:zi) (Q:VK),ZZ X zk σ H s->ZX x v->Vals xs us->r x xs H Q ->
   wpAny (model X.prog X.w) X.A (call (.builtin id) (v::us)) (EP X zk σ Q) X.xe s
section
variable {X:Cx}{a b:Expr}{ta tb:TE}{pos:Pos}
def V0 {r:R2}(hr:IxR X r)(ha:PE X a ta)(hb:PE X b tb)(hs:JV b): PE X (.Subscript a b pos) (tOp r ta tb):=by
 intro zk s σ H Q I h;exact Subscript_ (TQ ha hb I h λv u s2 x y H2 I2 rx ry q=>hr a b zk s2 σ H2 x y v u Q I2 rx ry q (hs _ _))
def Yh (K:qm): R2:=λx y H Q=>∃p xs i v,x=.ref p/\y=.int i/\Zx K H p xs/\atI xs i=some v/\Q v H
def Yi (K:qm): R2:=λx y H Q=>∃p xs i v,x=.ref p/\y=.int i/\SqT K H p xs/\atI xs i=some v/\Q v H
def fV:IxR X (Yh X.K):=by
 intro value slice zk s σ H x y v u Q I rx ry h hs;let⟨p,xs,i,z,rfl,rfl,hq,he,q⟩:=h;cases rx;let⟨t,rfl⟩:=ry;let⟨its,r,pl,hz⟩:=I.list hq;let⟨j,h1,h2,h3,h4,h5⟩:=JU he;let⟨w,ew,rw'⟩:=r.get h2;have hl:=r.length;have hn:=A1;have fin:EP X zk σ Q w s:=⟨z,H,I,rw',q⟩;by_cases h0:0<=i
 · have hj:i.toNat=j:=by
     rw[seqIndex_of h0 h5] at h1;exact qI h1
   exact item_listR pl.isList h0 (by lia) (by rw[hj];simpa using ew) fin hs
 · have hj:(i+(its.toArray.size:Int)).toNat=j:=by
     rw[seqIndex_neg (by lia) h4] at h1;rw[qo,<-hl];exact qI h1
   exact subscriptTail_builtinR (x:=w) pl.isList.typeIs slot_list_getitem.lookup
     (wpAny_getItem_list_neg (Q:=λr s'=>r=w/\EP X zk σ Q r s') pl.isList (by lia) (by rw[qo]<;>lia) (by lia) (by rw[hj];simpa using ew) ⟨rfl,fin⟩) hs
def iI:IxR X (Yi X.K):=by
 intro value slice zk s σ H x y v u Q I rx ry h hs;let⟨p,xs,i,z,rfl,rfl,hq,he,q⟩:=h;cases rx;let⟨t,rfl⟩:=ry;let⟨its,r,pl,hz⟩:=I.tuple hq;let⟨j,h1,h2,h3,h4,h5⟩:=JU he;let⟨w,ew,rw'⟩:=r.get h2;have hl:=r.length;have hn:=A1;have fin:EP X zk σ Q w s:=⟨z,H,I,rw',q⟩;exact subscriptTail_builtinR (x:=w) pl.typeIs slot_tuple_getitem.lookup
   (getItem_tuple (j:=j) (Q:=λr s'=>r=w/\EP X zk σ Q r s') pl (by lia) (by lia) (by rw[qo,<-hl];exact h1) (by simpa using ew) ⟨rfl,fin⟩) hs
def IH (its:zi)(n j:Nat)(u:Value): Q2 (·.setIfInBounds j u) { cls:=.type "list",data:=.seq its.toArray n }={ cls:=.type "list",data:=.seq (its.set j u).toArray n }:=by
 simp[Q2]
def ZZ.lst {zk:zh}{σ:St}{H:Hp}{s:Shared}{p:Addr}{xs:zu}(I:ZZ X zk σ H s)(h:H p=some (.lst xs)):
   ∃(its:zi) (n:Nat),Vals xs its/\s.heap.get? p=some { cls:=.type "list",data:=.seq its.toArray n }/\xs.length<=sizeLine:=by
 let⟨z,its,n,r,e⟩:=I.hok p _ h;exact⟨its,n,r,e,z⟩
def ZZ.T5 {zk:zh}{σ:St}{H:Hp}{s:Shared}{p:Addr}{xs ys:zu}{its its':zi}{n n':Nat}{f:Obj->Obj}(I:ZZ X zk σ H s)(h:H p=some (.lst xs))
   (ho:s.heap.get? p=some { cls:=.type "list",data:=.seq its.toArray n }) (hf:f { cls:=.type "list",data:=.seq its.toArray n }={ cls:=.type "list",data:=.seq its'.toArray n' }) (r:Vals ys its') (hz:ys.length<=sizeLine) (t:Nat) :
   ZZ X zk σ (upd H p (.lst ys)) { s with heap:=s.heap.update p f,toks:=t }:=by
 have e:(s.heap.update p f).get? p=some { cls:=.type "list",data:=.seq its'.toArray n' }:=by
   rw[qC f ho (by rw[hf]<;>rfl),hf]
 refine I.write (x:=p) (e:=p) (by rw[h];trivial) (.inl rfl) (λb u hb q=>(qt _ _ (qX hb)).trans q) ⟨_,e⟩ ?_;exact⟨hz,its',n',r,e⟩
def V1:V->V->V->Hp->(Hp->Prop)->Prop:=λo i v H Q=>∃p xs k j,o=.ref p/\i=.int k/\H p=some (.lst xs)/\ixN xs.length k=some j/\Q (upd H p (.lst (xs.set j v)))
def set_list:VP X V1:=by
 intro zk s σ H o i v ov iv u Q I ro ri rv h;let⟨p,xs,k,j,rfl,rfl,hp,hj,q⟩:=h;cases ro;let⟨t,rfl⟩:=ri;let⟨its,n,r,ho,hz⟩:=I.lst hp;let⟨h1,h2,h3,h4⟩:=JT hj;have hl:=r.length;have hn:=A1;have I':ZZ X zk σ (upd H p (.lst (xs.set j v))) { s with heap:=s.heap.update p (Q2 (·.setIfInBounds j u)) } :=
   I.T5 hp ho (IH its n j u) (r.set rv j) (by rw[abD];exact hz) s.toks
 by_cases h0:0<=k
 · have hk:k.toNat=j:=by
     rw[seqIndex_of h0 h4] at h1;exact qI h1
   exact PySem.W.ki_setAt ho h0 (by lia) (by rw[qo,<-hl];exact h4) (by rw[hk];exact⟨_,I',q⟩)
 · have hk:(k+(its.toArray.size:Int)).toNat=j:=by
     rw[seqIndex_neg (by lia) h3] at h1;rw[qo,<-hl];exact qI h1
   exact PySem.W.ki_setBack ho (by lia) (by rw[qo,<-hl];exact h3) (by lia) (by rw[hk];exact⟨_,I',q⟩)
def EK (lo hi:Za)(n:Nat): (sliceBounds lo hi none n).1=((HT.sIx n 0 lo:Nat):Int)/\(sliceBounds lo hi none n).2.1=((HT.sIx n n hi:Nat):Int)/\(sliceBounds lo hi none n).2.2=1:=by
 refine⟨?_,?_,rfl⟩
 · cases lo with
   | none=>simp[sliceBounds,HT.sIx]
   | some i =>
     simp only [sliceBounds,HT.sIx,aeH,show (1:Int) > 0 by decide,if_true];by_cases h:i < 0
     · simp only [h,if_true]<;>lia
     · simp only [h,if_false]<;>lia
 · cases hi with
   | none=>simp[sliceBounds,HT.sIx]
   | some i =>
     simp only [sliceBounds,HT.sIx,aeH,show (1:Int) > 0 by decide,if_true];by_cases h:i < 0
     · simp only [h,if_true]<;>lia
     · simp only [h,if_false]<;>lia
def CF (its:zi)(lo hi:Za): slicePick its.toArray lo hi none=((its.drop (HT.sIx its.length 0 lo)).take (HT.sIx its.length its.length hi-HT.sIx its.length 0 lo)).toArray:=by
 let⟨h1,h2,h3⟩:=EK lo hi its.toArray.size;unfold slicePick;rw[h1,h2,h3];simp only [sliceRange_one,pick_run,qo]<;>rfl
def Yj (K:qm): V->Option Int->Option Int->Hp->VK->Prop:=λx lo hi H Q=>∃a xs,x=.ref a/\Zx K H a xs/\∀p,H p=none->Q (.ref p) (upd H p (.lst (yU xs lo hi)))
def PD:SlR X (Yj X.K):=by
 intro zk s σ H x v vl vu lo hi sl Q I rx hs pl pu h;let⟨a,xs,rfl,hx,q⟩:=h;cases rx;let⟨its,r,ht,hz⟩:=I.list hx;have hlen:=r.length;refine⟨"list",_,slot_list_getitem.lookup,ht.isList.typeIs,?_⟩;refine wpAny_getItem_list_slice ht.isList hs pl pu .none (by simp) ?_ (by rw[qo]<;>lia);rw[CF,<-hlen];refine⟨.ref s.heap.objs.size,_,I.laid (t':=s.toks) (o:=.lst (yU xs lo hi)) (λb ob q=>qb _ q) (qe _) ?_,rfl,q _ (I.hok.fresh (qe _))⟩;exact⟨Qh (yC xs lo hi) hz,_,0,(r.drop (HT.sIx xs.length 0 lo)).take (HT.sIx xs.length xs.length hi-HT.sIx xs.length 0 lo),qp _ rfl⟩
def vN:V->Bool
 | .non=>true
 | .bl _=>true
 | .int _=>true
 | .str _=>true
 | _=>false
def eqV:V->V->Bool
 | .non,.non=>true
 | .bl a,.bl b=>a==b
 | .bl a,.int b=>(if a then 1 else 0)==b
 | .int a,.bl b=>a==(if b then 1 else 0)
 | .int a,.int b=>a==b
 | .str a,.str b=>a==b
 | _,_=>false
def T6 {A:Around}{s:Shared}{y x:V}{u v:Value}(ry:ZX y u)(rx:ZX x v)(fy:vN y=true)(fx:vN x=true): SeqAt.EqAt A s u v (eqV y x):=by
 cases y with
 | non =>
   cases ry;cases x with
   | non=>cases rx;exact SeqAt.EqAt.same _
   | bl b=>cases rx;exact SeqAt.EqAt.none_bool b
   | int b=>let⟨t,rfl⟩:=rx;exact SeqAt.EqAt.none_int b t
   | str b=>let⟨t,rfl⟩:=rx;exact SeqAt.EqAt.none_str b t
   | _=>exact absurd (show false=true from fx) qf
 | bl a =>
   cases ry;cases x with
   | non=>cases rx;exact SeqAt.EqAt.bool_none a
   | bl b=>cases rx;exact SeqAt.EqAt.bool_bool a b
   | int b=>let⟨t,rfl⟩:=rx;exact SeqAt.EqAt.bool_int a b t
   | str b=>let⟨t,rfl⟩:=rx;exact SeqAt.EqAt.bool_str a b t
   | _=>exact absurd (show false=true from fx) qf
 | int a =>
   let⟨t',rfl⟩:=ry;cases x with
   | non=>cases rx;exact SeqAt.EqAt.int_none a t'
   | bl b=>cases rx;exact SeqAt.EqAt.int_bool a t' b
   | int b=>let⟨t,rfl⟩:=rx;exact SeqAt.EqAt.int_int a t' b t
   | str b=>let⟨t,rfl⟩:=rx;exact aem a t' b t
   | _=>exact absurd (show false=true from fx) qf
 | str a =>
   let⟨t',rfl⟩:=ry;cases x with
   | non=>cases rx;exact SeqAt.EqAt.str_none a t'
   | bl b=>cases rx;exact SeqAt.EqAt.str_bool a t' b
   | int b=>let⟨t,rfl⟩:=rx;exact aen a t' b t
   | str b=>let⟨t,rfl⟩:=rx;exact SeqAt.EqAt.str_str a t' b t
   | _=>exact absurd (show false=true from fx) qf
 | _=>exact absurd (show false=true from fy) qf
def eqU (x:V)(u:Value): Bool:=match u with
 | .none=>eqV .non x
 | .bool b=>eqV (.bl b) x
 | .int i _=>eqV (.int i) x
 | .str z _=>eqV (.str z) x
 | _=>false
def MI {x y:V}{u:Value}(r:ZX y u)(f:vN y=true): eqU x u=eqV y x:=by
 cases y with
 | non=>cases r;rfl
 | bl b=>cases r;rfl
 | int i=>let⟨t,rfl⟩:=r;rfl
 | str z=>let⟨t,rfl⟩:=r;rfl
 | _=>exact absurd (show false=true from f) qf
def vO {x:V}: ∀{xs:zu} {us:zi},Vals xs us->xs.all vN=true->us.any (eqU x)=xs.any λy=>eqV y x
 | _,_,.nil,_=>rfl
 | y::xs,u::us,.cons r t,f=>by
   rw[aej,Q9] at f;rw[abg,abg,MI r f.1,vO t f.2]
def sC {A:Around}{s:Shared}{x:V}{v:Value}(rx:ZX x v)(fx:vN x=true): ∀{xs:zu} {us:zi},Vals xs us->xs.all vN=true->∀u∈us,SeqAt.EqAt A s u v (eqU x u)
 | _,_,.nil,_=>λu hu=>by cases hu
 | y::xs,u::us,.cons r t,f=>λu' hu=>by
   rw[aej,Q9] at f;rcases qk.mp hu with rfl | hu
   · rw[MI r f.1];exact T6 r rx f.1 fx
   · exact sC rx fx t f.2 u' hu
def inV (x:V)(xs:zu): Bool:=xs.any λy=>eqV y x
def rIn (K:qm)(neg:Bool): R2:=λx y H Q=>∃p xs,y=.ref p/\(Zx K H p xs\/SqT K H p xs)/\vN x=true/\xs.all vN=true/\Q (.bl (if neg then !inV x xs else inV x xs)) H
def iR:OpR X (compareOp .In) (rIn X.K false):=by
 ac_rfl;let⟨p,xs,rfl,hq,fx,fs,q⟩:=h;cases ry;rcases hq with hq | hq
 · let⟨its,r,pl,hz⟩:=I.list hq
   refine SeqAt.in_listAt (eqU x) pl.isList (λw hw=>sC rx fx r fs w (by simpa using hw)) ⟨.bl _,H,I,rfl,?_⟩;rw[show its.toArray.any (eqU x)=its.any (eqU x) by simp,vO r fs];exact q
 · let⟨its,r,pl,hz⟩:=I.tuple hq
   refine SeqAt.in_tupleAt (eqU x) pl (λw hw=>sC rx fx r fs w (by simpa using hw)) ⟨.bl _,H,I,rfl,?_⟩;rw[show its.toArray.any (eqU x)=its.any (eqU x) by simp,vO r fs];exact q
def vP:OpR X (compareOp .NotIn) (rIn X.K true):=by
 ac_rfl;let⟨p,xs,rfl,hq,fx,fs,q⟩:=h;cases ry;rcases hq with hq | hq
 · let⟨its,r,pl,hz⟩:=I.list hq
   refine SeqAt.notIn_listAt (eqU x) pl.isList (λw hw=>sC rx fx r fs w (by simpa using hw)) ⟨.bl _,H,I,rfl,?_⟩;rw[show its.toArray.any (eqU x)=its.any (eqU x) by simp,vO r fs];exact q
 · let⟨its,r,pl,hz⟩:=I.tuple hq
   refine SeqAt.notIn_tupleAt (eqU x) pl (λw hw=>sC rx fx r fs w (by simpa using hw)) ⟨.bl _,H,I,rfl,?_⟩;rw[show its.toArray.any (eqU x)=its.any (eqU x) by simp,vO r fs];exact q
def EL:oV X (.builtin "len") (λxs H Q=>∃p ys,xs=[.ref p]/\(Zx X.K H p ys\/SqT X.K H p ys)/\Q (.int ys.length) H):=by
 intro zk s σ H xs us Q I r h;let⟨p,ys,rfl,hq,q⟩:=h;let⟨u,rfl,rx⟩:=vals1 r;cases rx;have hn:=A1;rcases hq with hq | hq
 · let⟨its,r',pl,hz⟩:=I.list hq
   have hlen:=r'.length;exact Calls.call_len_list pl.isList (by simp only [qo]<;>lia) ⟨.int ys.length,H,I.tok _,⟨s.toks+1,by rw[qo,hlen]⟩,q⟩
 · let⟨its,r',pl,hz⟩:=I.tuple hq
   have hlen:=r'.length;exact len_tuple pl (by simp only [qo]<;>lia) ⟨.int ys.length,H,I.tok _,⟨s.toks+1,by rw[qo,hlen]⟩,q⟩
def ER:oV X (.builtin "len") (λxs H Q=>∃z,xs=[.str z]/\z.length<=sizeLine/\Q (.int z.length) H):=by
 intro zk s σ H xs us Q I r h;let⟨z,rfl,hz,q⟩:=h;let⟨u,rfl,t,rfl⟩:=vals1 r;have hn:=A1;exact len_str (by lia) ⟨.int z.length,H,I.tok _,⟨_,rfl⟩,q⟩
def pK:oV X (.type "list") (λxs H Q=>∃p ys,xs=[.ref p]/\(Zx X.K H p ys\/SqT X.K H p ys)/\∀l,H l=none->Q (.ref l) (upd H l (.lst ys))):=by
 intro zk s σ H xs us Q I r h;let⟨p,ys,rfl,hq,q⟩:=h;let⟨u,rfl,rx⟩:=vals1 r;cases rx;have fin:∀(its:zi),Vals ys its->ys.length<=sizeLine->∀(h':Heap) (c':Nat),(∀b o',s.heap.get? b=some o'->h'.get? b=some o') ->
     h'.get? s.heap.objs.size=some { cls:=.type "list",dict:=none,data:=.seq its.toArray c',slots:=#[] }->EP X zk σ Q (.ref s.heap.objs.size) { s with heap:=h' }:=λits r' hz h' c' kp e =>
   ⟨.ref s.heap.objs.size,_,I.laid (t':=s.toks) kp (qe _) (show gN X.prog X.w _ h' _ (.lst ys) from ⟨hz,its,c',r',e⟩),rfl,q _ (I.hok.fresh (qe _))⟩
 rcases hq with hq | hq
 · let⟨its,r',pl,hz⟩:=I.list hq
   have hlen:=r'.length;let⟨o,ho,hc,n,hd⟩:=pl.isList;exact call_list_seq p (.inl rfl) ho hc hd (λh' c' kp e=>fin its r' hz h' c' kp e) (by simp only [qo]<;>lia)
 · let⟨its,r',pl,hz⟩:=I.tuple hq
   have hlen:=r'.length;let⟨o,ho,hc,n,hd⟩:=pl;exact call_list_seq p (.inr rfl) ho hc hd (λh' c' kp e=>fin its r' hz h' c' kp e) (by simp only [qo]<;>lia)
def CG:oV X (.type "tuple") (λxs H Q=>∃p ys,xs=[.ref p]/\((Zx X.K H p ys/\∀l,H l=none->Q (.ref l) (upd H l (.tup ys)))\/(SqT X.K H p ys/\Q (.ref p) H))):=by
 intro zk s σ H xs us Q I r h;let⟨p,ys,rfl,h⟩:=h;let⟨u,rfl,rx⟩:=vals1 r;cases rx;rcases h with ⟨hq,q⟩ | ⟨hq,q⟩
 · let⟨its,r',pl,hz⟩:=I.list hq
   have hlen:=r'.length;refine call_tuple_list pl.isList (λh' kp=>?_) (by simp only [qo]<;>lia);have I1:ZZ X zk σ H { s with heap:=h' }:=I.kept (t':=s.toks) kp;have I2:ZZ X zk σ (upd H h'.objs.size (.tup ys)) { s with heap:=h'.push { cls:=.type "tuple",data:=.seq its.toArray } } :=
     I1.laid (t':=s.toks) (λb o e=>qb _ e) (qe _) (show gN X.prog X.w _ _ _ (.tup ys) from ⟨hz,its,r',IsTup.new _ _⟩)
   exact⟨.ref h'.objs.size,_,I2,rfl,q _ (I1.hok.fresh (qe _))⟩
 · let⟨its,r',pl,hz⟩:=I.tuple hq
   exact call_tuple_same pl ⟨.ref p,H,I,rfl,q⟩
def tyV (K:qm)(T:String)(x:V)(H:Hp): Prop:=match x with
 | .str _=>T = "str"
 | .int _=>T = "int"
 | .ref p=>(T = "list" ∧ ∃xs,Zx K H p xs)\/(T = "tuple" ∧ ∃o,K.lookup p=some o/\o.cls=.type "tuple" ∧ o.dict=none) ∨
     (T = "dict" ∧ ((∃z_,H p=some (.dK z_))\/∃z_,H p=some (.dT z_)))\/(T = "set" ∧ ∃S n,H p=some (.set S n))
 | _=>False
def T7 {zk:zh}{σ:St}{H:Hp}{s:Shared}{T:String}{x:V}{v:Value}(I:ZZ X zk σ H s)(r:ZX x v)(ty:tyV X.K T x H):
   s.TypeIs v T/\∀a,v=.ref a->∃ob,s.heap.get? a=some ob/\ob.dict=none:=by
 cases x with
 | str z =>
   let⟨t,rfl⟩:=r;cases (show T = "str" from ty);exact⟨typeIs_str s z t,λ_ e=>nomatch e⟩
 | int i =>
   let⟨t,rfl⟩:=r;cases (show T = "int" from ty);exact⟨typeIs_int s i t,λ_ e=>nomatch e⟩
 | ref p =>
   cases r;rcases ty with ⟨rfl,xs,hq⟩ | ⟨rfl,o,hk,hc,hd⟩ | ⟨rfl,hk⟩ | ⟨rfl,S,n,hk⟩
   · let⟨its,_,pl,_⟩:=I.list hq
     refine⟨pl.isList.typeIs,λa e=>?_⟩;cases e;let⟨o,n,e,c,hd,_⟩:=pl;exact⟨o,e,hd⟩
   · refine⟨⟨o,I.kIn p o hk,hc⟩,λa e=>?_⟩
     cases e;exact⟨o,I.kIn _ o hk,hd⟩
   · have z:∃o,s.heap.get? p=some o/\o.ExactDict:=by
       rcases hk with ⟨z_,hk⟩ | ⟨z_,hk⟩
       · let⟨_,_,_,_,o,_,_,e,ex,_⟩:=I.hok p _ hk
         exact⟨o,e,ex⟩
       · let⟨_,_,_,_,o,_,_,e,ex,_⟩:=I.hok p _ hk
         exact⟨o,e,ex⟩
     let⟨o,e,ex⟩:=z;refine⟨⟨o,e,ex.1⟩,λa e2=>?_⟩;cases e2;exact⟨o,e,ex.2.1⟩
   · let⟨o,_,_,_,e,ex,_⟩:=I.hok p _ hk
     refine⟨⟨o,e,ex.1⟩,λa e2=>?_⟩;cases e2;exact⟨o,e,ex.2.1⟩
 | _=>exact Qp ty
def tBM (K:qm)(T:String)(r:zW)(to:TE)(t:TA): TE:=λσ H Q=>to σ H λx H1=>tyV K T x H1/\t σ H1 λxs H2=>r x xs H2 Q
variable {o e:Expr}{es:zx}{to:TE}{t:TA}{name:Str}{apos cpos:Pos}{T id:String}{r:zW}
def D6 (pa:PlainAttrs T) (slot:Slot T name id) (hty:typeOf (.builtin id)=pure (.type "method_descriptor")) (hm:MtR X id r) (ho:PE X o to) (ha:PA X (e::es) t)
   (hbase:attributeBase o name X.env (eval o X.env)=eval o X.env:=by rfl)
   (hfew:((backTo cpos (starEach (e::es) X.env)).all (λx=>!x.1)&&(backToKw cpos (keywordEach [] X.env)).all (λx=>x.1.isSome)
     && decide ((e::es).length+([]:zY).length+(if ([]:zY).isEmpty then 0 else 1) < 30))=true:=by rfl)
   (hline:(apos.endLine==cpos.line)=true:=by rfl) (hs:starEach (e::es) X.env=(false,eval e X.env)::starEach es X.env:=by rfl) (hplain:(backTo cpos (starEach es X.env)).any (·.1)=false:=by rfl) :
   PE X (.Call (.Attribute o name apos) (e::es) [] cpos) (tBM X.K T r to t):=by
 intro zk s σ H Q I h;refine wpAny_Call_method_late hbase hfew hline rfl (ZQ (ho zk s σ H _ I h) λv s1 hz_=>?_);let⟨x,H1,I1,r1,ty,q1⟩:=hz_;let⟨h1,h2⟩:=T7 I1 r1 ty;refine⟨T,id,pa,slot,hty,h1,h2,?_⟩;have hA:=ha cpos zk s1 σ H1 _ I1 q1;rw[hs] at hA ⊢;refine QS (by show (false || (backTo cpos (starEach es X.env)).any (·.1))=false;rw[hplain]<;>rfl) (Qx ?_);exact ZQ hA λus s2 ⟨vs,H2,I2,r2,q2⟩=>hm zk s2 σ H2 x vs v us Q I2 r1 r2 q2
end
def MtM (X:Cx)(id:String)(r:zW): Prop :=
 ∀(zk:zh) (s:Shared) (σ:St) (H:Hp) (x:V) (xs:zu) (v:Value) (us:zi) (Q:VK),ZZ X zk σ H s->ZX x v->Vals xs us->r x xs H Q ->
   wpAny (model X.prog X.w) X.A (call (.builtin id) (v::us)) (EP X zk σ Q) X.xe s
def Vals.one:∀{x:V} {us:zi},Vals [x] us->∃u,us=[u]/\ZX x u:=λh=>vals1 h
def Vals.rep {xs:zu}{us:zi}(h:Vals xs us): ∀k:Nat,Vals (qq k xs).flatten (qq k us).flatten
 | 0=>.nil
 | k+1=>by
   rw[QB,QB,Q0,Q0];exact Vals.append h (Vals.rep h k)
def foldl_rep (its:zi): ∀(k:Nat) (acc:zi),
   aeQ (λx1 x2=>x1++x2) acc.toArray (qq k its.toArray)=(acc++(qq k its).flatten).toArray
 | 0,acc=>by simp
 | k+1,acc=>by
   have e:acc.toArray++its.toArray=(acc++its).toArray:=by simp
   have e2:(acc++its)++(qq k its).flatten=acc++(qq (k+1) its).flatten:=by
     rw[QB,Q0,acS]
   rw[<-e2,<-foldl_rep its k (acc++its),<-e,QB,List.foldl_cons]
section
variable {X:Cx}{zk:zh}{σ:St}{H:Hp}{s:Shared}{l b:Addr}{xs ys zs:zu}
def ZZ.Yk {its its':zi}{n:Nat}{f:zp->Array Value}{t':Nat}(I:ZZ X zk σ H s)(hH:H l=some (.lst xs))
   (e:s.heap.get? l=some { cls:=.type "list",data:=.seq its.toArray n }) (hf:f its.toArray=its'.toArray) (hv:Vals ys its') (hz:ys.length<=sizeLine) :
   ZZ X zk σ (upd H l (.lst ys)) { s with heap:=s.heap.update l (Q2 f),toks:=t' }:=by
 have q:=PySem.IsL.update e f;rw[hf] at q;refine I.write (x:=l) (e:=l) (by rw[hH];exact trivial) (.inl rfl) (λb' u hb hu=>(qt s.heap (Q2 f) (qX hb)).trans hu) ⟨_,q⟩ ?_;exact⟨hz,its',_,hv,q⟩
def ZZ.PF {its:zi}{t':Nat}(I:ZZ X zk σ H s)(hv:Vals ys its)(hz:ys.length<=sizeLine):
   ZZ X zk σ (upd H s.heap.objs.size (.lst ys)) { s with heap:=s.heap.push { cls:=.type "list",data:=.seq its.toArray },toks:=t' } :=
 I.laid (λ_ _ q=>qb _ q) (qe _) ⟨hz,its,0,hv,qp _ rfl⟩
def ZZ.fresh (I:ZZ X zk σ H s): H s.heap.objs.size=none:=I.hok.fresh (qe _)
def ZZ.PH (I:ZZ X zk σ H s)(hH:H l=some (.lst xs)): xs.length<=sizeLine/\∃(its:zi) (n:Nat),Vals xs its/\xs.length=its.length/\s.heap.get? l=some { cls:=.type "list",data:=.seq its.toArray n }:=by
 let⟨z,its,n,r,e⟩:=I.hok l _ hH;exact⟨z,its,n,r,r.length,e⟩
def MJ {n:Nat}(h:n<=sizeLine): abx n=false:=by
 unfold abx;exact decide_eq_false (by lia)
end
section
variable {X:Cx}
def EV:V->List V->Hp->VK->Prop:=λx vs H Q=>∃l xs y,x=.ref l/\vs=[y]/\H l=some (.lst xs)/\xs.length < sizeLine/\Q .non (upd H l (.lst (xs++[y])))
def mO:MtM X "list.append" EV:=by
 intro zk s σ H x vs v us Q I rx rv h;let⟨l,xs,y,rfl,rfl,hH,hz,q⟩:=h;cases rx;let⟨u,rfl,ru⟩:=rv.one;let⟨z,its,n,r,hl,e⟩:=I.PH hH;refine call_meets F.slot_list_append ⟨_,e,rfl⟩ F.entry_list_append (F.args_list_append_2 _ _) (PySem.list_append l its.toArray n u (by rw[qo];lia)) ⟨e,?_⟩;refine⟨.non,_,I.Yk (its':=its++[u]) hH e (by simp) (r.append (.cons ru .nil)) ?_,rfl,q⟩;rw[qd,List.length_singleton];lia
def Yl:R2:=λx y H Q=>∃l b xs zs,x=.ref l/\y=.ref b/\H l=some (.lst xs)/\H b=some (.lst zs)/\xs.length+zs.length<=sizeLine/\∀p,H p=none->Q (.ref p) (upd H p (.lst (xs++zs)))
def EW:OpR X (binaryOp .Add) Yl:=by
 ac_rfl;let⟨l,b,xs,zs,rfl,rfl,hH,hB,hz,q⟩:=h;cases rx;cases ry;let⟨z,its,n,r,hl,e⟩:=I.PH hH;let⟨z2,its2,n2,r2,hl2,e2⟩:=I.PH hB;refine PySem.P.add_list e e2 ?_ (by rw[qo,qo];lia);have ea:its.toArray++its2.toArray=(its++its2).toArray:=by simp
 rw[ea];exact⟨.ref _,_,I.PF (t':=s.toks) (r.append r2) (by rw[qd];lia),rfl,q _ I.fresh⟩
def Ym:R2:=λx y H Q=>∃l k xs,x=.ref l/\y=.int k/\H l=some (.lst xs)/\-(2^63)<=k/\k < 2^63/\xs.length*k.toNat<=sizeLine ∧
 ∀p,H p=none->Q (.ref p) (upd H p (.lst (qq k.toNat xs).flatten))
def len_rep {α:Type}(xs:List α)(k:Nat): (qq k xs).flatten.length=k*xs.length:=by
 induction k with
 | zero=>simp
 | succ k ih=>rw[QB,Q0,qd,ih,Nat.succ_mul,aew]
def II:OpR X (binaryOp .Mult) Ym:=by
 ac_rfl;let⟨l,k,xs,rfl,rfl,hH,h1,h2,hz,q⟩:=h;cases rx;let⟨t,rfl⟩:=ry;let⟨z,its,n,r,hl,e⟩:=I.PH hH;have hlen:its.toArray.size*k.toNat<=sizeLine:=by rw[qo,<-hl];exact hz
 have hcap:¬its.toArray.size*k.toNat > (2^63-1) / 8:=by
   have:(sizeLine:Nat)<=(2^63-1) / 8:=by decide
   lia
 have hfit:¬(!Builtin.List.listFitsIndex k)=true:=by
   rw[fitsIndex_both h1 h2];exact qf
 have V2:¬abx (its.toArray.size*k.toNat)=true:=by
   rw[MJ hlen];exact qf
 have hnew:aeQ (λx1 x2=>x1++x2) #[] (qq (if its.toArray.isEmpty=true then 0 else k.toNat) its.toArray)=(qq k.toNat its).flatten.toArray:=by
   have f0:∀m:Nat,aeQ (λx1 x2=>x1++x2) #[] (qq m its.toArray)=(qq m its).flatten.toArray:=λm=>by
     have:=foldl_rep its m [];rw[List.nil_append] at this;exact this
   rw[f0];cases its with
   | nil=>simp
   | cons a r'=>rw[if_neg (by simp)]
 refine wpAny_binaryOp_repeat_ref (T := "list") (U := "int") (by decide) ⟨_,e,rfl⟩ (λs'=>typeIs_int s' k t) noFill_list_mul F.fills_int_mul F.slot_int_rmul repeat_list F.slot_int_index.lookup
   (call_meets F.slot_int_rmul (typeIs_int s k t) F.entry_int_rmul (F.args_int_rmul_2 _ _) (int___rmul___int_list k t l its.toArray n)
     ⟨e,rfl,⟨_,e,rfl⟩,call_meets F.slot_list_mul ⟨_,e,rfl⟩ F.entry_list_mul (F.args_list_mul_2 _ _) (AutoListH.list___mul___list_int_3 l its.toArray n k t hfit hcap V2) ⟨e,?_⟩⟩)
 rw[hnew];exact⟨.ref _,_,I.PF (t':=s.toks) (r.rep k.toNat) (by rw[len_rep,Nat.mul_comm];exact hz),rfl,q _ I.fresh⟩
end
section
variable {prog:Program}{w:World}{A:Around}{E:ze}{s:Shared}
end
section
variable {X:Cx}
end
end L2
namespace Att
open PySem PySem.W PySem.Calls PyProof.Rows
def yV {P:Params}{h:Heap}: ∀(ns:zm) (vs:zi),WellAll P h vs (ns.map WData.int)->IntsAre vs ns:=by
 intro ns
 induction ns with
 | nil =>
   intro vs w;rw[adn] at w;cases w;exact .nil
 | cons n ns ih =>
   intro vs w;rw[Qb] at w;cases w with
   | cons a b =>
     cases a;exact .cons _ _ (ih _ b)
def KU {l:OpenLaw}{n:Nat}(hn:l.most=some n){P:Params}{h:Heap}{args:List WData}{vals:zi}
   (hpre:l.row.toRowW.claim.pre args=true) (hwl:WellAll P h vals args) :
   ∃a vs ns,vals=[qh a]/\args=[WData.list (ns.map WData.int)]/\h.get? a=some { cls:=.type "list",data:=.seq vs.toArray }/\IntsAre vs ns/\ns.length<=n:=by
 have hsh:WShape.hasAll [] args [.list .int]=true:=(pre_splitW hpre).1;have hc:l.pre.holds [] { args:=args }=true:=(pre_splitW hpre).2;let⟨d,r,rfl,h1,h2⟩:=hasAllW_cons hsh;obtain rfl:=hasAllW_nil h2;let⟨xs,rfl,h3⟩:=hasW_list h1;let⟨ns,rfl⟩:=items_int h3;have hlen:ns.length<=n:=by
   unfold OpenLaw.pre at hc;have h4:(WTm.not (.lt (.lit (.int (n:Int))) (.len (.arg 0)))).holds [] { args:=[.list (ns.map .int)] }=true:=by
     have h4:=(holds_andW hc).1;rw[hn] at h4;exact h4
   have h5:=condW_of h4 (w_not (w_lt w_lit (w_len_list (w_arg rfl))));rw[qa] at h5;refine Nat.le_of_not_lt λq=>?_;have q':(n:Int) < ((ns.length:Nat):Int):=by lia
   first
     | (rw[decide_eq_true q'] at h5;exact absurd h5 (by decide))
     | (simp at h5;lia)
 cases hwl with
 | cons w1 w2 =>
   cases w2;cases w1 with
   | list ho hall=>exact⟨_,_,ns,rfl,rfl,ho,yV ns _ hall,hlen⟩
def KW (l:OpenLaw)(args:List WData): l.row.toRowW.claim.post args (.bool true) args=true :=
 postW_of (r:=l.row.toRowW) (X:=(true==true))
   (show WShape.has [] (.bool true) .bool=true by first | rfl | decide | simp[WShape.has,WShape.arms,WShape.armsAll])
   (show (WTm.eq .res (.lit (.bool true))).value [] { args:=args,res:=some (.bool true),after:=args }=some (.bool (true==true)) from w_eq_bool (w_res rfl) w_lit) rfl
def Gw {l:OpenLaw}{n:Nat}{q:Program}{loose:List Str}{XP:(Str->Option Value)->Heap->Prop}{YP:World->Heap->Prop}{d:DefRec}
   (hn:l.most=some n) (hdf:d.params.defaults=[])
   (call:∀(w:World) (s₀ s₁:Shared) (mg mb:zf) (fa:Addr) (o:Obj) (pm cd doc:Value) (a:Addr) (vs:zi) (ns:zm),
     Ground q loose [] XP w s₀ mg mb s₁.heap->YP w s₁.heap ->
     s₁.heap.get? fa=some o->o.data=.func (docDef d.name d.params d.body d.scope pm cd doc)->s₁.heap.CodeRec cd d.name->mg d.name=some (.ref fa) ->
     s₁.heap.get? a=some { cls:=.type "list",data:=.seq vs.toArray }->IntsAre vs ns->ns.length<=n->s₁.gens=#[] ->
     codeAny (model l.prog w) callerA (.call (.ref fa) ⟨[.ref a],[]⟩) (λr s'=>r=.ok (.ret (.bool true))/\OldK s₁.heap s'.heap/\s'.os=s₁.os/\AllBare s'.gens) s₁) :
   WalkO q loose XP YP l.row.toRowW d [] (λf vs=>aeR f vs):=by
 intro w s₀ s₁ mg mb G Y fa o pm cd doc dV kV ho hd hcd hD hmg hg args vals as hpre hlay hrd hwl hlo;obtain rfl:dV=.none:=Dflts.none hD hdf;obtain rfl:kV=.none:=Dflts.noKw hD;let⟨a,vs,ns,rfl,rfl,hobj,hints,hlen⟩:=KU hn hpre hwl;refine enter_call (codeAny_mono (call w s₀ s₁ mg mb fa o pm cd doc a vs ns G Y ho (fd_plain hd) hcd hmg hobj hints hlen hg) λr s' hq=>?_);let⟨rfl,h2,h3,h4⟩:=hq;exact⟨.inl ⟨.bool true,.bool true,[],rfl,λ_=>rfl,.bool true,KW l _,λ_=>⟨aeD,λ_ hm=>(nomatch hm)⟩⟩,h2,h3,h4⟩
section
variable {prog:Program}{w:World}{A:Around}{E:ze}{s:Shared}{K:Frag}
end
end Att
namespace L2
open PySem PySem.Spec PyProof.Rows
def D8:∀{vs:zi} {ns:zm},IntsAre vs ns->Vals (ns.map V.int) vs
 | _,_,.nil=>.nil
 | _,_,.cons n t h=>.cons ⟨t,rfl⟩ (D8 h)
def Only (H:Hp): Prop:=∀b,H b=none\/∃o xs,H b=some (.frz o (.lst xs))
def MK {P:Program}{w:World}{K:qm}{mg mb:zf}{CX:CXT}{k:Nat}{fa a:Addr}{fd:FuncData}{x:Str}{sp:Sp}{s₁:Shared}{vs:zi}{ns:zm}
   (KX:K.In s₁.heap) (hns:s₁.heap.Ns mainGlobals mg) (hb:s₁.heap.Ns builtinsNs mb) (hbb:∀x:Str,x ≠ "__name__" -> mb x=bootBuiltins x) (hlim:s₁.heap.NoLimit) (hg:s₁.gens=#[])
   (ha:s₁.heap.get? a=some { cls:=.type "list",data:=.seq vs.toArray }) (hi:IntsAre vs ns) (hl:ns.length<=sizeLine) (hr:iH k callerA)
   (F:∀base:Heap,K.In base->base.Ns mainGlobals mg->lw P w K mg base CX k fa fd [x] sp) (hbind:∀(s:Shared) (u:Value),BindsTo s fd ⟨[u],[]⟩ [(x,u)])
   (hsp:∀H:Hp,Only H->Zx K H a (ns.map V.int)->sp [.ref a] H (λv _=>v=.bl true) λ_ _ _=>False)
   (hCX:∀H e s',CX [] H s₁ (λ_ _ _=>False) e s'->False) :
   codeAny (model P w) callerA (.call (.ref fa) ⟨[.ref a],[]⟩) (λr s'=>r=.ok (.ret (.bool true))/\OldK s₁.heap s'.heap/\s'.os=s₁.os/\AllBare s'.gens) s₁:=by
 have rv:=D8 hi;have lenV:=hi.length;have core:∀H:Hp,Only H->Zx K H a (ns.map V.int)->HOk P w H s₁.heap->(∀b,H b≠none->b=a)->(H a≠none->K.lookup a=none) ->
     codeAny (model P w) callerA (.call (.ref fa) ⟨[.ref a],[]⟩) (λr s'=>r=.ok (.ret (.bool true))/\OldK s₁.heap s'.heap/\s'.os=s₁.os/\AllBare s'.gens) s₁:=by
   intro H hO hS hok hA hK;have JW:∀{b:Addr} {o:Obj},s₁.heap.get? b=some o->H b=none->(EC s₁.heap H).get? b=some o:=λe n=>Mh e n;have noA:∀{b:Addr} {o:Obj} {es:Array DictEntry} {ep:Nat},s₁.heap.get? b=some o->o.data=.dict es ep->H b=none:=λ{b o es ep} e d=>by
     cases q:H b with
     | none=>rfl
     | some u =>
       have e':b=a:=hA b (by rw[q];simp);subst e';rw[ha] at e;cases e;have d':Data.seq vs.toArray _=Data.dict es ep:=d;cases d'
   have nsK:∀{b:Addr} {m:zf},s₁.heap.Ns b m->(EC s₁.heap H).Ns b m:=λ{b m} ⟨o,es,ep,e,d,r⟩=>⟨o,es,ep,JW e (noA e d),d,r⟩;have hKb:K.In (EC s₁.heap H):=λb o e=>JW (KX b o e) (by
     cases q:H b with
     | none=>rfl
     | some u =>
       have e':b=a:=hA b (by rw[q];simp);subst e';rw[hK (by rw[q];simp)] at e;cases e)
   have hM:Mod K mg (EC s₁.heap H):=⟨hKb,nsK hns,⟨mb,nsK hb,hbb⟩,by let⟨mc,h1,h2⟩:=hlim;exact ⟨mc,nsK h1,h2⟩⟩;have e0:IC P w K mg (EC s₁.heap H) callerA [] s₁ H:=⟨rfl,hM,λb o e=>Pr e,Nat.le_of_eq (KI _ _),trivial,λb hb=>absurd (show b∈([]:zj) from hb) (by simp),hok,.of_eq hg⟩;refine codeAny_mono ((F _ hKb (nsK hns)).run callerA [] s₁ H ⟨[.ref a],[]⟩ [.ref a] [.ref a] _ _ hr e0 (hbind s₁ (.ref a)) (.cons rfl .nil) (hsp H hO hS)) λr s' h=>?_;cases r with
   | error e=>exact(hCX H e s' h).elim
   | ok fl =>
     cases fl with
     | next=>exact Qp h
     | brk=>exact Qp h
     | cont=>exact Qp h
     | ret u =>
       let⟨v,H',os,bare,un,hok',r',q⟩:=h;have q':v=.bl true:=q;subst q';obtain rfl:u=aeo true:=r';refine⟨rfl,OldK.of_keep λb o e=>?_,os,bare⟩;cases q:H b with
       | none=>exact un.keep b o e q (by intro z;exact absurd (show b∈([]:zj) from z) (by simp)) (by simp)
       | some u =>
         rcases hO b with z | ⟨ob,xs,z⟩
         · rw[q] at z;cases z
         · have z2:=un.uM b ob _ z
           let⟨e1,_⟩:=hok b _ z;let⟨e2,_⟩:=hok' b _ z2;rw[e] at e1;cases e1;exact e2
 cases hk:K.lookup a with
 | some o =>
   have e:=KX a o hk;rw[ha] at e;cases e;refine core (λ_=>none) (λ_=>.inl rfl) (.inr ⟨_,vs.toArray,_,hk,rfl,rfl,rfl,by rw[qo,lenV];exact hl,by simpa using rv⟩) (λb u z=>by have z':(none:Option HO)=some u:=z;cases z') (λb z=>absurd rfl z) λz=>absurd rfl z
 | none =>
   refine core (λb=>if b=a then some (.frz { cls:=.type "list",data:=.seq vs.toArray } (.lst (ns.map V.int))) else none) (λb=>?_) (.inl (.inr ⟨{ cls:=.type "list",data:=.seq vs.toArray },if_pos rfl⟩)) (λb u z=>?_) (λb z=>?_) λ_=>hk
   · by_cases hb:b=a
     · exact .inr ⟨_,_,if_pos hb⟩
     · exact .inl (if_neg hb)
   · by_cases hb:b=a
     · have z':=(if_pos hb).symm.trans z
       cases z';subst hb;exact⟨ha,by rw[qa];exact hl,vs,_,rv,ha⟩
     · have z':=(if_neg hb).symm.trans z
       cases z'
   · by_cases hb:b=a
     · exact hb
     · exact absurd (if_neg hb) z
def PJ {l:PySem.W.OpenLaw}{n k:Nat}{q:Program}{loose:zq}{XP:(Str->Option Value)->Heap->Prop}{YP:World->Heap->Prop}{d:DefRec}{K:Params->qm}{CX:World->CXT}{sp:World->Sp}{x:Str}
   (hn:l.most=some n) (hn2:n<=sizeLine) (hdf:d.params.defaults=[]) (hr:iH k callerA)
   (hY:∀(w:World) (h:Heap),YP w h->(K w.params).In h)
   (F:∀(w:World) (mg:zf) (fa:Addr) (h:Heap),(K w.params).In h->h.Ns mainGlobals mg->mg d.name=some (.ref fa) ->
     ∃fd:FuncData,(∀(s:Shared) (u:Value),BindsTo s fd ⟨[u],[]⟩ [(x,u)]) ∧
       ∀base:Heap,(K w.params).In base->base.Ns mainGlobals mg->lw l.prog w (K w.params) mg base (CX w) k fa fd [x] (sp w))
   (hsp:∀(w:World) (H:Hp) (a:Addr) (ns:zm),ns.length<=n->Only H->Zx (K w.params) H a (ns.map V.int)->sp w [.ref a] H (λv _=>v=.bl true) λ_ _ _=>False)
   (hCX:∀(w:World) (H:Hp) (s:Shared) (e:Value) (s':Shared),CX w [] H s (λ_ _ _=>False) e s'->False) :
   PySem.W.WalkO q loose XP YP l.row.toRowW d [] (λf vs=>aeR f vs):=by
 refine Att.Gw hn hdf λw s₀ s₁ mg mb fa o pm cd doc a vs ns G Y ho hd hcd hmg hobj hints hlen hg=>?_;have KX:=hY w _ Y;let⟨fd,hb,hF⟩:=F w mg fa _ KX G.T.g hmg;exact MK KX G.T.g G.T.b G.T.builtins G.T.nolimit hg hobj hints (Qh hlen hn2) hr hF hb (λH hO hS=>hsp w H a ns hlen hO hS) λH e s'=>hCX w H s₁ e s'
def inClass (s:Stmt)(j:Nat): Stmt:=match s with
 | .ClassDef _ _ _ body _ _ _ _ _ _ _=>body.getD j (.Pass ⟨0,0,0,0⟩)
 | _=>.Pass ⟨0,0,0,0⟩
def fW (s:Stmt): Arguments:=match s with
 | .FunctionDef _ a _ _ _ _ _ _ _ _=>a
 | _=>{ posonlyargs:=[],args:=[],vararg:=none,kwonlyargs:=[],kw_defaults:=[],kwarg:=none,defaults:=[] }
def dO (s:Stmt): List Stmt:=match s with
 | .FunctionDef _ _ b _ _ _ _ _ _ _=>b
 | _=>[]
def cQ (s:Stmt): Scope:=match s with
 | .FunctionDef _ _ _ _ _ _ sc _ _ _=>sc
 | _=>{ kind:=.function,names:=[],isGenerator:=false,isCoroutine:=false }
abbrev E0:XK:=λ_ _ _=>False
section
variable {P:Program}{w:World}{K:qm}{mg:zf}{base:Heap}
end
section
variable {X:Cx}
def pv (i:Nat) {x:Str} {pos:Pos} (hN:X.N[i]?=some x:=by rfl) (hv:Vis X.env.scope x:=by first | exact acG rfl | exact aci (acG rfl) | exact aci (aci rfl)) (hd:(x==("__debug__" : Str))=false:=by decide)
 (hcd:(x==("__classdict__" : Str))=false:=by decide):PE X (.Name x pos) (Tz i):=TB hN hv hd hcd
end
def iB {A B:Prop}(h:B): if false=true then A else B:=by
 rw[if_neg qf];exact h
def eZ {A B:Prop}(h:A): if true=true then A else B:=by
 rw[if_pos rfl];exact h
def Zy (H H':Hp): Prop:=∀b o,H b=some o->H' b=some o
def Zy.refl (H:Hp): Zy H H:=λ_ _ h=>h
def Zy.trans {H H1 H2:Hp}(a:Zy H H1)(b:Zy H1 H2): Zy H H2:=λc o h=>b c o (a c o h)
def Zy.free {H H':Hp}(e:Zy H H'){l:Addr}(h:H' l=Option.none): H l=Option.none:=by
 cases q:H l with
 | none=>rfl
 | some o =>
   rw[e l o q] at h;cases h
def Zy.seq {K:qm}{H H':Hp}{a:Addr}{xs:zu}(e:Zy H H')(h:Zx K H a xs): Zx K H' a xs:=by
 rcases h with (h | ⟨o,h⟩) | h
 · exact .inl (.inl (e _ _ h))
 · exact .inl (.inr ⟨o,e _ _ h⟩)
 · exact .inr h
section
variable {κ:Type}[DecidableEq κ]
def fE (z_:List (κ×V))(k:κ): Option V:=(z_.find? λkv=>decide (kv.1=k)).map (·.2)
def putK (z_:List (κ×V))(k:κ)(v:V): List (κ×V) :=
 if (z_.any λkv=>decide (kv.1=k))=true then z_.map (λkv=>if kv.1=k then (kv.1,v) else kv) else z_++[(k,v)]
def h_ (z_:List (κ×V))(k:κ): List (κ×V):=z_.filter λkv=>decide (kv.1≠k)
def jy {p:κ×V}{r:List (κ×V)}{k:κ}(e:p.1=k): fE (p::r) k=some p.2:=by simp[fE,abf,e]
def jz {p:κ×V}{r:List (κ×V)}{k:κ}(e:¬p.1=k): fE (p::r) k=fE r k:=by simp[fE,abf,e]
def lT (k:κ): ∀z_:List (κ×V),(z_.any λkv=>decide (kv.1=k))=(fE z_ k).isSome
 | []=>rfl
 | p::r=>by
   rw[abg];by_cases e:p.1=k
   · simp only [jy e,decide_eq_true e,Bool.true_or,Option.isSome_some]
   · rw[jz e,decide_eq_false e,Bool.false_or];exact lT k r
def Gx (k j:κ)(y:V): ∀z_:List (κ×V),fE (z_.map λkv=>if kv.1=k then (kv.1,y) else kv) j=(fE z_ j).map λx=>if j=k then y else x
 | []=>rfl
 | p::r=>by
   have ih:=Gx k j y r;rw[Qb];by_cases h:p.1=k
   · rw[if_pos h]
     by_cases e:p.1=j
     · rw[jy (p:=(p.1,y)) e,jy e,QD,if_pos (e.symm.trans h)]
     · rw[jz (p:=(p.1,y)) e,jz e,ih]
   · rw[if_neg h]
     by_cases e:p.1=j
     · rw[jy (p:=p) e,jy e,QD,if_neg (λz=>h (e.trans z))]
     · rw[jz (p:=p) e,jz e,ih]
def D9 (k j:κ)(y:V): ∀z_:List (κ×V),fE z_ k=none->fE (z_++[(k,y)]) j=if j=k then some y else fE z_ j
 | [],_=>by
   by_cases e:k=j
   · rw[if_pos e.symm];exact jy (p:=(k,y)) e
   · rw[if_neg (λz=>e z.symm)];exact jz (p:=(k,y)) e
 | p::r,hn=>by
   rw[List.cons_append];have hk:¬p.1=k:=λz=>by rw[jy z] at hn;cases hn
   rw[jz hk] at hn;have ih:=D9 k j y r hn;by_cases e:p.1=j
   · rw[jy e,jy e,if_neg (λz=>hk (e.trans z))]
   · rw[jz e,jz e,ih]
def jA (z_:List (κ×V))(k j:κ)(y:V): fE (putK z_ k y) j=if j=k then some y else fE z_ j:=by
 unfold putK;by_cases a:(z_.any λkv=>decide (kv.1=k))=true
 · rw[if_pos a,Gx]
   rw[lT] at a;by_cases e:j=k
   · let⟨x,hx⟩:=qZ.mp a
     rw[if_pos e,e,hx,QD,if_pos rfl]
   · rw[if_neg e]
     cases fE z_ j with
     | none=>rfl
     | some x=>rw[QD,if_neg e]
 · rw[if_neg a]
   refine D9 k j y z_ ?_;rw[lT] at a;cases q:fE z_ k with
   | none=>rfl
   | some x=>rw[q] at a;exact(a rfl).elim
def lU (z_:List (κ×V))(k:κ)(v:V): (putK z_ k v).length<=z_.length+1:=by
 unfold putK;split
 · rw[qa];lia
 · rw[qd,qJ,abE];lia
def sD {z_:List (κ×V)}{k:κ}(v:V)(h:fE z_ k=none): putK z_ k v=z_++[(k,v)]:=by
 unfold putK;rw[lT,h];exact if_neg (by decide)
abbrev zJ:=Option V
def lu.oY {o:zJ}{u:zF}(r:lu o u): o.isSome=u.isSome:=by
 cases o with
 | none=>cases u with
   | none=>rfl
   | some _=>exact(show False from r).elim
 | some _=>cases u with
   | none=>exact(show False from r).elim
   | some _=>rfl
def lu.getD {o:zJ}{u:zF}{d:V}{d':Value}(r:lu o u)(rd:ZX d d'): ZX (o.getD d) (u.getD d'):=by
 cases o with
 | none=>cases u with
   | none=>exact rd
   | some _=>exact(show False from r).elim
 | some _=>cases u with
   | none=>exact(show False from r).elim
   | some _=>exact r
def KV.val {z_:List (κ×V)}{vs:List (κ×Value)}(r:KV z_ vs)(k:κ): lu (fE z_ k) (valueAt vs k):=by
 unfold KV at r
 induction r with
 | nil=>exact QU
 | @cons p q ps qs h t ih =>
   let⟨h1,h2⟩:=h;by_cases e:p.1=k
   · have e':q.1=k:=h1.symm.trans e
     have b:valueAt (q::qs) k=some q.2:=by simp[valueAt,abf,e']
     rw[jy e,b];exact h2
   · have e':¬q.1=k:=λz=>e (h1.trans z)
     have b:valueAt (q::qs) k=valueAt qs k:=by simp[valueAt,abf,e']
     rw[jz e,b];exact ih
def KV.any {z_:List (κ×V)}{vs:List (κ×Value)}(r:KV z_ vs)(k:κ): (z_.any λkv=>decide (kv.1=k))=vs.any λkv=>decide (kv.1=k):=by
 unfold KV at r
 induction r with
 | nil=>rfl
 | cons h t ih=>rw[abg,abg,ih,h.1]
def KV.repl {z_:List (κ×V)}{vs:List (κ×Value)}(r:KV z_ vs)(k:κ){y:V}{u:Value}(ry:ZX y u):
   KV (z_.map λkv=>if kv.1=k then (kv.1,y) else kv) (vs.map λkv=>if kv.1=k then (kv.1,u) else kv):=by
 unfold KV at r ⊢
 induction r with
 | nil=>exact .nil
 | @cons p q ps qs h t ih =>
   rw[Qb,Qb];refine .cons ?_ ih;let⟨h1,h2⟩:=h;by_cases e:p.1=k
   · rw[if_pos e,if_pos (h1.symm.trans e)];exact⟨h1,ry⟩
   · rw[if_neg e,if_neg (λz=>e (h1.trans z))];exact⟨h1,h2⟩
def KV.put {z_:List (κ×V)}{vs:List (κ×Value)}(r:KV z_ vs)(k:κ){y:V}{u:Value}(ry:ZX y u): KV (putK z_ k y) (stored vs k u):=by
 unfold putK stored;rw[r.any k];by_cases e:(vs.any λkv=>decide (kv.1=k))=true
 · rw[if_pos e,if_pos e];exact r.repl k ry
 · rw[if_neg e,if_neg e];exact Paired.snoc r ⟨rfl,ry⟩
def KV.drop {z_:List (κ×V)}{vs:List (κ×Value)}(r:KV z_ vs)(k:κ): KV (h_ z_ k) (without vs k):=by
 unfold KV at r ⊢;unfold h_ without
 induction r with
 | nil=>exact .nil
 | @cons p q ps qs h t ih =>
   let⟨h1,h2⟩:=h;rw[Q_,Q_];by_cases e:p.1=k
   · have a:¬decide (p.1≠k)=true:=by simp[e]
     have b:¬decide (q.1≠k)=true:=by simp[h1.symm.trans e]
     rw[if_neg a,if_neg b];exact ih
   · have e':¬q.1=k:=λz=>e (h1.trans z)
     have a:decide (p.1≠k)=true:=by simp[e]
     have b:decide (q.1≠k)=true:=by simp[e']
     rw[if_pos a,if_pos b];exact .cons ⟨h1,h2⟩ ih
def KV.length {z_:List (κ×V)}{vs:List (κ×Value)}(r:KV z_ vs): z_.length=vs.length:=aei r
def ML (z_:List (κ×V))(k:κ): (h_ z_ k).length<=z_.length:=adF _ _
end
def uj {P:Program}{w:World}{k:Key}{u:Value}(r:ZX (kV k) u): (hV P w).is k u=true:=by
 cases k with
 | inl i=>let⟨t,e⟩:=(show ∃t,u=acz i t from r);subst e;exact Gr P w i t
 | inr x=>let⟨t,e⟩:=(show ∃t,u=acA x t from r);subst e;exact Gs P w x t
abbrev zT:=List Key
def D_ {P:Program}{w:World}: ∀{ks:zT} {us:zi},Vals (ks.map kV) us->ItemsAre (hV P w) ks us
 | [],_,r=>by rw[adn] at r;cases r;exact .nil
 | k::ks,_,r=>by
   rw[Qb] at r;cases r with
   | cons h t=>exact .cons (uj h) (D_ t)
abbrev KT (H:Hp): List (List Key×V)->List (List Key×Addr×Value)->Prop:=Paired λp q=>p.1=q.1/\H q.2.1=some (.tup (p.1.map kV))/\ZX p.2 q.2.2
abbrev zI:=List (List Key×Addr×Value)
def KT.val {H:Hp}{z_:zD}{xs:zI}(r:KT H z_ xs)(k:zT): lu (fE z_ k) ((atKey xs k).map (·.2)):=by
 induction r with
 | nil=>exact QU
 | @cons p q ps qs h t ih =>
   let⟨h1,_,h2⟩:=h;by_cases e:p.1=k
   · have e':q.1=k:=h1.symm.trans e
     have b:atKey (q::qs) k=some q.2:=by simp[atKey,abf,e']
     rw[jy e,b];exact h2
   · have e':¬q.1=k:=λz=>e (h1.trans z)
     have b:atKey (q::qs) k=atKey qs k:=by simp[atKey,abf,e']
     rw[jz e,b];exact ih
def KT.repl {H:Hp}{z_:zD}{xs:zI}(r:KT H z_ xs)(k:zT){y:V}{u:Value}(ry:ZX y u):
   KT H (z_.map λkv=>if kv.1=k then (kv.1,y) else kv) (xs.map (putAt k u)):=by
 induction r with
 | nil=>exact .nil
 | @cons p q ps qs h t ih =>
   rw[Qb,Qb];refine .cons ?_ ih;let⟨h1,h2,h3⟩:=h;unfold putAt;by_cases e:p.1=k
   · rw[if_pos e,if_pos (h1.symm.trans e)];exact⟨h1,h2,ry⟩
   · rw[if_neg e,if_neg (λz=>e (h1.trans z))];exact⟨h1,h2,h3⟩
def KT.put {H:Hp}{z_:zD}{xs:zI}(r:KT H z_ xs)(k:zT){b:Addr}{y:V}{u:Value}(hb:H b=some (.tup (k.map kV)))(ry:ZX y u):
   KT H (putK z_ k y) (storedH xs k b u):=by
 have e:(z_.any λkv=>decide (kv.1=k))=(atKey xs k).isSome:=by
   rw[lT,(r.val k).oY,acT]
 unfold putK storedH;rw[e];by_cases q:(atKey xs k).isSome=true
 · rw[if_pos q,if_pos q];exact r.repl k ry
 · rw[if_neg q,if_neg q];exact Paired.snoc r ⟨rfl,hb,ry⟩
def KT.keeps {H H':Hp}{z_:zD}{xs:zI}(r:KT H z_ xs)(ht:∀b ys,H b=some (.tup ys)->H' b=some (.tup ys)): KT H' z_ xs :=
 Paired.Tx r λ_ _ z=>⟨z.1,ht _ _ z.2.1,z.2.2⟩
section
variable {P:Program}{w:World}{H:Hp}{h:Heap}{a:Addr}
def SE {u:HO}(ok:HOk P w H h)(e:Rd H a u): gN P w H h a u:=e.ok ok
def yD {z_:zv}(ok:HOk P w H h)(e:Rd H a (.dK z_)): z_.length<=sizeLine/\(a==sysModules)=false/\∃vs,KV z_ vs/\h.DictOf (hV P w) a vs :=
 show gN P w H h a (.dK z_) from SE ok e
def A6 {z_:zv}(ok:HOk P w H h)(e:H a=some (.dK z_)): z_.length<=sizeLine/\(a==sysModules)=false/\∃vs,KV z_ vs/\h.DictOf (hV P w) a vs:=yD ok (.inl e)
def xE {ks:zT}(ok:HOk P w H h)(e:H a=some (.tup (ks.map kV))): (tupleKind (hV P w)).is h ks a:=by
 let⟨_,its,r,o,h1,h2,n,h3⟩:=(show gN P w H h a (.tup (ks.map kV)) from ok a _ e);exact⟨o,its.toArray,n,h1,h2,h3,by simpa using D_ r⟩
def A7 {z_:zD}(ok:HOk P w H h)(e:Rd H a (.dT z_)): z_.length<=sizeLine/\(a==sysModules)=false ∧
   ∃xs,KT H z_ xs/\h.DictOfH (tupleKind (hV P w)) a xs:=by
 let⟨z,y,xs,r,o,es,ep,h1,h2,h3,h4,h5⟩:=(show gN P w H h a (.dT z_) from SE ok e);refine⟨z,y,xs,r,o,es,ep,h1,h2,h3,h4,λx hx=>?_,h5⟩;have all:∀{l:zD} {m:zI},KT H l m->∀x∈m,(tupleKind (hV P w)).is h x.1 x.2.1:=by
   intro l m q
   induction q with
   | nil=>intro x hx;exact nomatch hx
   | @cons p q ps qs hq t ih =>
     intro x hx;rcases qk.mp hx with e | hx
     · subst e
       exact xE ok (by rw[<-hq.1];exact hq.2.1)
     · exact ih x hx
 exact all r x hx
def V3 {z_:zD}(ok:HOk P w H h)(e:H a=some (.dT z_)): z_.length<=sizeLine/\(a==sysModules)=false ∧
 ∃xs,KT H z_ xs/\h.DictOfH (tupleKind (hV P w)) a xs:=A7 ok (.inl e)
end
def kg (H:Hp)(a:Addr)(y:V)(r:zJ): Prop :=
 (∃z_ k,Rd H a (.dK z_)/\y=kV k/\r=fE z_ k)\/∃z_ k b,Rd H a (.dT z_)/\y=.ref b/\H b=some (.tup (k.map kV))/\r=fE z_ k
def sE (H:Hp)(a:Addr)(y v:V)(H':Hp): Prop :=
 (∃z_ k,H a=some (.dK z_)/\y=kV k/\z_.length < sizeLine/\H'=upd H a (.dK (putK z_ k v))) ∨
 ∃z_ k b,H a=some (.dT z_)/\y=.ref b/\H b=some (.tup (k.map kV))/\z_.length < sizeLine/\H'=upd H a (.dT (putK z_ k v))
def kg.k {H:Hp}{a:Addr}{z_:zv}{k:Key}(e:H a=some (.dK z_)): kg H a (kV k) (fE z_ k):=.inl ⟨z_,k,.inl e,rfl,rfl⟩
def sE.k {H:Hp}{a:Addr}{z_:zv}{k:Key}{v:V}(e:H a=some (.dK z_))(hl:z_.length < sizeLine): sE H a (kV k) v (upd H a (.dK (putK z_ k v))):=.inl ⟨z_,k,e,rfl,hl,rfl⟩
section
variable {X:Cx}{zk:zh}{σ:St}{H:Hp}{s:Shared}{a:Addr}{y v:V}{u r:Value}{o:zJ}{A:Around}{E:ze}
def ZZ.big (I:ZZ X zk σ H s): sysModules < s.heap.objs.size:=by
 have h:mainGlobals < s.heap.objs.size:=(I.mod.glob.keeps I.bk).lt;exact Nat.lt_trans (by decide) h
def KY {Q:ze}(hu:A.units+1 < cLine)(I:ZZ X zk σ H s)(g:kg H a y (some v))(ry:ZX y u)(h:∀w' s',ZZ X zk σ H s'->ZX v w'->Q w' s'):
   wpAny (model X.prog X.w) A (getItem (.ref a) u) Q E s:=by
 rcases g with ⟨z_,k,e,ey,l⟩ | ⟨z_,k,b,e,ey,eb,l⟩
 · subst ey
   let⟨z,hd,vs,rel,dd⟩:=yD I.hok e;let⟨w',hw,rw'⟩:=lu.some_of (v:=v) (o:=valueAt vs k) (by rw[l];exact rel.val k);exact wpAny_getItem_of (uj ry) dd.mapOf hw (h w' _ (I.tok _) rw')
 · subst ey
   cases (show u=qh b from ry);let⟨z,hd,xs,rel,dd⟩:=A7 I.hok e;let⟨w',hw,rw'⟩:=lu.some_of (v:=v) (o:=(atKey xs k).map (·.2)) (by rw[l];exact rel.val k);let⟨p,hp,hp2⟩:=qP.mp hw;refine wpAny_getItem_heap (tupleKind_room_in1 hu) (xE I.hok eb) dd hp ?_;rw[hp2];exact h w' _ (I.tok _) rw'
def Yn {Q:ze}(hu:A.units+1 < cLine)(I:ZZ X zk σ H s)(g:kg H a y o)(ry:ZX y u)(h:∀s',ZZ X zk σ H s'->Q (.bool o.isSome) s'):
   wpAny (model X.prog X.w) A (compareOp .In u (.ref a)) Q E s:=by
 rcases g with ⟨z_,k,e,ey,l⟩ | ⟨z_,k,b,e,ey,eb,l⟩
 · subst ey
   let⟨z,hd,vs,rel,dd⟩:=yD I.hok e;refine wpAny_in_of (uj ry) hd dd.mapOf ?_;rw[<-(rel.val k).oY,<-l];exact h _ (I.tok _)
 · subst ey
   cases (show u=qh b from ry);let⟨z,hd,xs,rel,dd⟩:=A7 I.hok e;refine wpAny_in_heap (tupleKind_room_in1 hu) (xE I.hok eb) hd dd ?_;have q:=(rel.val k).oY;rw[acT] at q;rw[<-q,<-l];exact h _ (I.tok _)
def PK {Q:ze}(hu:A.units+1 < cLine)(I:ZZ X zk σ H s)(g:kg H a y o)(ry:ZX y u)(h:∀s',ZZ X zk σ H s'->Q (.bool (!o.isSome)) s'):
   wpAny (model X.prog X.w) A (compareOp .NotIn u (.ref a)) Q E s:=by
 rcases g with ⟨z_,k,e,ey,l⟩ | ⟨z_,k,b,e,ey,eb,l⟩
 · subst ey
   let⟨z,hd,vs,rel,dd⟩:=yD I.hok e;refine wpAny_notIn_of (uj ry) hd dd.mapOf ?_;rw[<-(rel.val k).oY,<-l];exact h _ (I.tok _)
 · subst ey
   cases (show u=qh b from ry);let⟨z,hd,xs,rel,dd⟩:=A7 I.hok e;refine wpAny_notIn_heap (tupleKind_room_in1 hu) (xE I.hok eb) hd dd ?_;have q:=(rel.val k).oY;rw[acT] at q;rw[<-q,<-l];exact h _ (I.tok _)
def vQ {h':Heap}{t':Nat}{ob:HO}(I:ZZ X zk σ H s)(mu:Mut (H a))(hs:abp a s.heap h')(he:∃q,h'.get? a=some q)(new:gN X.prog X.w (upd H a ob) h' a ob):
   ZZ X zk σ (upd H a ob) { s with heap:=h',toks:=t' } :=
 I.write (x:=a) (e:=a) mu (.inl rfl) (λb q hb z=>(hs.2 b hb).trans z) he new
abbrev z8:=List (Key×Value)
def EY {P:Program}{w:World}{H':Hp}{h':Heap}{z_:zv}{vs:z8}(z:z_.length<=sizeLine)(hd:(a==sysModules)=false)(rel:KV z_ vs)(dd:h'.DictOf (hV P w) a vs):
 gN P w H' h' a (.dK z_):=⟨z,hd,vs,rel,dd⟩
def Ea {H':Hp}{Q:zg}(hu:A.units+1 < cLine)(I:ZZ X zk σ H s)(g:sE H a y v H')(ry:ZX y u)(rv:ZX v r)(h:∀s',ZZ X zk σ H' s'->Q () s'):
   wpAny (model X.prog X.w) A (setItem (.ref a) u r) Q E s:=by
 rcases g with ⟨z_,k,e,ey,l,eH⟩ | ⟨z_,k,b,e,ey,eb,l,eH⟩
 · subst ey eH
   let⟨z,hd,vs,rel,dd⟩:=A6 I.hok e;have hz:vs.length<=sizeLine:=by rw[<-rel.length];exact z
   have hl:(putK z_ k v).length<=sizeLine:=by have:=lU z_ k v;lia
   refine wpAny_setItem_pairs (hsz:=hz) (uj ry) dd λh' dd' hs=>h _ ?_;have he:∃q,h'.get? a=some q:=(by let⟨q,_,_,hq,_⟩:=dd';exact ⟨q,hq⟩);exact vQ I (by rw[e];exact QU) hs he (EY hl hd (rel.put k rv) dd')
 · subst ey eH
   cases (show u=qh b from ry);let⟨z,hd,xs,rel,dd⟩:=V3 I.hok e;have hz:xs.length<=sizeLine:=by rw[<-aei rel];exact z
   have hl:(putK z_ k v).length<=sizeLine:=by have:=lU z_ k v;lia
   refine wpAny_setItem_heap (hsz:=hz) (tupleKind_room_in1 hu) (xE I.hok eb) dd λh' dd' hs=>h _ ?_;let⟨q,es,ep,hq,h2,h3,h4,_,h5⟩:=dd';refine vQ I (by rw[e];exact QU) hs ⟨q,hq⟩ ⟨hl,hd,_,(rel.put k eb rv).keeps λc ys ec=>?_,q,es,ep,hq,h2,h3,h4,h5⟩;rw[ak (i7 ec e (λz=>nomatch z))];exact ec
end
section
variable {X:Cx}{zk:zh}{σ:St}{H:Hp}{s:Shared}{a:Addr}{z_:zv}{k:Key}{u:Value}{A:Around}{E:ze}
def SG {v:V}{more:zi}{Q:ze}(I:ZZ X zk σ H s)(e:H a=some (.dK z_))(ry:ZX (kV k) u)(l:fE z_ k=some v)(hm:more=[]\/∃x,more=[x])
   (h:∀w' s',ZZ X zk σ (upd H a (.dK (h_ z_ k))) s'->ZX v w'->Q w' s'):wpAny (model X.prog X.w) A (call (.builtin "dict.pop") (.ref a::u::more)) Q E s:=by
 let⟨z,hd,vs,rel,dd⟩:=A6 I.hok e;let⟨w',hw,rw'⟩:=lu.some_of (v:=v) (o:=valueAt vs k) (by rw[<-l];exact rel.val k);have hp:(keyPart u).isSome=true:=by
   cases k with
   | inl i=>let⟨t,q⟩:=(show ∃t,u=acz i t from ry);subst q;rfl
   | inr x=>let⟨t,q⟩:=(show ∃t,u=acA x t from ry);subst q;rfl
 have ha:argsOk "dict.pop" ⟨.ref a::u::more,[]⟩:=by
   rcases hm with q | ⟨x,q⟩
   · subst q;exact PySem.F.args_dict_pop_2 _ _
   · subst q;exact adf _ _ _
 refine call_meetsIn abh dd.typeIs ado ha (meets_dict_pop_there (hV X.prog X.w) a (uj ry) more hm hp)
   ⟨vs,w',dd,by rw[<-rel.length];exact z,hw,λh' dd' hs=>h w' _ ?_ rw'⟩
 have he:∃q,h'.get? a=some q:=(by let⟨q,_,_,hq,_⟩:=dd';exact ⟨q,hq⟩);exact vQ I (by rw[e];exact QU) hs he (EY (Qh (ML z_ k) z) hd (rel.drop k) dd')
def T8 {r:Value}{Q:ze}(I:ZZ X zk σ H s)(e:H a=some (.dK z_))(ry:ZX (kV k) u)(l:fE z_ k=none)(h:∀s',ZZ X zk σ H s'->Q r s'):
   wpAny (model X.prog X.w) A (call (.builtin "dict.pop") [.ref a,u,r]) Q E s:=by
 let⟨z,hd,vs,rel,dd⟩:=A6 I.hok e;have hn:valueAt vs k=none:=lu.none_of (by rw[<-l];exact rel.val k);have hp:(keyPart u).isSome=true:=by
   cases k with
   | inl i=>let⟨t,q⟩:=(show ∃t,u=acz i t from ry);subst q;rfl
   | inr x=>let⟨t,q⟩:=(show ∃t,u=acA x t from ry);subst q;rfl
 exact call_meetsIn abh dd.typeIs ado (adf _ _ _) (meets_dict_pop_default (hV X.prog X.w) a (uj ry) hd hp r) ⟨vs,dd,hn,h _ (I.tok _)⟩
def V4 {Q:ze}(I:ZZ X zk σ H s)(e:Rd H a (.dK z_))(h:∀t s',ZZ X zk σ H s'->Q (.int z_.length t) s'): wpAny (model X.prog X.w) A (call (.builtin "len") [.ref a]) Q E s:=by
 let⟨z,hd,vs,rel,dd⟩:=yD I.hok e;refine call_len_dict hd dd (by rw[<-rel.length];rw[sizeLine_eq] at z;lia) ?_;rw[<-rel.length];exact h _ _ (I.tok _)
end
def T9 (i:Expr): Prop:=∀ov iv,subscripted i false ov iv=operate [ov,iv] (getItem ov iv)
def JX {prog:Program}{w:World}{A:Around}{E:ze}{s:Shared}{env:Env}{value slice:Expr}{pos:Pos}{T id:String}{Q:ze}
   (hl:typeLookup (.type T) "__getitem__" = pure (some (.builtin id))) (hs:T9 slice)
   (h:wpAny (model prog w) A (eval value env) (λo s₁=>wpAny (model prog w) A (eval slice env) (λi s₂=>s₂.TypeIs o T/\wpAny (model prog w) A (getItem o i) Q E s₂) E s₁) E s) :
   wpAny (model prog w) A (eval (.Subscript value slice pos) env) Q E s:=by
 refine Subscript_ (wpAny_mono h (λo s₁ h₁=>wpAny_mono h₁ (λi s₂ h₂=>?_) λ_ _ x=>x) λ_ _ x=>x);let⟨hT,h₂⟩:=h₂;unfold subscriptTail;refine wpAny_bind ?_;rw[getitemInPython_of_ne hT.not_modules];refine wpAny_bind (wpAny_specialOf hT hl ?_);have fin:wpAny (model prog w) A (subscripted slice false o i) (λr s₃=>wpAny (model prog w) A (letTemporaryGo value o r >>= λ_=>pure r) Q E s₃) E s₂:=by
   rw[hs o i];exact wpAny_operating (wpAny_mono h₂ (λr s₃ h₃=>wpAny_bind (wpAny_letTemporaryGo (wpAny_pure h₃))) λ_ _ x=>x)
 first
   | exact wpAny_pure (wpAny_bind fin)
   | exact wpAny_bind (wpAny_pure (wpAny_bind fin))
   | exact wpAny_bind fin
def Gy {X:Cx}{zk:zh}{σ:St}{H:Hp}{s:Shared}{a:Addr}{y:V}{o:zJ}(I:ZZ X zk σ H s)(g:kg H a y o): s.TypeIs (.ref a) "dict" := by
 rcases g with ⟨z_,k,e,_,_⟩ | ⟨z_,k,b,e,_,_,_⟩
 · let⟨_,_,vs,_,dd⟩:=yD I.hok e
   exact dd.typeIs
 · let⟨_,_,xs,_,dd⟩:=A7 I.hok e
   exact dd.typeIs
def V5 (td ty:TE): TE:=λσ H Q=>td σ H λx H1=>ty σ H1 λy H2=>∃a v,x=.ref a/\kg H2 a y (some v)/\Q v H2
def V6 (td ty tv:TE): TS:=λD σ H=>tv σ H λv H1=>td σ H1 λx H2=>ty σ H2 λy H3=>∃a H4,x=.ref a/\sE H3 a y v H4/\D.nx σ H4
section
variable {X:Cx}{o i e value:Expr}{pos pos' tpos:Pos}{td ty tv:TE}
def fF (hu:X.A.units+1 < cLine)(ho:PE X o td)(hi:PE X i ty)(hs:T9 i): PE X (.Subscript o i pos) (V5 td ty):=by
 intro zk s σ H Q I h;refine JX acM.lookup hs (ZQ (ho zk s σ H _ I h) λu s1 ⟨x,H1,I1,rx,q1⟩=>ZQ (hi zk s1 σ H1 _ I1 q1) λiv s2 hz_=>?_);let⟨y,H2,I2,ry,a,v,ex,g,q2⟩:=hz_;walk_at "0j";exact⟨Gy I2 g,KY hu I2 g ry λw' s3 I3 rw'=>⟨v,H2,I3,rw',q2⟩⟩
def j_ (hu:X.A.units+1 < cLine)(ho:PE X o td)(hi:PE X i ty)(hv:PE X value tv)(hs:swapsWith value (some (.Subscript o i pos')) pos.line X.env=pure false):
   PS X (.Assign [.Subscript o i pos'] value pos) (V6 td ty tv):=by
 intro zk s σ H D I h;refine wpAny_Assign_Subscript (ZQ (hv zk s σ H _ I h) λr s1 ⟨v,H1,I1,rv,q1⟩=>ZQ (ho zk s1 σ H1 _ I1 q1) λu s2 ⟨x,H2,I2,rx,q2⟩=>ZQ (hi zk s2 σ H2 _ I2 q2) λiv s3 hz_=>?_) hs;let⟨y,H3,I3,ry,a,H4,ex,g,q3⟩:=hz_;walk_at "0j";exact Ea hu I3 g ry rv λs4 I4=>⟨σ,H4,I4,q3⟩
end
def Gz {P:Program}{w:World}{H:Hp}(h:Heap)(hb:sysModules < h.objs.size): gN P w H (h.push { cls:=.type "dict",data:=.dict #[] }) h.objs.size (.dK []) :=
 ⟨qV _,beq_eq_false_iff_ne.mpr (qX (qH hb)),[],.nil,Heap.DictOf.new h⟩
def T_:TE:=λ_ H Q=>∀p,H p=none->Q (.ref p) (upd H p (.dK []))
section
variable {X:Cx}{pos:Pos}
def oZ:PE X (.Dict [] [] pos) T_:=λzk s σ H Q I h =>
 wpAny_Dict_empty ⟨.ref s.heap.objs.size,_,I.laid (a:=s.heap.objs.size) (o:=.dK []) (t':=s.toks) (λ_ _ q=>qb _ q) (qe _) (Gz s.heap I.big),rfl,h _ (I.hok.fresh (qe _))⟩
end
def IJ:List (TE×TE)->St->Hp->(List (V×V)->Hp->Prop)->Prop
 | [],_,H,Q=>Q [] H
 | (tk,tv)::r,σ,H,Q=>tk σ H λx H1=>tv σ H1 λy H2=>IJ r σ H2 λps H3=>Q ((x,y)::ps) H3
abbrev VV:List (V×V)->List (Value×Value)->Prop:=Paired λp q=>ZX p.1 q.1/\ZX p.2 q.2
abbrev Zf:=List (TE×TE)
abbrev Zg:=List (Option Expr)
def PPs (X:Cx)(pos:Pos)(keys:Zg)(values:zx)(trs:Zf): Prop :=
 ∀(zk:zh) (s:Shared) (σ:St) (H:Hp) (Q:List (V×V)->Hp->Prop),ZZ X zk σ H s->IJ trs σ H Q ->
   wpAny (model X.prog X.w) X.A (evalPairs (pairTrees keys values X.env pos)) (λvs s'=>∃ps H',ZZ X zk σ H' s'/\VV ps vs/\Q ps H') X.xe s
def PL {X:Cx}{pos:Pos}: PPs X pos [] [] []:=λzk s σ H Q I h=>pairTrees_nil_walk ⟨[],H,I,.nil,h⟩
def sF {X:Cx}{pos:Pos}{k v:Expr}{ks:Zg}{vs:zx}{tk tv:TE}{trs:Zf}(hk:PE X k tk)(hv:PE X v tv)(hr:PPs X pos ks vs trs):
   PPs X pos (some k::ks) (v::vs) ((tk,tv)::trs):=λzk s σ H Q I h =>
 pairTrees_cons_walk (ZQ (hk zk s σ H _ I h) λu s1 ⟨x,H1,I1,rx,q1⟩=>ZQ (hv zk s1 σ H1 _ I1 q1) λw2 s2 ⟨y,H2,I2,ry,q2⟩ =>
   ZQ (hr zk s2 σ H2 _ I2 q2) λws s3 ⟨ps,H3,I3,rel,q3⟩=>⟨(x,y)::ps,H3,I3,.cons ⟨rx,ry⟩ rel,q3⟩)
def A8 (z_ more:zv): List (Key×V):=more.foldl (λacc kv=>putK acc kv.1 kv.2) z_
def KV.merge:∀{more:zv} {rs:z8} {z_:zv} {vs:z8},KV more rs->KV z_ vs->KV (A8 z_ more) (merged vs rs):=by
 intro more rs z_ vs r;unfold KV at r
 induction r generalizing z_ vs with
 | nil=>intro q;exact q
 | @cons p q ps qs h t ih =>
   intro r0;have e:KV (putK z_ p.1 p.2) (stored vs q.1 q.2):=by
     have:=r0.put p.1 h.2;rw[<-h.1];exact this
   exact ih e
def uk:∀(more z_:zv),(A8 z_ more).length<=z_.length+more.length
 | [],z_=>by show z_.length<=z_.length+0;lia
 | p::r,z_=>by
   have h1:=uk r (putK z_ p.1 p.2);have h2:=lU z_ p.1 p.2;show (A8 (putK z_ p.1 p.2) r).length<=_;rw[qJ];lia
def A9 {P:Program}{w:World}: ∀{z_:zv} {ws:List (Value×Value)},VV (z_.map λkv=>(kV kv.1,kv.2)) ws->∃rs,Carries (hV P w) ws rs/\KV z_ rs
 | [],_,r=>by rw[adn] at r;cases r;exact⟨[],QU,.nil⟩
 | p::z_,_,r=>by
   rw[Qb] at r;cases r with
   | @cons a b as bs h t =>
     let⟨rs,c,q⟩:=A9 (P:=P) (w:=w) t;let⟨b1,b2⟩:=b;exact⟨(p.1,b2)::rs,⟨uj h.1,rfl,c⟩,.cons ⟨rfl,h.2⟩ q⟩
def V7 (trs:Zf): TE:=λσ H Q=>∀p,H p=none->IJ trs σ (upd H p (.dK [])) λps H2=>H2 p=some (.dK [])/\∃z_:List (Key×V),ps=z_.map (λkv=>(kV kv.1,kv.2))/\z_.length<=15/\Q (.ref p) (upd H2 p (.dK (A8 [] z_)))
def PN {X:Cx}{pos:Pos}{keys:Zg}{values:zx}{trs:Zf}(h:PPs X pos keys values trs)(hall:keys.all (·.isSome)=true)(hl:keys.length=values.length)(h0:keys≠[])
   (h15:keys.length<=15):PE X (.Dict keys values pos) (V7 trs):=by
 intro zk s σ H Q I q;have hn:=I.hok.fresh (qe s.heap.objs.size);have I1:=I.laid (a:=s.heap.objs.size) (o:=.dK []) (h':=s.heap.push { cls:=.type "dict",data:=.dict #[] }) (t':=s.toks) (λ_ _ q=>qb _ q) (qe _) (Gz s.heap I.big);refine wpAny_Dict_walk (knd:=hV X.prog X.w) hall hl h0 h15 (ZQ (h zk _ σ _ _ I1 (q _ hn)) λws s2 hz_=>?_);let⟨ps,H2,I2,rel,e,z_,ep,lk,q2⟩:=hz_;subst ep;let⟨rs,c,rk⟩:=A9 (P:=X.prog) (w:=X.w) rel;let⟨z,hd,vs0,r0,dd⟩:=A6 I2.hok e;cases r0;refine⟨rs,c,dd,λh' dd' hs=>⟨.ref s.heap.objs.size,_,?_,rfl,q2⟩⟩;have hz:(A8 [] z_).length<=sizeLine:=by
   have h1:=uk z_ [];rw[abE] at h1;rw[sizeLine_eq];lia
 have he:∃q,h'.get? s.heap.objs.size=some q:=(by let⟨q,_,_,hq,_⟩:=dd';exact ⟨q,hq⟩);exact vQ I2 (by rw[e];exact QU) hs he (EY hz hd (rk.merge .nil) dd')
structure M1 (X:Cx)(o:Expr)(m:Str)(apos:Pos)(e:Expr)(cpos:Pos): Prop where
 base:attributeBase o m X.env (eval o X.env)=eval o X.env
 few:((backTo cpos (starEach [e] X.env)).all (λx=>!x.1)&&(backToKw cpos (keywordEach [] X.env)).all (λx=>x.1.isSome)
   && decide (([e]:zx).length+([]:zY).length+(if ([]:zY).isEmpty then 0 else 1) < 30))=true
 line:(apos.endLine==cpos.line)=true
 trees:backTo cpos (starEach [e] X.env)=[(false,eval e X.env)]
structure M2 (X:Cx)(o:Expr)(m:Str)(apos:Pos)(e f:Expr)(cpos:Pos): Prop where
 base:attributeBase o m X.env (eval o X.env)=eval o X.env
 few:((backTo cpos (starEach [e,f] X.env)).all (λx=>!x.1)&&(backToKw cpos (keywordEach [] X.env)).all (λx=>x.1.isSome)
   && decide (([e,f]:zx).length+([]:zY).length+(if ([]:zY).isEmpty then 0 else 1) < 30))=true
 line:(apos.endLine==cpos.line)=true
 trees:backTo cpos (starEach [e,f] X.env)=[(false,eval e X.env),(false,eval f X.env)]
def IsD (H:Hp)(a:Addr): Prop:=(∃z_,Rd H a (.dK z_))\/∃z_,Rd H a (.dT z_)
def EZ {X:Cx}{zk:zh}{σ:St}{H:Hp}{s:Shared}{a:Addr}(I:ZZ X zk σ H s)(d:IsD H a):
   s.TypeIs (.ref a) "dict" ∧ (∀b,qh a=.ref b->∃ob,s.heap.get? b=some ob/\ob.dict=none)/\(a==sysModules)=false:=by
 rcases d with ⟨z_,e⟩ | ⟨z_,e⟩
 · let⟨_,hd,vs,_,dd⟩:=yD I.hok e
   refine⟨dd.typeIs,λb q=>?_,hd⟩;cases q;let⟨ob,_,_,h1,h2,_⟩:=dd;exact⟨ob,h1,h2.2.1⟩
 · let⟨_,hd,xs,_,dd⟩:=A7 I.hok e
   refine⟨dd.typeIs,λb q=>?_,hd⟩;cases q;let⟨ob,_,_,h1,h2,_⟩:=dd;exact⟨ob,h1,h2.2.1⟩
section
variable {X:Cx}{zk:zh}{σ:St}{H:Hp}{s:Shared}{a:Addr}{y d:V}{u r:Value}{o:zJ}{A:Around}{E:ze}
def Ua {Q:ze}(hu:A.units+1 < cLine)(I:ZZ X zk σ H s)(g:kg H a y o)(ry:ZX y u)(h:∀w' s',ZZ X zk σ H s'->ZX (o.getD .non) w'->Q w' s'):
   wpAny (model X.prog X.w) A (call (.builtin "dict.get") [.ref a,u]) Q E s:=by
 rcases g with ⟨z_,k,e,ey,l⟩ | ⟨z_,k,b,e,ey,eb,l⟩
 · subst ey
   let⟨z,hd,vs,rel,dd⟩:=yD I.hok e;refine call_meetsIn abQ dd.typeIs adp (adg _ _) (meets_dict_get (hV X.prog X.w) a (uj ry) hd) ⟨_,dd.mapOf,h _ _ (I.tok _) ?_⟩;rw[l];exact(rel.val k).getD rfl
 · subst ey
   cases (show u=qh b from ry);let⟨z,hd,xs,rel,dd⟩:=A7 I.hok e;refine call_meetsIn abQ dd.typeIs adp (adg _ _) (meetsH_dict_get (tupleKind (hV X.prog X.w)) a b hd) ⟨tupleKind_room_in1 hu,k,xs,xE I.hok eb,dd,h _ _ (I.tok _) ?_⟩;rw[l];exact(rel.val k).getD rfl
end
def Ub (td ty:TE): TE:=λσ H Q=>td σ H λx H1=>∃a,x=.ref a/\IsD H1 a/\ty σ H1 λy H2=>∃o,kg H2 a y o/\Q (o.getD .non) H2
def Uc (td ty:TE): TE:=λσ H Q=>td σ H λx H1=>∃a,x=.ref a/\IsD H1 a/\ty σ H1 λy H2=>∃z_ k v,H2 a=some (.dK z_)/\y=kV k/\fE z_ k=some v/\Q v (upd H2 a (.dK (h_ z_ k)))
def Ud (td ty tx:TE): TE:=λσ H Q=>td σ H λx H1=>∃a,x=.ref a/\IsD H1 a/\ty σ H1 λy H2=>tx σ H2 λz H3=>∃z_ k,H3 a=some (.dK z_)/\y=kV k ∧
 (∀v,fE z_ k=some v->Q v (upd H3 a (.dK (h_ z_ k))))/\(fE z_ k=none->Q z H3)
section
variable {X:Cx}{o e f:Expr}{apos cpos:Pos}{td ty tx:TE}
def GA (hu:X.A.units+1 < cLine) (ho:PE X o td) (he:PE X e ty) (m:M1 X o "get" apos e cpos):PE X (.Call (.Attribute o "get" apos) [e] [] cpos) (Ub td ty):=by
 intro zk s σ H Q I h;refine wpAny_Call_method m.base m.few m.line aaW abQ PySem.F.type_dict_get (ZQ (ho zk s σ H _ I h) λu s1 hz_=>?_);let⟨x,H1,I1,rx,a,ex,d,q1⟩:=hz_;walk_at "0j";let⟨t1,t2,_⟩:=EZ I1 d;refine⟨t1,t2,?_⟩;rw[m.trees];refine QS rfl (Qx (Qu (ZQ (he zk s1 σ H1 _ I1 q1) λiv s2 ⟨y,H2,I2,ry,ov,g,q2⟩=>QY ?_)));exact Ua hu I2 g ry λw' s3 I3 rw'=>⟨_,H2,I3,rw',q2⟩
def mV (ho:PE X o td) (he:PE X e ty) (m:M1 X o "pop" apos e cpos):PE X (.Call (.Attribute o "pop" apos) [e] [] cpos) (Uc td ty):=by
 intro zk s σ H Q I h;refine wpAny_Call_method m.base m.few m.line aaW abh adG (ZQ (ho zk s σ H _ I h) λu s1 hz_=>?_);let⟨x,H1,I1,rx,a,ex,d,q1⟩:=hz_;walk_at "0j";let⟨t1,t2,_⟩:=EZ I1 d;refine⟨t1,t2,?_⟩;rw[m.trees];refine QS rfl (Qx (Qu (ZQ (he zk s1 σ H1 _ I1 q1) λiv s2 ⟨y,H2,I2,ry,z_,k,v,ea,ey,l,q2⟩=>QY ?_)));subst ey;exact SG I2 ea ry l (.inl rfl) λw' s3 I3 rw'=>⟨v,_,I3,rw',q2⟩
def MM (ho:PE X o td) (he:PE X e ty) (hf:PE X f tx) (m:M2 X o "pop" apos e f cpos):PE X (.Call (.Attribute o "pop" apos) [e,f] [] cpos) (Ud td ty tx):=by
 intro zk s σ H Q I h;refine wpAny_Call_method m.base m.few m.line aaW abh adG (ZQ (ho zk s σ H _ I h) λu s1 hz_=>?_);let⟨x,H1,I1,rx,a,ex,d,q1⟩:=hz_;walk_at "0j";let⟨t1,t2,_⟩:=EZ I1 d;refine⟨t1,t2,?_⟩;rw[m.trees];refine QS rfl (Qx (Qu (ZQ (he zk s1 σ H1 _ I1 q1) λiv s2 ⟨y,H2,I2,ry,q2⟩ =>
   Qu (ZQ (hf zk s2 σ H2 _ I2 q2) λfv s3 ⟨z,H3,I3,rz,z_,k,ea,ey,q3,q4⟩=>QY ?_))))
 subst ey;cases l:fE z_ k with
 | some v=>exact SG I3 ea ry l (.inr ⟨fv,rfl⟩) λw' s4 I4 rw'=>⟨v,_,I4,rw',q3 v l⟩
 | none=>exact T8 I3 ea ry l λs4 I4=>⟨z,H3,I4,rz,q4 l⟩
end
section
variable {X:Cx}{zk:zh}{σ:St}{H:Hp}{s:Shared}{a:Addr}{z_:zv}{A:Around}{E:ze}
end
section
variable {X:Cx}{zk:zh}{σ:St}{H:Hp}{s:Shared}{a:Addr}{y:V}{u:Value}{A:Around}{E:ze}
end
section
variable {X:Cx}
def KZ:oV X (.builtin "len") (λxs H Q=>∃a z_,xs=[V.ref a]/\H a=some (.dK z_)/\Q (.int z_.length) H):=by
 intro zk s σ H xs us Q I r h;let⟨a,z_,rfl,ha,q⟩:=h;let⟨u,rfl,ru⟩:=vals1 r;cases ru;exact V4 I (.inl ha) λt s' I'=>⟨.int z_.length,H,I',⟨t,rfl⟩,q⟩
end
section
variable {κ:Type}[DecidableEq κ]
def A_ {z_:List (κ×V)}{k:κ}(h:fE z_ k=none): ¬k∈z_.map (·.1):=by
 intro m;let⟨p,hp,e⟩:=Qa.mp m;have q:(z_.any λkv=>decide (kv.1=k))=true:=List.any_eq_true.mpr ⟨p,hp,decide_eq_true e⟩;rw[lT,h] at q;exact absurd q (by simp)
def JY:∀{l:List κ} {k:κ},l.Nodup->¬k∈l->(l++[k]).Nodup
 | [],k,_,_=>by simp
 | a::r,k,h,hk=>by
   let⟨h1,h2⟩:=Qs.mp h;show (a::(r++[k])).Nodup;refine Qs.mpr ⟨λm=>?_,JY h2 λm=>hk (qk.mpr (aci m))⟩;rcases q_.mp m with q | q
   · exact h1 q
   · exact hk (qk.mpr (acG (qc.mp q).symm))
def E1 {z_:List (κ×V)}{k:κ}(v:V)(hn:(z_.map (·.1)).Nodup)(h:fE z_ k=none): ((putK z_ k v).map (·.1)).Nodup:=by
 rw[sD v h,qu];exact JY hn (A_ h)
def xF {p:κ×V}{r:List (κ×V)}{k:κ}(e:p.1=k): h_ (p::r) k=h_ r k:=by
 unfold h_;rw[Q_,if_neg (by simp[e])]
def xG {p:κ×V}{r:List (κ×V)}{k:κ}(e:¬p.1=k): h_ (p::r) k=p::h_ r k:=by
 unfold h_;rw[Q_,if_pos (by simp[e])]
def K0 {z_:List (κ×V)}{k:κ}{p:κ×V}(h:p∈h_ z_ k): p∈z_:=(abB.mp h).1
def sG:∀{z_:List (κ×V)} {k:κ},(z_.map (·.1)).Nodup->((h_ z_ k).map (·.1)).Nodup
 | [],_,_=>aaX
 | p::r,k,h=>by
   have h:(p.1::r.map (·.1)).Nodup:=h;let⟨h1,h2⟩:=Qs.mp h;by_cases e:p.1=k
   · rw[xF e]
     exact sG h2
   · rw[xG e]
     show (p.1::(h_ r k).map (·.1)).Nodup;refine Qs.mpr ⟨λm=>h1 ?_,sG h2⟩;let⟨q,hq,eq⟩:=Qa.mp m;exact Qa.mpr ⟨q,K0 hq,eq⟩
end
end L2
namespace L2
open PySem
def tY (h:Heap)(a:Addr)(cls:Value)(dct:zo)(hd:Value): Prop :=
 ∃oe vs,h.get? a=some oe/\oe.cls=cls/\oe.dict=dct/\oe.data=.fields vs/\vs[1]?=some hd ∧
   (hd=.none\/∃T oT ts,hd=.ref T/\T≠a/\h.get? T=some oT/\oT.data=.fields ts/\ts[3]?=some .none)
def xH (o:Obj)(f:zp->Array Value): (o.mapFields f).dict=o.dict:=by
 let⟨c,d,dt,sl⟩:=o;cases dt<;>rfl
section
variable {M:Model}{A:Around}{E:ze}{s:Shared}
def xI {base:Heap}{env:Env}{outer:zC}{L a:Addr}{oe:Obj}{vs:zp}{hd:Value}{b:Bool}{Q:zg}
   (hfr:A.frames=some (env::outer)) (hl:s.heap.FunFrames base (env::outer)) (hf:env.frame=some L) (he:s.heap.get? a=some oe) (hdt:oe.data=.fields vs) (h1:1 < vs.size)
   (h:∀(h':Heap) (T:Addr),s.heap.get? T=none->T≠a->(∀b o,b≠a->b∉(env::outer).filterMap (·.frame)->s.heap.get? b=some o->h'.get? b=some o) ->
     (∀b o,b≠a->s.heap.get? b=some o->∃sl,h'.get? b=some { o with slots:=sl })->tY h' a oe.cls oe.dict (.ref T)->Q () { s with heap:=h' }) :
   wpAny M A (do setField (.ref a) 1 (<-abw hd (<-frameOf env) .none (rawInt L) .none (<-entryPlaceOf L b))) (λ_ s'=>wpAny M A (setFlight (.ref a) none) Q E s') E s:=by
 have na:a∉(env::outer).filterMap (·.frame):=λhm=>by
   let⟨_,o,ho,hn⟩:=hl.mem hm;rw[he] at ho;cases ho;exact hn vs hdt
 refine wpAny_bind (wpAny_frameOf_fun hfr hl hf λh₁ hs=>?_);refine wpAny_bind (wpAny_entryPlaceOf λpl hpl=>?_);unfold abw newFields;refine wpAny_bind (wpAny_newObj_type ?_ (hpl.sizeOk5 _ _ _ _ _));generalize hts:([hd,qh L,qD,rawInt L,qD]++(if pl.isEmpty then qq 6 qD else pl)).toArray=ts;have hsz:3 < ts.size:=by
   rw[<-hts];simp only [qo,qd,qJ,abE];lia
 have e1:h₁.get? a=some oe:=(hs.2.1 a na).trans he;have lt1:h₁.objs.size≠a:=adi (qj e1);have e2:(h₁.push { cls:=.type "traceback",dict:=none,data:=.fields ts }).get? a=some oe:=qb _ e1;refine wpAny_setField e2 hdt h1 ?_;have d3:=qL hdt (·.setIfInBounds 1 (qh h₁.objs.size));have e3:=qC (qK (·.setIfInBounds 1 (qh h₁.objs.size))) e2 (qS d3);have t3:((h₁.push { cls:=.type "traceback",dict:=none,data:=.fields ts }).update a (qK (·.setIfInBounds 1 (qh h₁.objs.size)))).get? h₁.objs.size=some { cls:=.type "traceback",dict:=none,data:=.fields ts }:=by
   rw[qt _ _ (qX lt1)];exact qp h₁ rfl
 unfold setFlight;refine wpAny_bind (wpAny_field e3 d3 (x:=.ref h₁.objs.size) (by simp[h1]) ?_);rw[if_pos (show (qh h₁.objs.size != qD)=true by simp)];refine wpAny_setField t3 rfl hsz ?_;have keep:∀b o,b≠a->h₁.get? b=some o->(((h₁.push { cls:=.type "traceback",dict:=none,data:=.fields ts }).update a (qK (·.setIfInBounds 1 (qh h₁.objs.size)))).update h₁.objs.size
     (qK (·.setIfInBounds 3 ((none:zo).elim qD λf=>rawInt f)))).get? b=some o:=λb o nb e=>by
   rw[qt _ _ (adi (qj e)),qt _ _ (qX nb)];exact qb _ e
 refine h _ h₁.objs.size ?_ lt1 (λb o nb nf e=>keep b o nb ((hs.2.1 b nf).trans e)) (λb o nb e=>?_) ?_
 · rw[hs.1]
   exact QL (qe _)
 · let⟨sl,q⟩:=hs.2.2 b o e
   exact⟨sl,keep b _ nb q⟩
 · refine⟨_,_,?_,abL oe (·.setIfInBounds 1 (qh h₁.objs.size)),xH oe (·.setIfInBounds 1 (qh h₁.objs.size)),d3,by simp[h1],.inr ⟨h₁.objs.size,_,_,rfl,lt1,
     qC _ t3 (qS (qL rfl _)),qL rfl _,by simp[hsz]⟩⟩
   rw[qt _ _ lt1];exact e3
def GB {base:Heap}{env:Env}{outer:zC}{L a:Addr}{cls hd:Value}{dct:zo}{Q:zg}
   (hfr:A.frames=some (env::outer)) (hl:s.heap.FunFrames base (env::outer)) (hf:env.frame=some L) (hx:tY s.heap a cls dct hd)
   (h:∀(h':Heap) (T:Addr),s.heap.get? T=none->T≠a->(∀b o,b≠a->hd≠.ref b->b∉(env::outer).filterMap (·.frame)->s.heap.get? b=some o->h'.get? b=some o) ->
     (∀b o,b∈(env::outer).filterMap (·.frame)->s.heap.get? b=some o->∃sl,h'.get? b=some { o with slots:=sl })->tY h' a cls dct (.ref T)->Q () { s with heap:=h' }) :
   wpAny M A (noteFrame (.ref a) env) (λ_ s'=>wpAny M A (setFlight (.ref a) none) Q E s') E s:=by
 let⟨oe,vs,he,rfl,rfl,hdt,h1,hc⟩:=hx;have fr:∀b o,b∈(env::outer).filterMap (·.frame)->s.heap.get? b=some o->∀ws,o.data≠.fields ws:=λb o hb e=>by
   let⟨_,o',ho,hn⟩:=hl.mem hb;rw[e] at ho;cases ho;exact hn
 have na:∀b o,b∈(env::outer).filterMap (·.frame)->s.heap.get? b=some o->b≠a:=λb o hb e z=>by
   subst z;rw[e] at he;cases he;exact fr _ _ hb e vs hdt
 have z1:=(qy.mp h1).1;unfold noteFrame;simp only [hf];refine wpAny_bind (wpAny_field he hdt h1 ?_);rcases hc with rfl | ⟨T,oT,ts,rfl,hTa,hT,hTd,h3⟩
 · rw[if_neg (by decide)]
   refine xI hfr hl hf he hdt z1 λh' T' n1 n2 k1 k2 fl=>h h' T' n1 n2 (λb o nb _ nf e=>k1 b o nb nf e) (λb o hb e=>k2 b o (na b o hb e) e) fl
 · rw[if_pos (show (qh T != qD)=true by simp)]
   refine wpAny_bind (wpAny_field hT hTd h3 ?_);rw[if_neg (show ¬((qD==rawInt L)=true) by simp[rawInt])];refine wpAny_bind (wpAny_setField hT hTd (qy.mp h3).1 ?_);have oth:∀b,b≠T->(s.heap.update T (qK (·.setIfInBounds 3 qD))).get? b=s.heap.get? b:=λb nb=>qt _ _ (qX nb);have fT:∀b o,s.heap.get? b=some o->(∀ws,o.data≠.fields ws)->b≠T:=λb o e hn z=>by
     rw[z,hT] at e;cases e;exact hn ts hTd
   refine xI (s:={ s with heap:=s.heap.update T (qK (·.setIfInBounds 3 qD)) }) hfr (hl.of_keeps λb o e hn=>⟨o,(oth b (fT b o e hn)).trans e,rfl⟩) hf ((oth a (qX hTa)).trans he) hdt z1
     λh' T' n1 n2 k1 k2 fl=>h h' T' ?_ n2 (λb o nb nT nf e=>k1 b o nb nf ((oth b (λz=>nT (by rw[z]))).trans e)) (λb o hb e=>k2 b o (na b o hb e) ((oth b (fT b o e (fr b o hb e))).trans e)) fl
   cases q:s.heap.get? T' with
   | none=>rfl
   | some o =>
     by_cases z:T'=T
     · subst z
       have:=qC (qK (·.setIfInBounds 3 qD)) hT (qS (qL hTd _));rw[this] at n1;cases n1
     · have n1':(s.heap.update T (qK (·.setIfInBounds 3 qD))).get? T'=none:=n1
       rw[oth T' z,q] at n1';cases n1'
def K1 {base:Heap}{env:Env}{outer:zC}{L a:Addr}{cls hd:Value}{dct:zo}{Q:zg}
   (hfr:A.frames=some (env::outer)) (hl:s.heap.FunFrames base (env::outer)) (hf:env.frame=some L) (hx:tY s.heap a cls dct hd)
   (h:∀(h':Heap) (T:Addr),s.heap.get? T=none->T≠a->(∀b o,b≠a->hd≠.ref b->b∉(env::outer).filterMap (·.frame)->s.heap.get? b=some o->h'.get? b=some o) ->
     (∀b o,b∈(env::outer).filterMap (·.frame)->s.heap.get? b=some o->∃sl,h'.get? b=some { o with slots:=sl })->tY h' a cls dct (.ref T)->Q () { s with heap:=h' }) :
   wpAny M A (leaving env (.ref a)) Q E s:=by
 unfold leaving;exact wpAny_bind (GB hfr hl hf hx h)
def MN {a T:Addr}{cls:Value}{dct:zo}{Q:zg}(hx:tY s.heap a cls dct (.ref T))
   (h:∀h',(∀b o,b≠T->s.heap.get? b=some o->h'.get? b=some o)->tY h' a cls dct (.ref T)->Q () { s with heap:=h' }):wpAny M A (setFlight (.ref a) none) Q E s:=by
 let⟨oe,vs,he,rfl,rfl,hdt,h1,hc⟩:=hx;rcases hc with z | ⟨T',oT,ts,z,hTa,hT,hTd,h3⟩
 · cases z
 · cases z
   unfold setFlight;refine wpAny_bind (wpAny_field he hdt h1 ?_);rw[if_pos (show (qh T != qD)=true by simp)];have z3:=(qy.mp h3).1;have oth:∀b,b≠T->(s.heap.update T (qK (·.setIfInBounds 3 ((none:zo).elim qD λf=>rawInt f)))).get? b=s.heap.get? b:=λb nb=>qt _ _ (qX nb);refine wpAny_setField hT hTd z3 (h _ (λb o nb e=>(oth b nb).trans e) ⟨oe,vs,(oth a (qX hTa)).trans he,rfl,rfl,hdt,h1,.inr ⟨T,_,_,rfl,hTa,qC _ hT (qS (qL hTd _)),qL hTd _,?_⟩⟩);simp[z3]
end
end L2
namespace L2
open PySem PySem.Spec PyProof.Rows
def MO (h0 h:Heap)(H:Hp)(a:Addr)(cls:Value)(dct:zo): Prop :=
 ∃hd,tY h a cls dct hd/\H a=none/\h0.get? a=none/\∀T,hd=.ref T->H T=none/\h0.get? T=none
def CXE (P:Program)(w:World): CXT:=λouter H s E e s'=>∃a cls dct H',e=.ref a/\s'.os=s.os/\AllBare s'.gens/\Un (frs outer) [] H H' s.heap s'.heap/\HOk P w H' s'.heap/\MO s.heap s'.heap H' a cls dct/\E cls dct H'
def gN.there {P:Program}{w:World}{H:Hp}{h:Heap}{a:Addr}{o:HO}(x:gN P w H h a o): ∃ob,h.get? a=some ob:=by
 cases o with
 | lst xs=>let⟨_,_,_,_,e⟩:=x;exact⟨_,e⟩
 | tup xs=>let⟨_,_,_,ob,e,_⟩:=x;exact⟨_,e⟩
 | dK z_=>let⟨_,_,_,_,o,_,_,e,_⟩:=x;exact⟨_,e⟩
 | dT z_=>let⟨_,_,_,_,o,_,_,e,_⟩:=x;exact⟨_,e⟩
 | set S n=>let⟨o,_,_,_,e,_⟩:=x;exact⟨_,e⟩
 | ins C dx fs=>let⟨_,_,_,e,_⟩:=x;exact⟨_,e⟩
 | own y=>exact x
 | xd fs=>let⟨_,⟨_,_,_,e,_⟩,_⟩:=x;exact⟨_,e⟩
 | rng lo hi=>let⟨_,_,_,e⟩:=x;exact⟨_,e⟩
 | frz ob u=>let⟨e,_⟩:=x;exact⟨_,e⟩
 | tbl ps=>exact⟨_,(show h.get? a=some _ from x)⟩
 | met f y=>exact⟨_,(show h.get? a=some _ from x)⟩
 | ext φ=>let⟨_,e,_⟩:=x;exact e
def E2 {env:Env}{l:zC}{b:Addr}(hb:b∈frs l): b∈frs (env::l):=by
 unfold frs at *;rw[abv];cases env.frame with
 | none=>exact hb
 | some L=>exact qB _ hb
section
variable {X:Cx}{zk:zh}{σ:St}{H H':Hp}{s:Shared}{h':Heap}{a T:Addr}{cls hd:Value}{dct:zo}
def mF (I:ZZ X zk σ H s)(hex:X.ex=[])(n:s.heap.get? a=none): X.s₀.heap.get? a=none:=by
 cases e:X.s₀.heap.get? a with
 | none=>rfl
 | some o =>
   let⟨o1,e1⟩:=I.base.there a o e (by rw[hex];simp);rw[n] at e1;cases e1
def E3 (I:ZZ X zk σ H s)(keep:∀b o,b≠a->hd≠.ref b->b∉frs X.stack->s.heap.get? b=some o->h'.get? b=some o)(ha:H a=none)(hT:∀T,hd=.ref T->H T=none): HOk X.prog X.w H h':=λb u e=>by
 have tr:∀c v,H c=some v->c≠a/\hd≠.ref c/\c∉frs X.stack:=λc v q=>⟨aj q ha,λz=>(by rw[hT c z] at q;cases q),λz=>(by rw[I.ED c z] at q;cases q)⟩;refine(I.hok b u e).stay (λc v hc q=>?_) (λ_ q=>q) λ_ _ q=>q;obtain⟨z,hz⟩:∃v,H c=some v:=by
   rcases hc with rfl | hc
   · exact⟨_,e⟩
   · exact⟨_,hc⟩
 exact keep c v (tr c z hz).1 (tr c z hz).2.1 (tr c z hz).2.2 q
def Ba (I:ZZ X zk σ H s)(n:s.heap.get? T=none): H T=none:=by
 cases q:H T with
 | none=>rfl
 | some u =>
   let⟨ob,e⟩:=(I.hok T u q).there;rw[n] at e;cases e
def JZ (I:ZZ X zk σ H s)(hex:X.ex=[])(hst:X.stack=X.env::X.outer)(ha:H a=none)(na:X.s₀.heap.get? a=none)(hT:∀T,hd=.ref T->H T=none/\X.s₀.heap.get? T=none)
   (nT:s.heap.get? T=none) (keep:∀b o,b≠a->hd≠.ref b->b∉frs X.stack->s.heap.get? b=some o->h'.get? b=some o)
   (slot:∀b o,b∈frs X.stack->s.heap.get? b=some o->∃sl,h'.get? b=some { o with slots:=sl }) (fl:tY h' a cls dct (.ref T)) :
   Un (frs X.outer) [] X.H₀ H X.s₀.heap h'/\HOk X.prog X.w H h'/\MO X.s₀.heap h' H a cls dct:=by
 have s0a:∀b o,X.s₀.heap.get? b=some o->b≠a/\hd≠.ref b:=λb o e=>⟨λz=>(by rw[z,na] at e;cases e),λz=>(by rw[(hT b z).2] at e;cases e)⟩;have s0L:∀b o,X.s₀.heap.get? b=some o->b∈frs X.stack->b∈frs X.outer:=λb o e hb=>by
   rcases qk.mp (I.mP b hb) with z | z
   · rw[z] at e
     exact absurd (qz (qj e) I.ok.above) (Qj _)
   · exact z
 have uN:∀b:Addr,b∉X.ex:=λb=>by rw[hex];simp
 refine⟨⟨λb o e n hb _=>?_,λb o e n hb _=>?_,λb o e n _=>I.base.free b o e n (uN b),λb o e _=>?_,I.base.tups,I.base.uM,I.base.vH⟩,E3 I keep ha λT z=>(hT T z).1,?_⟩
 · exact keep b o (s0a b o e).1 (s0a b o e).2 (λz=>hb (s0L b o e z)) (I.base.keep b o e n hb (uN b))
 · let⟨sl,e1⟩:=I.base.slot b o e n hb (uN b)
   let⟨sl',e2⟩:=slot b _ (by rw[hst];exact E2 hb) e1;exact⟨sl',e2⟩
 · let⟨o1,e1⟩:=I.base.there b o e (uN b)
   by_cases hb:b∈frs X.stack
   · let⟨sl,e2⟩:=slot b o1 hb e1
     exact⟨_,e2⟩
   · exact⟨_,keep b o1 (s0a b o e).1 (s0a b o e).2 hb e1⟩
 · exact⟨.ref T,fl,ha,na,λT' z=>by cases z;exact⟨Ba I nT,mF I hex nT⟩⟩
abbrev zV:=St->XK
def fX (CX:CXT)(X:Cx)(E:zV): Prop:=∀(zk:zh) (σ:St) (H:Hp) (s:Shared) (e:Value) (s':Shared),ZZ X zk σ H s->CX X.stack H s (E σ) e s'->X.xe e s'
end
section
variable {P:Program}{w:World}{K:qv}{mg:zf}{base:Heap}{N:zq}{qual:Str}{scope:Scope}{f:Addr}{cd:Value}{A:Around}{outer:zC}{s:Shared}{H:Hp}{E:XK}
def iJ:fX (CXE P w) (lX (CXE P w) P w K mg base N qual scope f cd A outer s H E) (λ_=>E):=by
 intro zk σ H1 s1 e s2 I hx;let⟨a,cls,dct,H2,he,hos,hg,un,hok,⟨hd,fl,ha,na,hT⟩,q⟩:=hx;subst he;have I2:ZZ (lX (CXE P w) P w K mg base N qual scope f cd A outer s H E) zk σ H2 s2:=I.call' hos un hok hg (λb z=>absurd z (by simp));show wpAny _ _ (leaving _ (.ref a)) _ _ s2;refine K1 (env:=envOfC qual scope s.heap.objs.size f cd) (outer:=outer) I.ok.frames I2.stack rfl fl λh' T n1 n2 k1 k2 fl'=>?_;let⟨y1,y2,y3⟩:=JZ I2 rfl rfl ha (mF I rfl na) (λT z=>⟨(hT T z).1,mF I rfl (hT T z).2⟩) n1 k1 k2 fl';exact⟨a,cls,dct,H2,rfl,I2.os,I2.bare,y1,y2,y3,q⟩
def J0:PassesOwn (model P w) (A.deeper (envOfC qual scope s.heap.objs.size f cd)) (envOfC qual scope s.heap.objs.size f cd) (lX (CXE P w) P w K mg base N qual scope f cd A outer s H E).xe:=PassesOwn.leaving
end
section
variable {P:Program}{w:World}{K:qv}{mg:zf}{base:Heap}
end
def E4 (sp:Sp)(Zz:zu)(E:zV)(t:TA): TE:=λσ H Q=>t σ H λvs H1=>sp (vs++Zz) H1 Q (E σ)
def xJ (C:Addr)(m:Str)(sp:Sp)(Zz:zu)(E:zV)(ta:TE)(t:TA): TE:=λσ H Q=>ta σ H λx H1=>∃a dx fs,x=.ref a/\H1 a=some (.ins C dx fs)/\fs.lookup m=none ∧
 t σ H1 λvs H2=>sp (x::(vs++Zz)) H2 Q (E σ)
def E5 (C:Addr)(sp:Sp)(Zz:zu)(E:zV)(t:TA): TE:=λσ H Q=>t σ H λvs H1=>∀x dx,H1 x=none->H1 dx=none->dx≠x ->
 sp (.ref x::(vs++Zz)) (upd (upd H1 dx (.own x)) x (.ins C dx [])) (λv H2=>v=.non/\Q (.ref x) H2) (E σ)
section
variable {X:Cx}{CX:CXT}{k:Nat}{f C:Addr}{fd:FuncData}{ps:zq}{sp:Sp}{Zz:zu}{ds:zi}{E:zV}{x m:Str}{p pos apos:Pos}{e o:Expr}{es:zx}{ta:TE}{t:TA}
def vR {zk:zh}{σ:St}{H:Hp}{s:Shared}{Q:VK}{us:zi}{vs:zu}(F:lw X.prog X.w X.K X.mg X.base CX k f fd ps sp)(hr:iH k X.A)(hb:Binds X.K fd ps ds)(hd:Vals Zz ds)(hx:fX CX X E)
   (I:ZZ X zk σ H s) (r:Vals vs us) (h:sp (vs++Zz) H Q (E σ)):wpAny (model X.prog X.w) X.A (call (.ref f) us) (EP X zk σ Q) X.xe s:=by
 have r2:Vals (vs++Zz) (us++ds):=r.append hd;have hl:(us++ds).length=ps.length:=by rw[<-r2.length];exact F.len _ _ _ _ h
 refine wpAny_call (codeAny_mono (F.run X.A X.stack s H ⟨us,[]⟩ (us++ds) (vs++Zz) Q (E σ) hr I.env0 (hb s us I.kIn hl) r2 h) λr s' hq=>?_);cases r with
 | error e=>exact hx zk σ H s e s' I hq
 | ok fl =>
   cases fl with
   | ret u=>exact I.after hq
   | next=>exact Qp hq
   | brk=>exact Qp hq
   | cont=>exact Qp hq
def MQ (F:lw X.prog X.w X.K X.mg X.base CX k f fd ps sp)(hr:iH k X.A)(hg:Gl X x)(hm:X.mg x=some (.ref f))(hk:QQ X.K (.ref f)=true)(hb:Binds X.K fd ps ds)(hd:Vals Zz ds)(hx:fX CX X E)
   (ha:PA X (e::es) t) (hdb:(x==("__debug__" : Str))=false:=by decide) (he:starEach (e::es) X.env=(false,eval e X.env)::starEach es X.env:=by rfl) (hpl:(backTo pos (starEach es X.env)).any (·.1)=false:=by rfl) :
   PE X (.Call (.Name x p) (e::es) [] pos) (E4 sp Zz E t):=by
 intro zk s σ H Q I h;refine wpAny_Call_Name_kw (lO I hg hm ?_ hdb);refine acw (h₀:=X.base) I.ok.mod.kin hk (ZQ (ha pos zk s σ H _ I h) λus s1 ⟨vs,H1,I1,r,q⟩=>⟨I1.kIn,?_⟩) he hpl;exact vR F hr hb hd hx I1 r q
def MR {pl:zX}(he:PE X o ta)(c:Zw X.K C)(hm:Meth X.K C m f)(F:lw X.prog X.w X.K X.mg X.base CX k f fd ps sp)(hr:iH k X.A)(hb:Binds X.K fd ps ds)(hd:Vals Zz ds)(hx:fX CX X E)(ha:PA X (e::es) t)
   (hst:starEach (e::es) X.env=(false,eval e X.env)::starEach es X.env:=by rfl) (hpl:(backTo pos (starEach es X.env)).any (·.1)=false:=by rfl)
   (ht:eval (.Call (.Attribute o m apos) (e::es) [] pos) X.env=(do
     let ov <-eval o X.env
     standAt apos.atName
     let (f,first) <-holding [ov] (getMethod ov m pl)
     callWith pos f first (backTo pos (starEach (e::es) X.env)) (backToKw pos (keywordEach [] X.env))):=by rfl) :
   PE X (.Call (.Attribute o m apos) (e::es) [] pos) (xJ C m sp Zz E ta t):=by
 intro zk s σ H Q I h;refine abF (pl:=pl) (ZQ (he zk s σ H _ I h) λu s1 hz_=>?_) ht;let⟨x,H1,I1,rx,a,dx,fs,ex,ea,l,q⟩:=hz_;walk_at "0j";refine uP I1 ea c hm l ?_;refine acw (first:=[.ref a]) (h₀:=X.base) I.ok.mod.kin hm.kp (ZQ (ha pos zk s1 σ H1 _ I1 q) λus s2 ⟨vs,H2,I2,r,q2⟩=>⟨I2.kIn,?_⟩) hst hpl;exact vR (us:=.ref a::us) (vs:=.ref a::vs) F hr hb hd hx I2 (.cons rfl r) q2
def K2 {pl:zX}(he:PE X o ta)(c:Zw X.K C)(hm:Meth X.K C m f)(F:lw X.prog X.w X.K X.mg X.base CX k f fd ps sp)(hr:iH k X.A)(hb:Binds X.K fd ps ds)(hd:Vals Zz ds)(hx:fX CX X E)
   (ht:eval (.Call (.Attribute o m apos) [] [] pos) X.env=(do
     let ov <-eval o X.env
     standAt apos.atName
     let (f,first) <-holding [ov] (getMethod ov m pl)
     callWith pos f first (backTo pos (starEach [] X.env)) (backToKw pos (keywordEach [] X.env))):=by rfl) :
   PE X (.Call (.Attribute o m apos) [] [] pos) (xJ C m sp Zz E ta KR):=by
 intro zk s σ H Q I h;refine abF (pl:=pl) (ZQ (he zk s σ H _ I h) λu s1 hz_=>?_) ht;let⟨x,H1,I1,rx,a,dx,fs,ex,ea,l,q⟩:=hz_;walk_at "0j";refine uP I1 ea c hm l ?_;exact W.callWith_K0 (first:=[.ref a]) I1.kIn hm.kp (vR (us:=[.ref a]) (vs:=[.ref a]) F hr hb hd hx I1 (.cons rfl .nil) q)
def Eb {zk:zh}{σ:St}{H:Hp}{s:Shared}{Q:VK}{us:zi}{vs:zu}(M:Mk X.K C f)(F:lw X.prog X.w X.K X.mg X.base CX k f fd ps sp)(hr:iH (k+1) X.A)(hb:Binds X.K fd ps ds)(hd:Vals Zz ds)
   (hx:∀(H2:Hp) (s2:Shared) (e:Value) (s':Shared),ZZ X zk σ H2 s2->CX X.stack H2 s2 (E σ) e s'->X.xe e s') (I:ZZ X zk σ H s) (r:Vals vs us)
   (h:∀x dx,H x=none->H dx=none->dx≠x->sp (.ref x::(vs++Zz)) (upd (upd H dx (.own x)) x (.ins C dx [])) (λv H2=>v=.non/\Q (.ref x) H2) (E σ)) :
   wpAny (model X.prog X.w) X.A (call (.ref C) us) (EP X zk σ Q) X.xe s:=by
 have hq:=h (s.heap.objs.size+1) s.heap.objs.size (I.hok.fresh (adP _)) (I.hok.fresh (qe _)) (qH (abT _));have I2:=ZZ.made (C:=C) I;have r2:Vals (V.ref (s.heap.objs.size+1)::(vs++Zz)) (qh (s.heap.objs.size+1)::(us++ds)):=.cons rfl (r.append hd);have hl:(qh (s.heap.objs.size+1)::us++ds).length=ps.length:=by
   have e:=r2.length;rw[F.len _ _ _ _ hq] at e;exact e.symm
 refine wpAny_call (ME (f:=f) I.kIn M.makes M.init (beq_iff_eq.mp M.fn) (codeAny_mono (F.run _ X.stack _ _ ⟨qh (s.heap.objs.size+1)::us,[]⟩ (qh (s.heap.objs.size+1)::(us++ds)) _ _ (E σ) (hr.make C us [])
   (I2.env0.make C us []) (hb _ (qh (s.heap.objs.size+1)::us) I2.kIn hl) r2 hq) λr s' hq'=>?_))
 cases r with
 | error e=>exact hx _ _ e s' I2 hq'
 | ok fl =>
   cases fl with
   | ret u =>
     let⟨v,H',I3,rv,ev,q3⟩:=I2.after hq';subst ev;exact⟨rv,⟨V.ref (s.heap.objs.size+1),H',I3,rfl,q3⟩⟩
   | next=>exact Qp hq'
   | brk=>exact Qp hq'
   | cont=>exact Qp hq'
def MS (M:Mk X.K C f)(F:lw X.prog X.w X.K X.mg X.base CX k f fd ps sp)(hr:iH (k+1) X.A)(hg:Gl X x)(hm:X.mg x=some (.ref C))(hb:Binds X.K fd ps ds)(hd:Vals Zz ds)(hx:fX CX X E)
   (ha:PA X (e::es) t) (hdb:(x==("__debug__" : Str))=false:=by decide) (he:starEach (e::es) X.env=(false,eval e X.env)::starEach es X.env:=by rfl) (hpl:(backTo pos (starEach es X.env)).any (·.1)=false:=by rfl) :
   PE X (.Call (.Name x p) (e::es) [] pos) (E5 C sp Zz E t):=by
 intro zk s σ H Q I h;refine wpAny_Call_Name_kw (lO I hg hm ?_ hdb);refine acw (h₀:=X.base) I.ok.mod.kin M.kp (ZQ (ha pos zk s σ H _ I h) λus s1 ⟨vs,H1,I1,r,q⟩=>⟨I1.kIn,?_⟩) he hpl;exact Eb M F hr hb hd (λH2 s2 e s' J z=>hx zk σ H2 s2 e s' J z) I1 r q
end
def bmV:zi:=[.type "ValueError",.type "Exception",.type "BaseException",.type "object"]
def sH (K:qv)(C:Addr): Prop:=W.excIn K C bmV "ValueError.__new__" = true
def sH.obj {K:qv}{C:Addr}(q:sH K C): ∃bm N nm qn bs hdct sn sub ab col dd k0 k1 k2 k3 k5,W.nsOkIn K N=true/\qY K N "__init__" = some none/\W.tailIn K bmV bm=true ∧
   K.lookup C=some (excClassObj nm qn C N bs bm hdct sn sub ab col dd k0 k1 k2 k3 k5 "ValueError.__new__"):=by
 unfold sH W.excIn at q;split at q
 · next dd cd sl lk =>
   split at q
   · next C' bm k0 k1 k2 k3 nid k5 em es =>
     simp only [Q9,beq_iff_eq,Bool.not_eq_true'] at q;let⟨⟨⟨⟨⟨e1,e2⟩,e3⟩,e4⟩,e5⟩,e6⟩:=q;subst e1;subst e2;let⟨nm,bs,mro,ns,qn,hdct,sn,sub,ab,col,del⟩:=cd;dsimp only at em e3 e5 e6;subst em;subst e3;let⟨sll⟩:=sl;dsimp only at es;subst es;exact⟨bm,ns,nm,qn,bs,hdct,sn,sub,ab,col,dd,k0,k1,k2,k3,k5,e5,e6,e4,lk⟩
   · cases q
 · cases q
def Ue {K:qv}{N:Addr}{h h2:Heap}{m:zf}(ok:W.nsOkIn K N=true)(X:K.In h)(X2:K.In h2)(n:h.Ns N m): h2.Ns N m:=by
 let⟨o,es,ep,ho,r⟩:=n;unfold W.nsOkIn at ok;split at ok
 · next lk =>
   have e:=X _ _ lk;rw[ho] at e;cases e;exact⟨_,es,ep,X2 _ _ lk,r⟩
 · cases ok
section
variable {X:Cx}{E:zV}{x:Str}{C:Addr}{e₀:Expr}{es:zx}{t:TA}{np cpos pos:Pos}
def MT (C:Addr)(E:zV)(t:TA): TS:=λ_ σ H=>t σ H λvs H1=>vs.length<=sizeLine/\E σ (.ref C) none H1
def MU (hC:sH X.K C) (hc:X.calm=true) (hg:Gl X x) (hm:X.mg x=some (.ref C)) (hx:fX (CXE X.prog X.w) X E) (ha:PA X (e₀::es) t) (hdb:(x==("__debug__" : Str))=false:=by decide)
   (he:starEach (e₀::es) X.env=(false,eval e₀ X.env)::starEach es X.env:=by rfl) (hpl:(backTo cpos (starEach es X.env)).any (·.1)=false:=by rfl) :
   PS X (.Raise (some (.Call (.Name x np) (e₀::es) [] cpos)) none pos) (MT C E t):=by
 intro zk s σ H D I h;let⟨bm,N,nm,qn,bs,hdct,sn,sub,ab,col,dd,k0,k1,k2,k3,k5,f1,f2,f3,f4⟩:=hC.obj;have hN:=PySem.Heap.Ns.of_isNs (W.isNs_of_in I.kIn f1);refine wpAny_Raise_call_subT (C:=C) (nm:=nm) (q:=qn) (N:=N) (bs:=bs) (bm:=bm) (hdct:=hdct) (sn:=sn) (sub:=sub) (ab:=ab) (col:=col) (dd:=dd) (k0:=k0) (k1:=k1) (k2:=k2) (k3:=k3) (k5:=k5)
   Qc (mN:=s.heap.nsMap N) ((aeE I.kIn f3).hasType Qc.hasBase) (I.ok.hd hc) ?_ (W.nsMap_none_of_in I.kIn f1 f2) (lO I hg hm ⟨rfl,?_⟩ hdb)
 · rw[he]
   show (false || (backTo cpos (starEach es X.env)).any (·.1))=false;rw[hpl];rfl
 · have ha':=ha cpos zk s σ H _ I h
   rw[he] at ha' ⊢;refine Qx (ZQ ha' λus s2 q=>?_);let⟨vs,H1,I1,r,z,q⟩:=q;refine⟨rfl,by rw[<-r.length];exact z,I1.kIn _ _ f4,Ue f1 I.kIn I1.kIn hN,aeE I1.kIn f3,λh' e hmade=>?_⟩;let⟨tp,q1,_,_⟩:=hmade.there;exact hx zk σ H1 s2 (.ref e) _ I1 ⟨e,.ref C,none,H1,rfl,rfl,I1.bare,Un.kept hmade.keeps,I1.hok.kept hmade.keeps,⟨.none,⟨_,_,q1,rfl,rfl,rfl,rfl,.inl rfl⟩,Ba I1 hmade.new,hmade.new,λT z=>nomatch z⟩,q⟩
end
section
variable {X:Cx}{zk mQ:zh}{σ:St}{H H':Hp}{s:Shared}{h':Heap}{a T:Addr}{cls hd:Value}{dct:zo}
def ZZ.PQ {pn':zh}{A':Around}{sI:Bool}{xe':ze}(I:ZZ X zk σ H s)(hA:A'.frames=X.A.frames)(hcalm:sI=true->A'.handled=none)(hp:∀p∈pn'++mQ,p∈X.pn++zk):
   ZZ { X with pn:=pn',A:=A',calm:=sI,xe:=xe' } mQ σ H s :=
 ⟨⟨I.ok.mod,I.ok.kind,I.ok.glob,I.ok.blt,I.ok.above,I.ok.inj,I.ok.has,I.ok.cab,hcalm,hA.trans I.ok.frames,I.ok.stk,I.ok.exf,I.ok.bs,I.ok.bsz,I.ok.uN,I.ok.Pu,I.ok.yT,I.ok.frf⟩,
   I.os,I.bare,I.base,I.loc,I.cell,I.free,I.oU,λp q=>I.pin p (hp p q),I.hok,I.len⟩
def ZZ.Ug {pn':zh}{A':Around}{sI:Bool}{xe':ze}(I:ZZ { X with pn:=pn',A:=A',calm:=sI,xe:=xe' } mQ σ H s)(hA:A'.frames=X.A.frames)(hcalm:X.calm=true->X.A.handled=none)(hp:∀p∈X.pn++zk,p∈pn'++mQ):
   ZZ X zk σ H s :=
 ⟨⟨I.ok.mod,I.ok.kind,I.ok.glob,I.ok.blt,I.ok.above,I.ok.inj,I.ok.has,I.ok.cab,hcalm,hA.symm.trans I.ok.frames,I.ok.stk,I.ok.exf,I.ok.bs,I.ok.bsz,I.ok.uN,I.ok.Pu,I.ok.yT,I.ok.frf⟩,
   I.os,I.bare,I.base,I.loc,I.cell,I.free,I.oU,λp q=>I.pin p (hp p q),I.hok,I.len⟩
def ZZ.flew (I:ZZ X zk σ H s)(ha:H a=none)(na:X.s₀.heap.get? a=none)(hT:∀T,hd=.ref T->H T=none/\X.s₀.heap.get? T=none)(fl:tY s.heap a cls dct hd)(hp:∀p∈X.pn++zk,p.1≠a/\hd≠.ref p.1)
   (keep:∀b o,b≠a->hd≠.ref b->b∉frs X.stack->s.heap.get? b=some o->h'.get? b=some o)
   (slot:∀b o,b∈frs X.stack->s.heap.get? b=some o->∃sl,h'.get? b=some { o with slots:=sl }) {t':Nat}:ZZ X zk σ H { s with heap:=h',toks:=t' }:=by
 let⟨oe,vs,he,_,_,hdt,_,hc⟩:=fl;have fT:∀T,hd=.ref T->∃o ts,s.heap.get? T=some o/\o.data=.fields ts:=λT z=>by
   rcases hc with q | ⟨T',oT,ts,q,_,q2,q3,_⟩
   · rw[z] at q;cases q
   · rw[z] at q;cases q;exact⟨_,_,q2,q3⟩
 have off:∀b o,s.heap.get? b=some o->(∀ws,o.data≠.fields ws)->b≠a/\hd≠.ref b:=λb o e hn=>⟨λz=>(by rw[z,he] at e;cases e;exact hn vs hdt),λz=>by
   let⟨o',ts,q1,q2⟩:=fT b z;rw[q1] at e;cases e;exact hn ts q2⟩
 have s0:∀b o,X.s₀.heap.get? b=some o->b≠a/\hd≠.ref b:=λb o e=>⟨λz=>(by rw[z,na] at e;cases e),λz=>(by rw[(hT b z).2] at e;cases e)⟩;have s0L:∀b o,X.s₀.heap.get? b=some o->b∈frs X.stack->b∈X.fs:=λb o e hb=>by
   rcases qk.mp (I.mP b hb) with z | z
   · rw[z] at e
     exact absurd (qz (qj e) I.ok.above) (Qj _)
   · exact z
 have any:∀b o,s.heap.get? b=some o->b≠a->hd≠.ref b->∃sl,h'.get? b=some { o with slots:=sl }:=λb o e n1 n2=>by
   by_cases hb:b∈frs X.stack
   · exact slot b o hb e
   · exact⟨o.slots,keep b o n1 n2 hb e⟩
 have PR:∀b,b∈X.fs->b∈frs X.stack:=λb hb=>by
   rcases I.ok.stk with z | ⟨z,_⟩
   · rw[z];exact hb
   · rw[z];exact E2 hb
 refine⟨I.ok,I.os,I.bare,⟨λb o e n hb hx=>?_,λb o e n hb hx=>?_,λb o e n hx=>I.base.free b o e n hx,λb o e hx=>?_,I.base.tups,I.base.uM,I.base.vH⟩,?_,λy c e=>?_,I.free,I.oU,λp q=>?_,E3 I keep ha λT z=>(hT T z).1,I.len⟩
 · exact keep b o (s0 b o e).1 (s0 b o e).2 (λz=>hb (s0L b o e z)) (I.base.keep b o e n hb hx)
 · let⟨sl,e1⟩:=I.base.slot b o e n hb hx
   let⟨sl',e2⟩:=slot b _ (PR b hb) e1;exact⟨sl',e2⟩
 · let⟨o1,e1⟩:=I.base.there b o e hx
   let⟨sl,e2⟩:=any b o1 e1 (s0 b o e).1 (s0 b o e).2;exact⟨_,e2⟩
 · let⟨m,⟨o,es,ep,ho,hd',r⟩,hl⟩:=I.loc
   have nf:=off _ o ho λws z=>by rw[hd'] at z;cases z
   let⟨sl,e2⟩:=any _ o ho nf.1 nf.2;refine⟨m,⟨_,es,ep,e2,hd',r⟩,λi x v q1 q2 q3=>?_⟩;let⟨u,r1,l⟩:=hl i x v q1 q2 q3;refine⟨u,r1,?_⟩;rcases l with l | ⟨k,c,e,oc,hoc,hcd⟩
   · exact .inl l
   · have nf:=off c oc hoc λws z=>by rw[hcd] at z;cases z
     let⟨sl,e3⟩:=any c oc hoc nf.1 nf.2;exact .inr ⟨k,c,e,_,e3,hcd⟩
 · let⟨v,oc,hoc,hcd⟩:=I.cell y c e
   have nf:=off c oc hoc λws z=>by rw[hcd] at z;cases z
   let⟨sl,e3⟩:=any c oc hoc nf.1 nf.2;exact⟨v,_,e3,hcd⟩
 · let⟨e,n,ne,nf,d⟩:=I.pin p q
   refine⟨keep p.1 p.2 (hp p q).1 (hp p q).2 (λz=>?_) e,n,ne,nf,d⟩;rcases qk.mp (I.mP p.1 z) with z | z
   · exact ne z
   · exact nf z
def exO (a:Addr)(cls:Value)(dct:zo): HO:=.ext λh=>∃oe vs,h.get? a=some oe/\oe.cls=cls/\oe.dict=dct/\oe.data=.fields vs
def ZZ.track (I:ZZ X zk σ H s)(ha:H a=none)(na:X.s₀.heap.get? a=none)(hp:∀p∈X.pn++zk,p.1≠a)(fl:tY s.heap a cls dct hd): ZZ X zk σ (upd H a (exO a cls dct)) s:=by
 let⟨oe,vs,he,f1,f2,hdt,_,_⟩:=fl;have off:∀b o,s.heap.get? b=some o->(∀ws,o.data≠.fields ws)->b≠a:=λb o e hn z=>by rw[z,he] at e;cases e;exact hn vs hdt
 have tr:∀b u,H b=some u->upd H a (exO a cls dct) b=some u:=λb u q=>by rw[ak (aj q ha)];exact q
 refine⟨I.ok,I.os,I.bare,⟨I.base.keep,I.base.slot,λb o e n hx=>?_,I.base.there,λb xs e=>tr b _ (I.base.tups b xs e),λb o u e=>tr b _ (I.base.uM b o u e),λb ps e=>?_⟩,I.loc,I.cell,?_,λy c e=>?_,λp q=>?_,λb u e=>?_,I.len⟩
 · rw[ak (λz=>(by rw[z,na] at e;cases e))]
   exact I.base.free b o e n hx
 · let⟨more,q⟩:=I.base.vH b ps e
   exact⟨more,tr b _ q⟩
 · let⟨m,⟨o,es,ep,ho,hd',r⟩,_⟩:=I.loc
   rw[ak (off _ o ho λws z=>(by rw[hd'] at z;cases z))];exact I.free
 · let⟨v,oc,hoc,hcd⟩:=I.cell y c e
   rw[ak (off c oc hoc λws z=>(by rw[hcd] at z;cases z))];exact I.oU y c e
 · let⟨e,n,r⟩:=I.pin p q
   exact⟨e,by rw[ak (hp p q)];exact n,r⟩
 · by_cases hb:b=a
   · subst hb
     rw[ah] at e;cases e;exact⟨⟨oe,vs,he,f1,f2,hdt⟩,⟨_,he⟩,λh1 h2 ⟨o',ws,q1,q2⟩ k=>⟨o',ws,k _ q1,q2⟩⟩
   · rw[ak hb] at e
     exact(I.hok b u e).stay (λ_ _ _ q=>q) (λc q=>tr c _ q) λc xs q=>tr c _ q
end
def GC {M:Model}{A:Around}{E:ze}{s:Shared}{K:qv}{e D:Addr}{oe:Obj}{C:Addr}{b:Bool}{Q:Bool->Shared->Prop}(X:K.In s.heap)(he:s.heap.get? e=some oe)(hc:oe.cls=.ref C)
   (hD:sH K D) (hsub:QT K C (.ref D)=some b) (h:Q b s):wpAny M A (excMatches (.ref e) (.ref D)) Q E s:=by
 let⟨bm,N,nm,qn,bs,hdct,sn,sub,ab,col,dd,k0,k1,k2,k3,k5,f1,f2,f3,f4⟩:=hD.obj;have hD0:=X _ _ f4;have L:=W.looks_mroIn (M:=M) X hsub;let⟨hp,g,d,tk,os⟩:=s;have hcB:(qh D::bm).contains (.type "BaseException")=true:=by rw[Qi,(aeE X f3).hasType (show bmV.contains (.type "BaseException")=true by exfalso),abq]
 have ft:=tc_notTuple;unfold excMatches;repeat (first | (with_reducible refine wpAny_loadPart_at he ?_;rw[hc]) | with_reducible refine wpAny_loadPart_at hD0 ?_ | (with_reducible refine wpAny_isSubtype_exc hD0 ?_;rw[hcB]) | (with_reducible refine L.at ?_) | wp_step)
 cases b<;>(try wp_walk)<;>exact h
def MV (i:Nat)(D:Ends): Ends:={ nx:=λσ H=>D.nx (σ.set i none) H,rt:=D.rt,bk:=λσ H=>D.bk (σ.set i none) H,ct:=λσ H=>D.ct (σ.set i none) H }
def Uh (K:qv)(D:Addr)(i:Nat)(tb:(St->XK)->TS)(ts:TS): TS:=λDn σ H =>
 tb (λσ' cls dct H'=>∃C,cls=.ref C/\QT K C (.ref D)=some true/\∀a,H' a=none->ts (MV i Dn) (σ'.set i (some (.ref a))) (upd H' a (exO a (.ref C) dct))) Dn σ H
def K3 {X:Cx}{body suite:zS}{b₀:Stmt}{x n:Str}{np hpos pos:Pos}{D:Addr}{i:Nat}{tb:(St->XK)->TS}{ts:TS}
   (hc:X.calm=true) (hex:X.ex=[]) (hst:X.stack=X.env::X.outer) (hfr:X.env.frame=some X.env.locals) (hD:sH X.K D) (hg:Gl X x) (hm:X.mg x=some (.ref D))
   (hN:X.N.Nodup) (hi:X.N[i]?=some n) (hl:X.env.scope.names.lookup n=some .local)
   (hb:∀(pn:zh) (xe:ze) (EX:zV),fX (CXE X.prog X.w) { X with pn:=pn,xe:=xe } EX->PSs { X with pn:=pn,xe:=xe } body (tb EX))
   (hs:∀(pn:zh) (A':Around) (xe:ze),PSs { X with pn:=pn,A:=A',calm:=false,xe:=xe } (b₀::suite) ts) (hdb:(x==("__debug__" : Str))=false:=by decide) :
   PS X (.Try body [.ExceptHandler (some (.Name x np)) (some n) (b₀::suite) hpos] [] [] pos) (Uh X.K D i tb ts):=by
 intro zk s σ H Dn I h;have hh:=I.ok.hd hc;refine wpAny_Try_except ?_;have back:∀{xe:ze} {σ':St} {H':Hp} {s':Shared},ZZ { X with pn:=X.pn++zk,xe:=xe } [] σ' H' s'->ZZ X zk σ' H' s':=λ{xe σ' H' s'} J =>
   ZZ.Ug (A':=X.A) (sI:=X.calm) J rfl (λ_=>hh) λp q=>by simpa using q
 refine wpAny_mono (hb (X.pn++zk) (λe s₁=>wpAny (model X.prog X.w) X.A (noteFrame e X.env) (λ_ s₂=>wpAny (model X.prog X.w) X.A (setFlight e none) (λ_ s₃ =>
     wpAny (model X.prog X.w) X.A (handleBy e X.env [.ExceptHandler (some (.Name x np)) (some n) (b₀::suite) hpos]) (SP X zk Dn) X.xe s₃) X.xe s₂) X.xe s₁) _ ?_ [] s σ H Dn
     (ZZ.PQ (A':=X.A) (sI:=X.calm) I rfl (λ_=>hh) λp q=>by simpa using q) h) (λf s1 q=>?_) λ_ _ z=>z
 · intro yE σ2 H2 s2 e s3 I2 hx
   let⟨a,cls,dct,H3,he,hos,hgn,un,hok,⟨hd,fl,ha,na,hT⟩,C,hcls,hsub,q⟩:=hx;subst he;subst hcls;have I3:=I2.call' hos un hok hgn (λb z=>absurd z (by simp));have na0:=mF I2 hex na;have hT0:∀T,hd=.ref T->H3 T=none/\X.s₀.heap.get? T=none:=λT z=>⟨(hT T z).1,by have q:=mF I2 hex (hT T z).2;exact q⟩;have hp3:∀p∈(X.pn++zk)++yE,p.1≠a/\hd≠.ref p.1:=λp z=>by
     have e:=(I2.pin p z).1;exact⟨λw=>(by rw[w,na] at e;cases e),λw=>(by rw[(hT _ w).2] at e;cases e)⟩
   refine GB (env:=X.env) (outer:=X.outer) (by have:=I.ok.frames;rw[hst] at this;exact this) (by have:=I3.stack;rw[show Cx.stack _=X.env::X.outer from hst] at this;exact this) hfr fl λh4 T n1 n2 k1 k2 fl4=>?_;have I4:ZZ _ yE σ2 H3 { s3 with heap:=h4,toks:=s3.toks }:=I3.flew ha na0 hT0 fl hp3 (λb o m1 m2 m3 e=>k1 b o m1 m2 (by rw[<-hst];exact m3) e) (λb o m1 e=>k2 b o (by rw[<-hst];exact m1) e);have nT4:H3 T=none:=Ba I3 n1;have nT0:=mF I3 hex n1;have hp4:∀p∈(X.pn++zk)++yE,p.1≠a/\(qh T:Value)≠.ref p.1:=λp z=>⟨(hp3 p z).1,λw=>by
     have e:=(I3.pin p z).1;cases w;rw[n1] at e;cases e⟩
   let⟨oe,vs,g1,g2,_⟩:=id fl4;have J40:=ZZ.PQ (A':=X.A.mark (some (.ref a))) (sI:=false) (pn':=X.pn++zk) (mQ:=yE) (xe':=λ_ _=>True) I4 rfl (λz=>nomatch z) (λp q=>q);have J4:ZZ { X with pn:=X.pn++zk,A:=X.A.mark (some (.ref a)),calm:=false,xe:=λ_ _=>True } yE σ2 H3 { s3 with heap:=h4 }:=J40;refine wpAny_handleBy_cons (codeAny_handlers_test ?_) (by intro z;cases z);refine lO (X:={ X with pn:=X.pn++zk,A:=X.A.mark (some (.ref a)),calm:=false,xe:=λ_ _=>True }) J4 hg hm ?_ hdb;refine GC J4.kIn g1 g2 hD hsub ?_;refine codeAny_handlers_suite_as (MN fl4 λh5 k5 fl5=>?_);have J5:=J4.flew (h':=h5) (t':=s3.toks) ha na0 (λT' z=>by cases z;exact⟨nT4,nT0⟩) fl4 hp4 (λb o _ m2 _ e=>k5 b o (λz=>m2 (by rw[z])) e) (λb o m1 e=>by
     refine⟨o.slots,k5 b o (λz=>?_) e⟩;let⟨_,o',ho',hn⟩:=J4.stack.mem m1;let⟨oe',vs',_,_,_,_,_,hcc⟩:=id fl4;rcases hcc with w | ⟨T',oT,ts',w,_,w2,w3,_⟩
     · cases w
     · cases w
       rw[z,w2] at ho';cases ho';exact hn _ w3)
   have J6:=J5.track ha na0 (λp z=>(hp4 p z).1) fl5;refine AW (X:={ X with pn:=X.pn++zk,A:=X.A.mark (some (.ref a)),calm:=false,xe:=λ_ _=>True }) (v:=.ref a) J6 hN hi (.inl hl) rfl (λs7 J7=>?_) (.inr hl);refine wpAny_mono ((hs (X.pn++zk) (X.A.mark (some (.ref a))) _) yE s7 _ _ (MV i Dn) (ZZ.PQ (X:={ X with pn:=X.pn++zk,A:=X.A.mark (some (.ref a)),calm:=false,xe:=λ_ _=>True }) (A':=X.A.mark (some (.ref a))) (sI:=false) (pn':=X.pn++zk) J7 rfl (λz=>nomatch z) λp q=>q) (q a ha)) (λf s8 w=>?_) λ_ _ z=>z;have fin:∀{xe:ze} {σ':St} {H':Hp} {Q':zg},ZZ { X with pn:=X.pn++zk,A:=X.A.mark (some (.ref a)),calm:=false,xe:=xe } yE σ' H' s8->(∀s9,ZZ X zk (σ'.set i none) H' s9->Q' () s9) ->
       wpAny (model X.prog X.w) X.A (do bindName X.env n .none;unbindBehindTheSuite X.env n hpos) Q' X.xe s8:=λ{xe σ' H' Q'} J k=>by
     have J':ZZ X zk σ' H' s8:=ZZ.Ug (A':=X.A.mark (some (.ref a))) (sI:=false) J rfl (λ_=>hh) λp q=>by simp;rcases q_.mp q with z | z<;>simp[z]
     let⟨m,hn,hlo⟩:=J'.loc;refine wpAny_nameGoes_keeps hl hn (by rw[J'.ok.kind];rfl) λh9 v hn9 sb=>k _ ?_;have J8:ZZ X zk σ' H' { s8 with toks:=s8.toks+1 }:=J'.tok _;let⟨oL,_,_,hoL,_⟩:=id hn;have cne:=J'.cne;have oth:∀b o,b≠X.env.locals->s8.heap.get? b=some o->h9.get? b=some o:=λb o nb e=>(sb.2 b nb).trans e;refine⟨J'.ok,J'.os,J'.bare,⟨λb o e n hb hx=>?_,λb o e n hb hx=>?_,J'.base.free,λb o e hx=>?_,J'.base.tups,J'.base.uM,J'.base.vH⟩,⟨_,hn9,λj y v' e1 e2 e3=>?_⟩,λy c e=>?_,J'.free,J'.oU,λp hp=>?_,λb ob e=>?_,by simpa using J'.len⟩
     · exact oth b o (qH (qz (qj e) J'.ok.above)) (J'.base.keep b o e n hb hx)
     · let⟨sl,e1⟩:=J'.base.slot b o e n hb hx
       exact⟨sl,oth b _ (qH (qz (qj e) J'.ok.above)) e1⟩
     · let⟨o',e1⟩:=J'.base.there b o e hx
       exact⟨o',oth b _ (qH (qz (qj e) J'.ok.above)) e1⟩
     · by_cases hj:j=i
       · subst hj
         rw[abJ (by rw[J'.len];exact(qg.mp hi).1)] at e2;cases e2
       · rw[ace (qX hj)] at e2
         let⟨u',r',w'⟩:=hlo j y v' e1 e2 e3;refine⟨u',r',?_⟩;rcases w' with ⟨k',e⟩ | ⟨k',c,e,z⟩
         · refine .inl ⟨k',?_⟩
           have:y≠n:=λe=>hj (AV hN e1 (e ▸ hi));simp[this,e]
         · exact .inr ⟨k',c,e,z.sameBut sb (cne y c e)⟩
     · let⟨w',z⟩:=J'.cell y c e
       exact⟨w',z.sameBut sb (cne y c e)⟩
     · let⟨e,n,ne,nf,d⟩:=J'.pin p hp
       exact⟨oth p.1 _ ne e,n,ne,nf,d⟩
     · refine(J'.hok b ob e).stay (λc w' hc q=>oth c w' ?_ q) (λ_ q=>q) λ_ _ q=>q
       rintro rfl;rcases hc with rfl | hc
       · rw[J'.free] at e;cases e
       · rw[J'.free] at hc;cases hc
   cases f with
   | next=>let⟨σ',H',J,d⟩:=w;exact fin J λs9 J9=>⟨_,H',J9,d⟩
   | brk=>let⟨σ',H',J,d⟩:=w;exact fin J λs9 J9=>⟨_,H',J9,d⟩
   | cont=>let⟨σ',H',J,d⟩:=w;exact fin J λs9 J9=>⟨_,H',J9,d⟩
   | ret u=>let⟨v,σ',H',J,r,d⟩:=w;exact fin J λs9 J9=>⟨v,_,H',J9,r,d⟩
 · cases f with
   | next=>let⟨σ',H',J,d⟩:=q;exact wpAny_execs_nil ⟨σ',H',back J,d⟩
   | brk=>let⟨σ',H',J,d⟩:=q;exact⟨σ',H',back J,d⟩
   | cont=>let⟨σ',H',J,d⟩:=q;exact⟨σ',H',back J,d⟩
   | ret u=>let⟨v,σ',H',J,r,d⟩:=q;exact⟨v,σ',H',back J,r,d⟩
end L2
namespace L2
open PySem PySem.Spec PyProof.Rows PyProof.V PySem.SeqAt
mutual
inductive pL (K:qv)(H:Hp): V->PyData->Prop
 | non:pL K H .non .none
 | bl (b:Bool):pL K H (.bl b) (.bool b)
 | int (i:Int):pL K H (.int i) (.int i)
 | str (x:Str):pL K H (.str x) (.str x)
 | lst {a:Addr} {xs:zu} {ds:List PyData}:Zx K H a xs->DatAll K H xs ds->pL K H (.ref a) (.list ds)
 | tup {a:Addr} {xs:zu} {ds:List PyData}:SqT K H a xs->DatAll K H xs ds->pL K H (.ref a) (.tuple ds)
inductive DatAll (K:qv)(H:Hp): List V->List PyData->Prop
 | nil:DatAll K H [] []
 | cons {x:V} {xs:zu} {d:PyData} {ds:List PyData}:pL K H x d->DatAll K H xs ds->DatAll K H (x::xs) (d::ds)
end
def jB (K:qv)(H:Hp): ∀ns:zm,DatAll K H (ns.map V.int) (ns.map aer)
 | []=>.nil
 | n::r=>.cons (.int n) (jB K H r)
section
variable {X:Cx}{zk:zh}{σ:St}{H:Hp}{s:Shared}
mutual
def pL.reads (I:ZZ X zk σ H s){v:V}{d:PyData}(h:pL X.K H v d){u:Value}(r:ZX v u): ∃as,Reads s.heap u d as:=by
 cases h with
 | non=>cases r;exact⟨_,.none⟩
 | bl b=>cases r;exact⟨_,.bool b⟩
 | int i=>let⟨t,rfl⟩:=r;exact⟨_,.int i t⟩
 | str x=>let⟨t,rfl⟩:=r;exact⟨_,.str x t⟩
 | lst hq ha =>
   cases r;let⟨its,rv,⟨o,n,e,c,_,dd⟩,_⟩:=I.list hq;let⟨as,q⟩:=DatAll.reads I ha rv;exact⟨_,.list e c dd (by simpa using q)⟩
 | tup hq ha =>
   cases r;let⟨its,rv,⟨o,e,c,n,dd⟩,_⟩:=I.tuple hq;let⟨as,q⟩:=DatAll.reads I ha rv;exact⟨_,.tuple e c dd (by simpa using q)⟩
def DatAll.reads (I:ZZ X zk σ H s){vs:zu}{ds:List PyData}(h:DatAll X.K H vs ds){us:zi}(r:Vals vs us): ∃as,ReadsAll s.heap us ds as:=by
 cases h with
 | nil=>cases r;exact⟨_,.nil⟩
 | cons h1 h2 =>
   cases r with
   | cons r1 r2 =>
     let⟨a1,q1⟩:=pL.reads I h1 r1;let⟨a2,q2⟩:=DatAll.reads I h2 r2;exact⟨_,.cons q1 q2⟩
end
def Ui (K:qv): R2:=λx y H Q=>∃d d',pL K H x d/\pL K H y d'/\shaped d=true/\shaped d'=true/\noMix d d'=true/\Q (.bl (same d d')) H
def Uj (K:qv): R2:=λx y H Q=>∃d d',pL K H x d/\pL K H y d'/\shaped d=true/\shaped d'=true/\noMix d d'=true/\Q (.bl (!same d d')) H
def E6 (hu:X.A.units+64 < cLine): OpR X (compareOp .Eq) (Ui X.K):=by
 ac_rfl;let⟨d,d',h1,h2,s1,s2,nm,q⟩:=h;let⟨_,r1⟩:=h1.reads I rx;let⟨_,r2⟩:=h2.reads I ry;exact eq_dataH_same r1 r2 s1 s2 hu nm ⟨.bl _,H,I,rfl,q⟩
def IK (hu:X.A.units+64 < cLine): OpR X (compareOp .NotEq) (Uj X.K):=by
 ac_rfl;let⟨d,d',h1,h2,s1,s2,nm,q⟩:=h;let⟨_,r1⟩:=h1.reads I rx;let⟨_,r2⟩:=h2.reads I ry;exact ne_dataH_same r1 r2 s1 s2 hu nm ⟨.bl _,H,I,rfl,q⟩
def pM:∀{ns:zm} {us:zi},Vals (ns.map V.int) us->IntsAre us ns
 | [],_,r=>by cases r;exact .nil
 | n::ns,_,r=>by
   rw[Qb] at r;cases r with
   | cons r1 r2 =>
     let⟨t,rfl⟩:=r1;exact .cons n t (pM r2)
def ZZ.listI (I:ZZ X zk σ H s){a:Addr}{ns:zm}(h:Zx X.K H a (ns.map V.int)): ∃vs:zi,s.heap.IsList a vs.toArray/\IntsAre vs ns/\ns.length<=sizeLine:=by
 let⟨its,rv,p,hz⟩:=I.list h;exact⟨its,p.isList,pM rv,by simpa using hz⟩
def Uk:V->List V->Hp->VK->Prop:=λx vs H Q=>∃(l:Addr) (ns:zm) (k:Int),x=.ref l/\vs=[.int k]/\H l=some (.lst (ns.map V.int))/\Q (.int (ns.count k:Nat)) H
def MX:MtM X "list.count" Uk:=by
 intro zk s σ H x xs v us Q I rx rv h;let⟨l,ns,k,rfl,rfl,hl,q⟩:=h;cases rx;let⟨u,rfl,t,rfl⟩:=vals1 rv;let⟨vs,hl',hi,_⟩:=I.listI (Zx.of hl);exact count_list_ints hl' hi ⟨.int _,H,I.tok _,⟨_,rfl⟩,q⟩
def Ul:V->List V->Hp->VK->Prop:=λx vs H Q=>∃(l:Addr) (ns:zm) (k:Int),x=.ref l/\vs=[.int k]/\H l=some (.lst (ns.map V.int))/\k∈ns/\Q (.int (ns.idxOf k:Nat)) H
def MY:MtM X "list.index" Ul:=by
 intro zk s σ H x xs v us Q I rx rv h;let⟨l,ns,k,rfl,rfl,hl,hk,q⟩:=h;cases rx;let⟨u,rfl,t,rfl⟩:=vals1 rv;let⟨vs,hl',hi,hz⟩:=I.listI (Zx.of hl);have h1:ns.idxOf k < ns.length:=aby.mpr hk;have h2:=hi.length;have h3:sizeLine=16777216:=sizeLine_eq;let⟨⟨oc,od,odt,osl⟩,e,ec,n,ed⟩:=hl';dsimp only at ec ed;subst ec;subst ed;refine call_meets adh ⟨_,e,rfl⟩ PySem.F.entry_list_index (PySem.F.args_list_index_2 _ _) (PySem.SeqAt.list_indexAt l vs.toArray n od osl (.int k t) (isInt k) (ns.idxOf k)
   (by simpa [h2] using h1) (by lia) ?_ λj hj lt=>?_) ⟨e,λy hy=>(eq_isInt k t hi y (by simpa using hy)).at _ _,⟨.int _,H,I.tok _,⟨_,rfl⟩,q⟩⟩
 · have:isInt k (vs[ns.idxOf k]'(by lia))=true:=by
     rw[isInt_at k hi _ (by lia) h1];simpa using aes h1
   exact this
 · have:isInt k (vs[j]'(by simpa using hj))=false:=by
     rw[isInt_at k hi j (by simpa using hj) (by lia)];exact ne_of_lt_idxOf lt _
   exact this
end
def PU {M:Model}{A:Around}{m:Sem Unit}{Q:zg}{E:ze}{s:Shared}(h:m=pure ())(q:Q () s): wpAny M A m Q E s:=by rw[h];exact wpAny_pure q
def Ec {prog:Program}{w:World}{A:Around}{E:ze}{s:Shared}{K:qv}{x D:Addr}{oe:Obj}{od:Option Obj}{Q:zc}(X:K.In s.heap)(I:W.InstAt s.heap x oe D od)
   (hga:Qd K (.ref D) "__getattribute__" = some (some (.builtin "BaseException.__getattribute__"))) (hno:Qd K (.ref D) "__getattr__" = some none) (hb:QT K D (.type "BaseException")=some true)
   (hm:QT K D (.type "object")=some true) (hf:aed K D od "__class__" = some (.bind (.builtin "getset_descriptor.__get__") (.builtin "object.__class__"))) (h:Q (some (.ref D)) { s with toks:=s.toks+1 }) :
   wpAny (model prog w) A (getAttr? (.ref x) "__class__") Q E s:=by
 let⟨hh,g,d,t,os⟩:=s;have L0:=I.type (M:=model prog w);have L1:=adQ (M:=model prog w) X hga;have L2:=adQ (M:=model prog w) X hno;have L3:=W.looks_mroIn (M:=model prog w) X hb;have L4:=W.looks_find (M:=model prog w) X I hf;unfold getAttr? getAttrBy? getAttrBy;refine wpAny_bind (wpAny_mkText (wpAny_bind (wpAny_attempt (wpAny_holding (wpAny_bind (L0.at (wpAny_bind (L1.at ?_))))))));show wpAny _ _ (getAttrByItsOwn _ _ _ _ _ _) _ _ _;unfold getAttrByItsOwn;refine wpAny_bind (show wpAny _ _ (typeLookup (.ref D) "__getattr__") _ _ _ from L2.at ?_);refine wpAny_bind (wpAny_attempt (wpAny_holding ?_));show wpAny _ _ (boundAndCalled _ _ _) _ _ _;unfold boundAndCalled;rw[abm.ga.bind];refine wpAny_bind (wpAny_pure ?_);show wpAny _ _ (call (.builtin "BaseException.__getattribute__") [.ref x,.str "__class__" _]) _ _ _;have hk:builtinKind "BaseException.__getattribute__" = some .slot:=by exfalso
 have hsplit:splitId "BaseException.__getattribute__" = some ("BaseException","__getattribute__"):=by exfalso
 refine wpAny_call (codeAny_call_builtin abm.ga.plain adH ?_);have ha:=adR (.ref x) (.str "__class__" t);simp only [checkBuiltinCall,hk,hsplit];refine wpAny_bind ?_;unfold isInstance;refine wpAny_bind (L0.at (L3.at ?_));rw[if_neg (by decide)];refine PU ha ?_;unfold Builtin.«object.__getattribute__»;refine wpAny_bind ?_;refine wpAny_pure ?_;dsimp only;refine wpAny_bind (wpAny_pure (wpAny_bind (L0.at (wpAny_bind (L4.at ?_)))));dsimp only;show wpAny _ _ (holding [.builtin "object.__class__"] (call (.builtin "getset_descriptor.__get__") [.builtin "object.__class__",.ref x,.ref D]) >>= ret) _ _ _;refine wpAny_bind (wpAny_holding (wpAny_call (W.class_get (s:=⟨hh,g,d,t+1,os⟩) (ox:=oe) (od:=od) X I hm ?_)));refine wpAny_pure ?_;exact W.handed_on rfl (wpAny_pure h)
structure XIs (K:qv)(C:Addr): Prop where
 hga:Qd K (.ref C) "__getattribute__" = some (some (.builtin "BaseException.__getattribute__"))
 hno:Qd K (.ref C) "__getattr__" = some none
 hb:QT K C (.type "BaseException")=some true
 hd:W.hasDictIn K C=true
 ha:Qd K (.ref C) "__class__" = some (some (.builtin "object.__class__"))
 hm:QT K C (.type "object")=some true
structure IsK (K:qv): Prop where
 hn:acU K (.builtin "object.__class__") "__get__" = some (some (.builtin "getset_descriptor.__get__"))
 htk:W.takesIn K (.builtin "object.__class__")=some true
inductive TyE (K:qv)(H:Hp): V->Value->Prop where
 | of {x:V} {t:Value} (h:aw K H x t):TyE K H x t
 | exc {a C:Addr} (e:H a=some (exO a (.ref C) none)) (x:XIs K C) (k:IsK K):TyE K H (.ref a) (.ref C)
 | Um {a C d:Addr} {φ:Heap->Prop} (e:H a=some (exO a (.ref C) (some d))) (e2:H d=some (.ext φ)) (x:XIs K C) (k:IsK K):TyE K H (.ref a) (.ref C)
def Uo:V->Value
 | .ref a=>.ref a
 | .ty n=>.type n
 | _=>.none
def IL:V->Bool
 | .ref _=>true
 | .ty _=>true
 | _=>false
def PV {c:V}{u:Value}(h:IL c=true)(r:ZX c u): u=Uo c:=by
 cases c<;>first | exact r | exact absurd (show false=true from h) qf
def MZ {K:qv}{x D:Addr}(q:XIs K D)(k:IsK K): W.KitX K (.ref x) (.ref D) (λh=>∃oe vs,h.get? x=some oe/\oe.cls=.ref D/\oe.dict=none/\oe.data=.fields vs) where
 ty:=λM h _ p=>by
   let⟨oe,vs,h1,h2,_⟩:=p;exact h2 ▸ (W.Looks.ld h1).andThen .now
 it:=λ_ _ X _=>by
   let⟨cdD,hcD,_⟩:=acH q.hd;unfold W.clsIn at hcD;split at hcD
   · next ho =>
     intro A' Q' E' s' k q;unfold isType loadHead;exact wpAny_bind (wpAny_loadPart (k _ _ (X _ _ ho)) (wpAny_pure q))
   · cases hcD
 ne:=λh tp dd its n sl X htp=>by
   let⟨cdD,hcD,_⟩:=acH q.hd;refine Bool.eq_false_iff.mpr λz=>?_;have e:D=tp:=aeT (beq_iff_eq.mp z);subst e;unfold W.clsIn at hcD;split at hcD
   · next ho =>
     have z:=(X _ _ ho).symm.trans htp;cases z
   · cases hcD
 ca:=λ{prog w A E Q s} X p hq=>by
   let⟨oe,vs,h1,h2,h3,h4⟩:=p;have I:W.InstAt s.heap x oe D none:=⟨h1,h2,by unfold W.notCls;rw[h4],by rw[h3];trivial⟩;have hf:aed K D none "__class__" = some (.bind (.builtin "getset_descriptor.__get__") (.builtin "object.__class__")):=by
     let⟨cd,hc,_⟩:=acH q.hd;unfold aed;rw[hc,abV,q.ha,abV];simp[k.hn,k.htk]
   exact Ec X I q.hga q.hno q.hb q.hm hf hq
def K4 {K:qv}{x D dx:Addr}(q:XIs K D)(k:IsK K): W.KitX K (.ref x) (.ref D) (λh=>(∃oe vs,h.get? x=some oe/\oe.cls=.ref D/\oe.dict=some dx/\oe.data=.fields vs)/\∃od,h.get? dx=some od) where
 ty:=λM h _ p=>by
   let⟨⟨oe,vs,h1,h2,_⟩,_⟩:=p;exact h2 ▸ (W.Looks.ld h1).andThen .now
 it:=λ_ _ X _=>by
   let⟨cdD,hcD,_⟩:=acH q.hd;unfold W.clsIn at hcD;split at hcD
   · next ho =>
     intro A' Q' E' s' k q;unfold isType loadHead;exact wpAny_bind (wpAny_loadPart (k _ _ (X _ _ ho)) (wpAny_pure q))
   · cases hcD
 ne:=λh tp dd its n sl X htp=>by
   let⟨cdD,hcD,_⟩:=acH q.hd;refine Bool.eq_false_iff.mpr λz=>?_;have e:D=tp:=aeT (beq_iff_eq.mp z);subst e;unfold W.clsIn at hcD;split at hcD
   · next ho =>
     have z:=(X _ _ ho).symm.trans htp;cases z
   · cases hcD
 ca:=λ{prog w A E Q s} X p hq=>by
   let⟨⟨oe,vs,h1,h2,h3,h4⟩,od,h5⟩:=p;have I:W.InstAt s.heap x oe D (some od):=⟨h1,h2,by unfold W.notCls;rw[h4],by rw[h3];exact h5⟩;have hf:aed K D (some od) "__class__" = some (.bind (.builtin "getset_descriptor.__get__") (.builtin "object.__class__")):=by
     let⟨cd,hc,_⟩:=acH q.hd;unfold aed;rw[hc,abV,q.ha,abV];simp[k.hn,k.htk]
   exact Ec X I q.hga q.hno q.hb q.hm hf hq
section
variable {X:Cx}
def PX {zk:zh}{σ:St}{H:Hp}{s:Shared}{x:V}{u t:Value}(I:ZZ X zk σ H s)(rx:ZX x u)(ty:TyE X.K H x t): ∃P:Heap->Prop,W.KitX X.K u t P/\P s.heap/\u≠.builtin "__main__.__loader__#opaque" := by
 cases ty with
 | exc e q k =>
   cases rx;exact⟨_,MZ q k,(I.hok _ _ e).1,λz=>nomatch z⟩
 | Um e e2 q k =>
   cases rx;exact⟨_,K4 q k,⟨(I.hok _ _ e).1,(I.hok _ _ e2).2.1⟩,λz=>nomatch z⟩
 | of h =>
   cases h with
   | non=>cases (show u=qD from rx);exact⟨_,W.kitx_none,trivial,λz=>nomatch z⟩
   | bl y=>cases (show u=aeo y from rx);exact⟨_,W.kitx_bool,trivial,λz=>nomatch z⟩
   | int i=>let⟨t,q⟩:=(show ∃t,u=acz i t from rx);cases q;exact⟨_,W.kitx_int,trivial,λz=>nomatch z⟩
   | str y=>let⟨t,q⟩:=(show ∃t,u=acA y t from rx);cases q;exact⟨_,W.kitx_str,trivial,λz=>nomatch z⟩
   | flt y=>let⟨t,q⟩:=(show ∃t,u=aeJ y t from rx);cases q;exact⟨_,W.kitx_float,trivial,λz=>nomatch z⟩
   | @lst a xs ea =>
     cases (show u=qh a from rx);let⟨_,_,n,_,h1⟩:=(show gN X.prog X.w H s.heap a (.lst xs) from I.hok a _ ea);exact⟨_,W.kitx_list,⟨_,h1,rfl⟩,λz=>nomatch z⟩
   | @frz a ob xs ea =>
     cases (show u=qh a from rx);let⟨_,_,_,n,_,h1⟩:=(show gN X.prog X.w H s.heap a (.frz ob (.lst xs)) from I.hok a _ ea);exact⟨_,W.kitx_list,⟨_,h1,rfl⟩,λz=>nomatch z⟩
   | @tup a xs ea =>
     cases (show u=qh a from rx);let⟨_,_,_,p⟩:=(show gN X.prog X.w H s.heap a (.tup xs) from I.hok a _ ea);let⟨o,h1,h2,_⟩:=p;exact⟨_,W.kitx_tuple,⟨o,h1,h2⟩,λz=>nomatch z⟩
   | @dK a z_ ea =>
     cases (show u=qh a from rx);let⟨_,_,vs,_,p⟩:=(show gN X.prog X.w H s.heap a (.dK z_) from I.hok a _ ea);let⟨o,es,ep,h1,h2,_⟩:=p;exact⟨_,W.kitx_dict,⟨o,h1,h2.1⟩,λz=>nomatch z⟩
   | @dT a z_ ea =>
     cases (show u=qh a from rx);let⟨_,_,xs,_,o,es,ep,h1,h2,_⟩:=(show gN X.prog X.w H s.heap a (.dT z_) from I.hok a _ ea);exact⟨_,W.kitx_dict,⟨o,h1,h2.1⟩,λz=>nomatch z⟩
   | @ins a C dx fs ea cl ha hn htk hm =>
     cases (show u=qh a from rx);let⟨mA,O,_⟩:=AH I.hok ea;let⟨od,J,_⟩:=O.look;exact⟨_,W.kitx_own (cl.get _) cl.hd ha hn htk hm,J,λz=>nomatch z⟩
def GD:oV X (.builtin "isinstance") (λxs H Q=>∃x c t b,xs=[x,c]/\IL c=true/\TyE X.K H x t/\Qe X.K t (Uo c)=some b/\Q (.bl b) H):=by
 intro zk s σ H xs us Q I r h;let⟨x,c,t,b,rfl,hc,ty,e,q⟩:=h;let⟨u,v,rfl,ru,rv⟩:=vals2 r;have:=PV hc rv;subst this;let⟨P,kx,p,ne⟩:=PX I ru ty;exact W.kia_one kx I.kIn p e ne λtk=>⟨.bl b,H,I.tok tk,rfl,q⟩
end
end L2
namespace L2
open PySem
abbrev zE:=List (Str×Addr)
def o_ (cells:zE): List (Str×NameKind)->List (Str×Addr)->List (Str×Addr)
 | [],acc=>acc
 | (n,k)::r,acc=>o_ cells r (if k==.free then (n,(cells.lookup n).getD 0)::acc else acc)
def J1 (env:Env)(x:Str×NameKind)(cs:zE): Sem (ForInStep (List (Str×Addr))):=match x with
 | (name,kind)=>if (kind==.free)=true then do let a <-cellOf env name;pure (QE ((name,a)::cs)) else pure (QE cs)
def M9 {env:Env}{n:Str}{k:NameKind}{cs:zE}(h:k=.free->∃c,env.cells.lookup n=some c):
   J1 env (n,k) cs=pure (QE (if k==.free then (n,(env.cells.lookup n).getD 0)::cs else cs)):=by
 unfold J1;by_cases hk:(k==abz)=true
 · let⟨c,hc⟩:=h (by simpa using hk)
   simp only [hk,if_true,cellOf,hc,pure_bind,Option.getD_some]
 · simp only [hk,if_false,abd]
abbrev zQ:=List (Str×NameKind)
def PY {scope:Scope}{env:Env}(h:∀y∈scope.names,y.2=.free->∃c,env.cells.lookup y.1=some c): closureFor scope env=pure (o_ env.cells scope.names []):=by
 have key:∀(l:zQ) (acc:zE),(∀y∈l,y.2=.free->∃c,env.cells.lookup y.1=some c) ->
     forIn l acc (J1 env)=(pure (o_ env.cells l acc):Sem (List (Str×Addr))):=by
   intro l
   induction l with
   | nil=>intro acc _;rfl
   | cons p r ih =>
     let⟨n,k⟩:=p;intro acc hl;rw[List.forIn_cons,M9 (λz=>hl (n,k) qG z),pure_bind];exact ih _ λy hy=>hl y (qB _ hy)
 show (forIn scope.names [] (J1 env) >>= λcs=>pure cs)=_;rw[key scope.names [] h,pure_bind]
def GF {cells:zE}{y:Str}{c:Addr}: ∀{l:zQ} {acc:zE},(∀p∈l,p.2=.free->∃c,cells.lookup p.1=some c)->(acc.lookup y=some c->cells.lookup y=some c) ->
   (o_ cells l acc).lookup y=some c->cells.lookup y=some c
 | [],acc,_,ha,h=>ha h
 | (n,k)::r,acc,hl,ha,h=>by
   refine GF (l:=r) (λp hp=>hl p (qB _ hp)) ?_ h;by_cases hk:(k==abz)=true
   · rw[if_pos hk,Qw]
     let⟨d,hd⟩:=hl (n,k) qG (by simpa using hk);have hd':cells.lookup n=some d:=hd;cases e:y==n with
     | true =>
       have:y=n:=beq_iff_eq.mp e;subst this;intro q;rw[hd'] at q ⊢;exact q
     | false=>exact ha
   · rw[if_neg hk];exact ha
def Ed {cells:zE}{y:Str}: ∀{l:zQ} {acc:zE},(∃c,acc.lookup y=some c)->∃c,(o_ cells l acc).lookup y=some c
 | [],_,h=>h
 | (n,k)::r,acc,h=>by
   refine Ed (l:=r) ?_;by_cases hk:(k==abz)=true
   · rw[if_pos hk,Qw]
     cases e:y==n with
     | true=>exact⟨_,rfl⟩
     | false=>exact h
   · rw[if_neg hk];exact h
def xK {cells:zE}{y:Str}: ∀{l:zQ} {acc:zE},(y,abz)∈l->∃c,(o_ cells l acc).lookup y=some c
 | [],_,h=>nomatch h
 | (n,k)::r,acc,h=>by
   rcases qk.mp h with q | q
   · cases q
     refine Ed (l:=r) ?_;rw[if_pos (by rfl),Qw];simp
   · exact xK (l:=r) q
section
variable {prog:Program}{w:World}{A:Around}{R:z7}{s:Shared}
def K5 {elt target iter:Expr}{ifs:zx}{scope:Scope}{pos:Pos}{it acc:Value}{env:Env}(I:Nat->Shared->Prop)
   (turn:∀n s,I n s->wpAny (model prog w) A (pyNext it) (λr s₁=>match r with
     | none=>R (.ok .next) s₁
     | some v=>wpAny (model prog w) A (letOwnedTupleGo target it v) (λ_ s₂=>wpAny (model prog w) A (assign target env v) (λ_ s₃ =>
         wpAny (model prog w) A (forIn ifs true λc r=>if r=true then do let ok <-isTrue c env (eval c env);pure (QE ok) else pure (QE r)) (λok s₄ =>
           if ok=true then wpAny (model prog w) A (eval elt env) (λx s₅=>wpAny (model prog w) A (call (.builtin "list.append") [acc,x]) (λ_ s₆=>∃m,m < n/\I m s₆) (λ_ _=>False) s₅) (λ_ _=>False) s₄
           else ∃m,m < n/\I m s₄) (λ_ _=>False) s₃) (λ_ _=>False) s₂) (λ_ _=>False) s₁) (λ_ _=>False) s)
   (n:Nat) (h:I n s):codeAny (model prog w) A (.compLoop (.ListComp elt [⟨target,iter,ifs,0⟩] scope pos) 0 it acc env) R s:=by
 refine codeAny_loop rfl I (λn s hI=>?_) n h;show wpAny _ A ((compTurn (.ListComp elt [⟨target,iter,ifs,0⟩] scope pos) 0 it acc env).onRaise (λx=>do noteFrame x env;theTreesLotGoes x)) _ _ s;refine wpAny_noted ?_;rw[compTurn_list];have no:∀{α:Type} {t:Sem α} {Q:α->Shared->Prop} {E:ze} {s:Shared},wpAny (model prog w) A t Q (λ_ _=>False) s->wpAny (model prog w) A t Q E s:=λ{α t Q E s} z=>wpAny_mono z (λ_ _ q=>q) λ_ _ q=>q.elim;refine wpAny_bind (wpAny_standAt (wpAny_bind (no (wpAny_mono (turn n s hI) (λr s₁ h₁=>?_) λ_ _ z=>z))));cases r with
 | none=>exact wpAny_pure h₁
 | some v =>
   refine wpAny_bind (no (wpAny_mono h₁ (λ_ s₂ h₂=>?_) λ_ _ z=>z));refine wpAny_bind (no (wpAny_mono h₂ (λ_ s₃ h₃=>?_) λ_ _ z=>z));refine wpAny_bind (no (wpAny_mono h₃ (λok s₄ h₄=>?_) λ_ _ z=>z));cases ok with
   | false=>exact wpAny_pure ⟨rfl,h₄⟩
   | true=>exact wpAny_bind (wpAny_bind (no (wpAny_mono h₄ (λx s₅ h₅=>wpAny_bind (no (wpAny_mono h₅ (λ_ s₆ h₆=>wpAny_pure (wpAny_pure ⟨rfl,h₆⟩)) λ_ _ z=>z))) λ_ _ z=>z)))
end
end L2
namespace L2
open PySem PySem.Spec PyProof.Rows
def vS {scope:Scope}{env:Env}{y:Str}: (relabel scope env).names.lookup y=(scope.names.lookup y).map λk=>if (k==.free&&env.scope.kind==.function&&env.kindOf y==some .cell) then NameKind.cell else k:=by
 unfold relabel;show (scope.names.map _).lookup y=_;generalize scope.names=l
 induction l with
 | nil=>rfl
 | cons p r ih =>
   let⟨n,k⟩:=p;rw[Qb];cases e:y==n with
   | true =>
     have:y=n:=beq_iff_eq.mp e;subst this;by_cases h:(k==abz&&env.scope.kind==.function&&env.kindOf y==some .cell)=true
     · simp only [h,if_true,Qw,beq_self_eq_true,QD]
     · simp only [h,if_false,Qw,beq_self_eq_true,QD,abd]
   | false =>
     by_cases h:(k==abz&&env.scope.kind==.function&&env.kindOf n==some .cell)=true
     · simp only [h,if_true,Qw,e];exact ih
     · simp only [h,if_false,Qw,e,abd];exact ih
def nM {l:zQ}{y:Str}{k:NameKind}(h:l.lookup y=some k): (y,k)∈l:=QP h
structure n5 (scope fsc:Scope)(xs N' N:zq): Prop where
 kind:scope.kind=.function
 own:∀y∈scope.names,y.2=.local->scope.names.lookup y.1=some .local
 IM:(scope.names.all λy=>y.2 != .cell)=true
 frees:(scope.names.all λy=>y.2 != .free || fsc.names.lookup y.1==some .cell || fsc.names.lookup y.1==some .free)=true
 mask:(N'.all λy=>scope.names.lookup y != some .local)=true
 same:((N'.zip N).all λp=>p.1==p.2 || scope.names.lookup p.1==none)=true
 len:N'.length=N.length
def i_ (X:Cx)(scope:Scope)(NN:zq)(C:Addr)(s:Shared)(H:Hp)(zk:zh)(fp:zj): Cx :=
 { X with N:=NN,s₀:=s,H₀:=H,env:=compEnvC scope (o_ X.env.cells scope.names []) C X.env,outer:=X.stack,stack:=X.stack,ex:=fp,fn:=λ_=>false,pn:=X.pn++zk,xe:=λ_ _=>False }
section
variable {X:Cx}{zk:zh}{σ:St}{H:Hp}{s:Shared}{scope:Scope}{xs N':zq}{fp:zj}
def n5.free {fsc:Scope}{N:zq}{y:Str}(c:n5 scope fsc xs N' N)(h:scope.names.lookup y=some .free): fsc.names.lookup y=some .cell\/fsc.names.lookup y=some .free:=by
 have:=Qy.mp c.frees _ (nM h);simp at this;exact this
def n5.vis {fsc:Scope}{N:zq}{y:Str}{env:Env}(c:n5 scope fsc xs N' N)(h:(relabel scope env).names.lookup y=some .cell\/(relabel scope env).names.lookup y=some .free): scope.names.lookup y=some .free:=by
 rw[vS] at h;cases e:scope.names.lookup y with
 | none=>rw[e] at h;simp at h
 | some k =>
   have nc:=Qy.mp c.IM _ (nM e);rw[e] at h;cases k<;>simp at nc h ⊢
def GH {env:Env}{y:Str}(h:(relabel scope env).names.lookup y=some .local): scope.names.lookup y=some .local:=by
 rw[vS] at h;cases e:scope.names.lookup y with
 | none=>rw[e] at h;simp at h
 | some k =>
   rw[e] at h;simp only [QD,Option.some.injEq] at h;split at h
   · cases h
   · rw[h]
def Bb (I:ZZ X zk σ H s)(cok:n5 scope X.env.scope xs N' X.N)(hfp:∀b∈fp,sk X zk H b)(hfo:∀b∈fp,∃o,s.heap.get? b=some o){h1:Heap}{tk:Nat}(hn:h1.Ns s.heap.objs.size λ_=>none)
   (keep:∀b o,s.heap.get? b=some o->h1.get? b=some o):ZZ (i_ X scope (xs++N') s.heap.objs.size s H zk fp) [] (qq xs.length none++σ) H { s with heap:=h1,toks:=tk }:=by
 have has:∀y,scope.names.lookup y=some .free->∃c,X.env.cells.lookup y=some c:=λy h=>I.ok.has y (cok.free h);have cells:∀y c,(o_ X.env.cells scope.names []).lookup y=some c->X.env.cells.lookup y=some c:=λy c h=>by
   refine GF (l:=scope.names) (acc:=[]) (λp hp hk=>?_) (λz=>nomatch z) h;have:X.env.scope.names.lookup p.1=some .cell\/X.env.scope.names.lookup p.1=some .free:=by
     have:=Qy.mp cok.frees p hp;simp[hk] at this;exact this
   exact I.ok.has p.1 this
 have clt:∀y c,X.env.cells.lookup y=some c->c < s.heap.objs.size:=λy c h=>by
   let⟨v,q⟩:=I.cell y c h;exact q.lt
 have sLs:∀b∈fp,b∉frs X.stack:=λb hb z=>by
   rcases qk.mp (I.mP b z) with q | q
   · exact(hfp b hb).2.1 q
   · exact(hfp b hb).2.2.1 q
 have cellK:∀c v,s.heap.IsCell c v->h1.IsCell c v:=λc v ⟨o,ho,hd⟩=>⟨o,keep c o ho,hd⟩;refine⟨⟨I.ok.mod,?_,I.ok.glob,I.ok.blt,qe _,λy z c h1 h2=>I.ok.inj y z c (cells y c h1) (cells z c h2),λy h=>?_,λ_ _ z=>(nomatch z),I.ok.hd,I.ok.frames,.inl rfl,λb hb=>⟨?_,λy c h=>?_⟩,I.bs,Qh I.ok.bsz I.sz,λb o e hb=>?_,sLs,I.stack,I.ED⟩,
   rfl,I.bare,Un.kept keep,⟨_,hn,λi y v e1 e2 e3=>?_⟩,λy c h=>?_,I.hok.fresh (qe _),λy c h=>I.oU y c (cells y c h),λp hp=>?_,I.hok.kept keep,?_⟩
 · show scope.kind=_;exact cok.kind
 · exact xK (nM (cok.vis h))
 · let⟨o,e⟩:=hfo b hb
   exact qH (qj e)
 · exact(hfp b hb).2.2.2.2.1 y c (cells y c h)
 · rcases (hfp b hb).2.2.2.1 with z | z
   · exact I.ok.uN b o e z
   · exact absurd (qz (qj (I.ok.bs b o e).1) z) (Qj _)
 · have hi:xs.length<=i:=by
     refine Nat.le_of_not_lt λz=>?_;rw[qR (by rw[qO];exact z),ada] at e2;split at e2<;>simp at e2
   have e1':N'[i-xs.length]?=some y:=by
     have e1:(xs++N')[i]?=some y:=e1;rwa [qF hi] at e1
   have e2':σ[i-xs.length]?=some (some v):=by
     rw[qF (by rw[qO];exact hi),qO] at e2;exact e2
   have mem:=qw e1';have hk:(relabel scope X.env).names.lookup y=some .cell\/(relabel scope X.env).names.lookup y=some .free:=by
     rcases e3 with z | z
     · have:=Qy.mp cok.mask y mem
       rw[GH z] at this;simp at this
     · exact z
   have hf:=cok.vis hk;have hx:X.N[i-xs.length]?=some y:=by
     have hl:i-xs.length < X.N.length:=by rw[<-cok.len];exact(qg.mp e1').1
     have hz:(N'.zip X.N)[i-xs.length]?=some (y,X.N[i-xs.length]):=by
       rw[QW];exact⟨e1',qi hl⟩
     have:=Qy.mp cok.same _ (qw hz);simp[hf] at this;rw[qi hl,<-this]
   let⟨m,hm,hl⟩:=I.loc;have hv:Vis X.env.scope y:=.inr (cok.free hf);let⟨u,r,l⟩:=hl _ y v hx e2' hv;refine⟨u,r,.inr ⟨hk,?_⟩⟩;rcases l with ⟨k,_⟩ | ⟨_,c,hc,hcell⟩
   · rcases cok.free hf with z | z
     · rw[show X.env.scope.names.lookup y=some .local from k] at z;cases z
     · rw[show X.env.scope.names.lookup y=some .local from k] at z;cases z
   · let⟨c',hc'⟩:=xK (cells:=X.env.cells) (acc:=[]) (nM hf)
     have:c=c':=by
       have:=cells y c' hc';rw[hc] at this;exact qI this
     subst this;exact⟨c,hc',cellK c _ hcell⟩
 · let⟨v,q⟩:=I.cell y c (cells y c h)
   exact⟨v,cellK c v q⟩
 · have hp':p∈X.pn++zk:=by simpa [i_] using hp
   let⟨e,n,ne,nf,d⟩:=I.pin p hp';refine⟨keep p.1 p.2 e,n,qH (qj e),λz=>?_,d⟩;rcases qk.mp (I.mP p.1 z) with q | q
   · exact ne q
   · exact nf q
 · show (qq xs.length none++σ).length=(xs++N').length
   rw[qd,qd,qO,I.len,cok.len]
def GI:TT:=λ_ H Q=>Q true H
def PTs (X:Cx)(ifs:zx)(t:TT): Prop :=
 ∀(zk:zh) (s:Shared) (σ:St) (H:Hp) (Q:Ze),ZZ X zk σ H s->t σ H Q ->
   wpAny (model X.prog X.w) X.A (forIn ifs true λc r=>if r=true then do let ok <-isTrue c X.env (eval c X.env);pure (QE ok) else pure (QE r)) (TP X zk σ Q) X.xe s
def AI:PTs X [] GI:=λ_ _ _ H _ I h=>wpAny_tests_nil ⟨H,I,h⟩
def PZ {c:Expr}{t:TT}(h:PT X c t): PTs X [c] t:=λzk s σ H Q I hw=>wpAny_tests_one (h zk s σ H Q I hw)
abbrev zK:=Nat->List V->Hp->Prop
def J2 (k:Nat)(wi:TI)(g:TG)(tc:TT)(te:TE): TE:=λσ H Q=>wi σ H λJ H1=>∀acc,H1 acc=none->∃(W:zK) (n:Nat),W 0 [] (upd H1 acc (.lst [])) ∧
 ∀i ys H2,W i ys H2->H2 acc=some (.lst ys)/\ys.length < sizeLine/\((i=n/\J.stop i H2/\Q (.ref acc) H2)\/(i < n/\J.go i H2/\∀x H3,J.yld i H2 x H3->∀τ:St,τ.length=k->g x (τ++σ) H3 λτ2 H4 =>
   (∃τ':St,τ'.length=k/\τ2=τ'++σ)/\tc τ2 H4 λb H5=>if b=true then te τ2 H5 λv H6=>H6 acc=some (.lst ys)/\W (i+1) (ys++[v]) (upd H6 acc (.lst (ys++[v]))) else W (i+1) ys H5))
def comp_back (I:ZZ X zk σ H s)(hfp:∀b∈fp,sk X zk H b){NN:zq}{mQ:zh}{τ:St}{H':Hp}{s':Shared}(J:ZZ (i_ X scope NN s.heap.objs.size s H zk fp) mQ τ H' s'): ZZ X zk σ H' s' :=
 I.call' (ch:=fp) (J.os.trans rfl) J.base J.hok J.bare λb hb=>⟨(hfp b hb).2.2.2.1,(hfp b hb).2.1,(hfp b hb).2.2.2.2.1,(hfp b hb).2.2.2.2.2⟩
end
section
variable {X:Cx}{scope:Scope}{xs N':zq}{target iter elt:Expr}{ifs:zx}{pos:Pos}{wi:TI}{g:TG}{tc:TT}{te:TE}
def IP (hc:X.calm=true)(cok:n5 scope X.env.scope xs N' X.N)(hi:PI X target iter wi)
   (hg:∀C s H zk fp,PG (i_ X scope (xs++N') C s H zk fp) target g) (ht:∀C s H zk fp,PTs (i_ X scope (xs++N') C s H zk fp) ifs tc) (he:∀C s H zk fp,PE (i_ X scope (xs++N') C s H zk fp) elt te)
   {zk:zh} {s:Shared} {σ:St} {H:Hp} {Q:VK} {RR:Value->Addr->Result->Shared->Prop} (I:ZZ X zk σ H s) (h:J2 xs.length wi g tc te σ H Q)
   (hRR:∀a C m H' s',ZZ X zk σ H' s'->sk X zk H' C->s'.heap.Ns C m->Q (.ref a) H'->RR (.ref a) C (.ok .next) s') :
   wpAny (model X.prog X.w) X.A (eval iter X.env) (λx s₁=>wpAny (model X.prog X.w) X.A (pyIter x) (λit s₂=>wpAny (model X.prog X.w) X.A (newList []) (λacc s₃ =>
     wpAny (model X.prog X.w) X.A (newFunctionEnv scope X.env.globals (o_ X.env.cells scope.names []) [] X.env.qual none .none (some X.env)) (λcenv s₄ =>
       codeAny (model X.prog X.w) X.A (.compStart (.ListComp elt [⟨target,iter,ifs,0⟩] scope pos) 0 it acc { cenv with scope:=relabel scope X.env }) (RR acc cenv.locals) s₄) X.xe s₃) X.xe s₂) X.xe s₁) X.xe s:=by
 refine ZQ (hi zk s σ H _ I h) λv s1 h1=>ZQ h1 λitv s2 h2=>?_;let⟨it,fp,tn,J,H2,e,I2,T,st2,f2,h3⟩:=h2;subst e;have ob2:∀b∈fp,∃o,s2.heap.get? b=some o:=λb hb=>(by let⟨o,q,_⟩:=T.obj _ _ st2 b hb;exact ⟨o,q⟩);have IQ:H2 s2.heap.objs.size=none:=I2.fresh;have I3:=I2.PF (its:=[]) (ys:=[]) (t':=s2.toks) .nil (qV _);refine wpAny_newObj_type (T := "list") ?_;let⟨W,n,w0,turn⟩:=h3 s2.heap.objs.size IQ;generalize hs3:({ s2 with heap:=s2.heap.push { cls:=.type "list",data:=.seq ([]:zi).toArray },toks:=s2.toks }:Shared)=s3 at I3;have M_:∀b o,s2.heap.get? b=some o->s3.heap.get? b=some o:=λb o q=>by rw[<-hs3];exact qb _ q
 have f3:∀b∈fp,sk X zk (upd H2 s2.heap.objs.size (.lst [])) b:=λb hb=>by
   let⟨o,q⟩:=ob2 b hb;let⟨q0,q1⟩:=f2 b hb;exact⟨by rw[ak (qH (qj q))];exact q0,q1⟩
 have ob3:∀b∈fp,∃o,s3.heap.get? b=some o:=λb hb=>(by let⟨o,q⟩:=ob2 b hb;exact ⟨o,M_ b o q⟩);have st3:tn 0 s3.heap:=T.keep _ _ _ st2 λb _ o q=>M_ b o q;refine wpAny_newFunctionEnv (λy hy z=>?_) (λy hy=>nomatch hy) (λh4 hns hsb=>?_) cok.kind
 · have:=Qy.mp cok.IM y hy
   rw[z] at this;simp at this
 have GJ:∀b o,s3.heap.get? b=some o->h4.get? b=some o:=λb o q=>(hsb.2 b (qH (qj q))).trans (qb _ q);have J4:=Bb (tk:=s3.toks+([]:zH).length) I3 cok f3 ob3 hns GJ;have st4:tn 0 h4:=T.keep _ _ _ st3 λb _ o q=>GJ b o q;generalize hY:i_ X scope (xs++N') s3.heap.objs.size s3 (upd H2 s2.heap.objs.size (.lst [])) zk fp=Y at J4;have hP:Y.prog=X.prog:=by rw[<-hY];rfl
 have hw:Y.w=X.w:=by rw[<-hY];rfl
 have hK:Y.K=X.K:=by rw[<-hY];rfl
 have hcY:Y.calm=true:=by rw[<-hY];exact hc
 have stat:∀{H':Hp},(∀b∈fp,H' b=none)->∀b∈fp,sk Y [] H' b:=λ{H'} hn b hb=>by
   let⟨o,q⟩:=ob3 b hb;rw[<-hY];refine⟨hn b hb,qH (qj q),λz=>?_,.inl hb,λy c hy=>?_,λp hp=>?_⟩
   · rcases qk.mp (I3.mP b z) with w | w
     · exact(f3 b hb).2.1 w
     · exact(f3 b hb).2.2.1 w
   · have hx:=J4.ok.exf b (by rw[<-hY];exact hb)
     rw[<-hY] at hx;exact hx.2 y c hy
   · have hp':p∈X.pn++zk:=by simpa [i_] using hp
     exact(f3 b hb).2.2.2.2.2 p hp'
 have loop:∀s5:Shared,ZZ Y [] (qq xs.length none++σ) (upd H2 s2.heap.objs.size (.lst [])) s5->tn 0 s5.heap ->
     codeAny (model X.prog X.w) X.A (.compLoop (.ListComp elt [⟨target,iter,ifs,0⟩] scope pos) 0 (.ref it) (.ref s2.heap.objs.size) Y.env) (RR (.ref s2.heap.objs.size) s3.heap.objs.size) s5:=by
   intro s5 J5 st5;refine K5 (λk s'=>∃(i:Nat) (ys:zu) (H':Hp) (τ:St),k+i=n/\τ.length=xs.length/\ZZ Y [] (τ++σ) H' s'/\tn i s'.heap/\(∀b∈fp,H' b=none)/\W i ys H') ?_ n
     ⟨0,[],_,qq xs.length none,rfl,qO ..,J5,st5,λb hb=>(f3 b hb).1,w0⟩
   rintro k s6 ⟨i,ys,H6,τ,hk,hτ,J6,st6,fr6,w6⟩;let⟨hacc,hlen,hcase⟩:=turn i ys H6 w6;rcases hcase with ⟨hin,stop,hq⟩ | ⟨hin,go,step⟩
   · refine ZQ (A:=X.A) (by have:=T.done Y hP hw hK hcY i [] s6 (τ++σ) H6 (λ_ _=>False) J6 (stat fr6) st6 stop;rw[<-hY] at this;exact this) λr s7 q7=>?_
     let⟨hr,J7⟩:=q7;subst hr;rw[hY] at J7;let⟨m7,hn7,_⟩:=J7.loc;have e1:Y.env.locals=s3.heap.objs.size:=by rw[<-hY];rfl
     rw[e1] at hn7;have J7':ZZ X zk σ H6 s7:=comp_back I3 f3 (by rw[hY];exact J7);refine hRR _ _ m7 H6 s7 J7' ?_ hn7 hq;have e2:=J7.free;rw[e1] at e2;exact I3.xB (qe _) e2
   · refine ZQ (A:=X.A) (by have:=T.item Y hP hw hK hcY i [] s6 (τ++σ) H6 (λ_ _=>False) J6 (stat fr6) st6 go;rw[<-hY] at this;exact this) λr s7 q7=>?_
     let⟨u,hr,q7⟩:=q7;subst hr;have hA:Y.A=X.A:=by rw[<-hY];rfl
     rw[hY] at q7;rw[hA] at q7;refine ZQ q7 λ_ s8 q8=>?_;let⟨x8,H8,J8,r8,y8,st8,fr8⟩:=q8;have J8':=J8.pinned (stat fr8) (T.obj _ _ st8);have g8:=hg s3.heap.objs.size s3 (upd H2 s2.heap.objs.size (.lst [])) zk fp;have t8:=ht s3.heap.objs.size s3 (upd H2 s2.heap.objs.size (.lst [])) zk fp;have e8:=he s3.heap.objs.size s3 (upd H2 s2.heap.objs.size (.lst [])) zk fp;have a8:∀{Z:Cx},Z=Y->MtM Z "list.append" EV:=λ{Z} _=>mO;have hxe:Y.xe=λ_ _=>False:=by rw[<-hY];rfl
     rw[hY] at g8 t8 e8;have back:∀{τ2:St} {H9:Hp} {s9:Shared},ZZ Y ([]++xC fp s8.heap) τ2 H9 s9->ZZ Y [] τ2 H9 s9/\tn (i+1) s9.heap/\∀b∈fp,H9 b=none:=λ{τ2 H9 s9} J9=>by
       refine⟨J9.su,T.keep _ _ _ st8 λb hb o q=>(J9.pin (b,o) (qM _ (qM _ (lB hb q)))).1,λb hb=>?_⟩;let⟨o,q,d⟩:=T.obj _ _ st8 b hb;exact(J9.pin (b,o) (qM _ (qM _ (lB hb q)))).2.1
     have z1:=g8 _ s8 (τ++σ) H8 x8 u _ J8' r8 (step x8 H8 y8 τ hτ);rw[hP,hw,hA,hxe] at z1;refine ZQ z1 λ_ s9 q9=>?_;let⟨τ9,H9,J9,⟨τ',hτ',e9⟩,q9⟩:=q9;subst e9;have z2:=t8 _ s9 (τ'++σ) H9 _ J9 q9;rw[hP,hw,hA,hxe] at z2;refine ZQ z2 λb s10 q10=>?_;let⟨H10,J10,q10⟩:=q10;cases b with
     | false =>
       rw[if_neg qf] at q10 ⊢;let⟨b1,b2,b3⟩:=back J10;exact⟨k-1,by lia,i+1,ys,H10,τ',by lia,hτ',b1,b2,b3,q10⟩
     | true =>
       rw[if_pos rfl] at q10 ⊢;have z3:=e8 _ s10 (τ'++σ) H10 _ J10 q10;rw[hP,hw,hA,hxe] at z3;refine ZQ z3 λy s11 q11=>?_;let⟨v11,H11,J11,r11,IT,w11⟩:=q11;have z4:=a8 rfl _ s11 (τ'++σ) H11 (.ref s2.heap.objs.size) [v11] (.ref s2.heap.objs.size) [y] (λ_ H'=>W (i+1) (ys++[v11]) H') J11 rfl (.cons r11 .nil) ⟨_,ys,v11,rfl,rfl,IT,hlen,w11⟩;rw[hP,hw,hA,hxe] at z4;refine ZQ z4 λ_ s12 q12=>?_;let⟨_,H12,J12,_,w12⟩:=q12;let⟨b1,b2,b3⟩:=back J12;exact⟨k-1,by lia,i+1,ys++[v11],H12,τ',by lia,hτ',b1,b2,b3,w12⟩
 have Up:({ newEnv scope s3.heap.objs.size X.env.globals (o_ X.env.cells scope.names []) X.env.qual none .none (some X.env) X.env.builtins with scope:=relabel scope X.env }:Env)=Y.env:=by rw[<-hY];rfl
 have l4:=loop _ J4 st4;rw[<-Up] at l4;exact codeAny_compStart_list l4 (T.self _ 0 _ _ _ st4 l4)
def J3 {zk:zh}{s:Shared}{σ:St}{H:Hp}(I:ZZ X zk σ H s)(cok:n5 scope X.env.scope xs N' X.N): closureFor scope X.env=pure (o_ X.env.cells scope.names []):=by
 refine PY λp hp hk=>?_;have:X.env.scope.names.lookup p.1=some .cell\/X.env.scope.names.lookup p.1=some .free:=by
   have:=Qy.mp cok.frees p hp;simp[hk] at this;exact this
 exact I.ok.has p.1 this
def AJ (hc:X.calm=true)(cok:n5 scope X.env.scope xs N' X.N)(hi:PI X target iter wi)
   (hg:∀C s H zk fp,PG (i_ X scope (xs++N') C s H zk fp) target g) (ht:∀C s H zk fp,PTs (i_ X scope (xs++N') C s H zk fp) ifs tc) (he:∀C s H zk fp,PE (i_ X scope (xs++N') C s H zk fp) elt te)
   (hs:∀x,foldedSetIterable iter X.env x=pure x:=by intro _;rfl):PE X (.ListComp elt [⟨target,iter,ifs,0⟩] scope pos) (J2 xs.length wi g tc te):=by
 intro zk s σ H Q I h;rw[eval_ListComp];refine wpAny_comprehension_free (use:=none) rfl hs (J3 I cok) cok.kind cok.own (IP hc cok hi hg ht he I h λa C m H' s' J fC hn q=>⟨m,hn,λh' hs'=>?_⟩);let⟨f0,f1,f2,f3,f4,f5⟩:=fC;exact⟨.ref a,H',J.turned (t':=s'.toks) (λb o hb e=>(hs'.2 b hb).trans e) f0 f1 f3 f4 f5,rfl,q⟩
end
def d8 (K:qv)(mg:zf)(x:Str)(st:Stmt)(ps:zq)(Zz:zu): Prop :=
 ∃(f:Addr) (oc:Value) (od:zo) (dV kV doc pm:Value) (an:zo) (cdv ct:Value) (osl:zy) (ds:zi),
   K.lookup f=some ⟨oc,od,.func (QF x x (fW st) (dO st) (cQ st) dV kV doc pm an cdv ct),osl⟩/\QG K cdv x=true/\QQ K (.ref f)=true ∧
   mg x=some (.ref f)/\Binds K (QF x x (fW st) (dO st) (cQ st) dV kV doc pm an cdv ct) ps ds/\Vals Zz ds
def cN (K:qv)(C:Addr)(m qual:Str)(st:Stmt)(ps:zq)(Zz:zu): Prop :=
 ∃(f:Addr) (oc:Value) (od:zo) (dV kV doc pm:Value) (an:zo) (cdv ct:Value) (osl:zy) (ds:zi),
   K.lookup f=some ⟨oc,od,.func (QF m qual (fW st) (dO st) (cQ st) dV kV doc pm an cdv ct),osl⟩/\QG K cdv qual=true/\Meth K C m f ∧
   Binds K (QF m qual (fW st) (dO st) (cQ st) dV kV doc pm an cdv ct) ps ds/\Vals Zz ds
def jE (K:qv)(C:Addr)(qual:Str)(st:Stmt)(ps:zq)(Zz:zu): Prop :=
 ∃(f:Addr) (oc:Value) (od:zo) (dV kV doc pm:Value) (an:zo) (cdv ct:Value) (osl:zy) (ds:zi),
   K.lookup f=some ⟨oc,od,.func (QF "__init__" qual (fW st) (dO st) (cQ st) dV kV doc pm an cdv ct),osl⟩/\QG K cdv qual=true/\Mk K C f ∧
   Binds K (QF "__init__" qual (fW st) (dO st) (cQ st) dV kV doc pm an cdv ct) ps ds/\Vals Zz ds
def ZY (P:Program)(w:World)(K:qv)(mg:zf)(base:Heap)(k:Nat)(x:Str)(ps:zq)(sp:Sp)(Zz:zu): Prop :=
 ∃f fd ds,lw P w K mg base (CXE P w) k f fd ps sp/\mg x=some (.ref f)/\QQ K (.ref f)=true/\Binds K fd ps ds/\Vals Zz ds
def cR (P:Program)(w:World)(K:qv)(mg:zf)(base:Heap)(C:Addr)(k:Nat)(m:Str)(ps:zq)(sp:Sp)(Zz:zu): Prop :=
 ∃f fd ds,lw P w K mg base (CXE P w) k f fd ps sp/\Meth K C m f/\Binds K fd ps ds/\Vals Zz ds
def jw (P:Program)(w:World)(K:qv)(mg:zf)(base:Heap)(C:Addr)(k:Nat)(ps:zq)(sp:Sp)(Zz:zu): Prop :=
 ∃f fd ds,lw P w K mg base (CXE P w) k f fd ps sp/\Mk K C f/\Binds K fd ps ds/\Vals Zz ds
section
variable {P:Program}{w:World}{K:qv}{mg:zf}{base:Heap}{C:Addr}{x m qual:Str}{st:Stmt}{N ps:zq}{Zz:zu}{k:Nat}{sp:Sp}
def d8.ok (R:d8 K mg x st ps Zz)(S:mE N ps (cQ st))(len:∀vs H Q E,sp vs H Q E->vs.length=ps.length)
   (hbody:∀(f:Addr) (cdv:Value) (A:Around) (outer:zC) (s:Shared) (H:Hp) (vs:zu) (Q:VK) (E:XK),iH k (A.deeper (envOfC x (cQ st) s.heap.objs.size f cdv))->sp vs H Q E ->
     ∃t,PSs (lX (CXE P w) P w K mg base N x (cQ st) f cdv A outer s H E) (dO st) t/\t { nx:=λ_ H'=>Q .non H',rt:=Q } (start N vs) H):ZY P w K mg base (k+1) x ps sp Zz:=by
 let⟨f,oc,od,dV,kV,doc,pm,an,cdv,ct,osl,ds,lk,hcd,kp,hm,hb,hd⟩:=R;exact⟨f,_,ds,yB lk hcd S len λA outer s H vs Q E hr hsp=>hbody f cdv A outer s H vs Q E hr hsp,hm,kp,hb,hd⟩
def cN.ok (R:cN K C m qual st ps Zz)(S:mE N ps (cQ st))(len:∀vs H Q E,sp vs H Q E->vs.length=ps.length)
   (hbody:∀(f:Addr) (cdv:Value) (A:Around) (outer:zC) (s:Shared) (H:Hp) (vs:zu) (Q:VK) (E:XK),iH k (A.deeper (envOfC qual (cQ st) s.heap.objs.size f cdv))->sp vs H Q E ->
     ∃t,PSs (lX (CXE P w) P w K mg base N qual (cQ st) f cdv A outer s H E) (dO st) t/\t { nx:=λ_ H'=>Q .non H',rt:=Q } (start N vs) H):cR P w K mg base C (k+1) m ps sp Zz:=by
 let⟨f,oc,od,dV,kV,doc,pm,an,cdv,ct,osl,ds,lk,hcd,hm,hb,hd⟩:=R;exact⟨f,_,ds,yB lk hcd S len λA outer s H vs Q E hr hsp=>hbody f cdv A outer s H vs Q E hr hsp,hm,hb,hd⟩
def jE.ok (R:jE K C qual st ps Zz)(S:mE N ps (cQ st))(len:∀vs H Q E,sp vs H Q E->vs.length=ps.length)
   (hbody:∀(f:Addr) (cdv:Value) (A:Around) (outer:zC) (s:Shared) (H:Hp) (vs:zu) (Q:VK) (E:XK),iH k (A.deeper (envOfC qual (cQ st) s.heap.objs.size f cdv))->sp vs H Q E ->
     ∃t,PSs (lX (CXE P w) P w K mg base N qual (cQ st) f cdv A outer s H E) (dO st) t/\t { nx:=λ_ H'=>Q .non H',rt:=Q } (start N vs) H):jw P w K mg base C (k+1) ps sp Zz:=by
 let⟨f,oc,od,dV,kV,doc,pm,an,cdv,ct,osl,ds,lk,hcd,hm,hb,hd⟩:=R;exact⟨f,_,ds,yB lk hcd S len λA outer s H vs Q E hr hsp=>hbody f cdv A outer s H vs Q E hr hsp,hm,hb,hd⟩
end
section
variable {X:Cx}{C:Addr}{k:Nat}{ps:zq}{sp:Sp}{Zz:zu}{E:zV}{x m:Str}{p pos apos:Pos}{e o:Expr}{es:zx}{ta:TE}{t:TA}
def SJ (h:ZY X.prog X.w X.K X.mg X.base k x ps sp Zz)(hr:iH k X.A)(hg:Gl X x)(hx:fX (CXE X.prog X.w) X E)
   (ha:PA X (e::es) t) (hdb:(x==("__debug__" : Str))=false:=by decide) (he:starEach (e::es) X.env=(false,eval e X.env)::starEach es X.env:=by rfl) (hpl:(backTo pos (starEach es X.env)).any (·.1)=false:=by rfl) :
   PE X (.Call (.Name x p) (e::es) [] pos) (E4 sp Zz E t):=by
 let⟨f,fd,ds,F,hm,hk,hb,hd⟩:=h;exact MQ F hr hg hm hk hb hd hx ha hdb he hpl
def SK {pl:zX}(he:PE X o ta)(c:Zw X.K C)(h:cR X.prog X.w X.K X.mg X.base C k m ps sp Zz)(hr:iH k X.A)(hx:fX (CXE X.prog X.w) X E)(ha:PA X (e::es) t)
   (hst:starEach (e::es) X.env=(false,eval e X.env)::starEach es X.env:=by rfl) (hpl:(backTo pos (starEach es X.env)).any (·.1)=false:=by rfl)
   (ht:eval (.Call (.Attribute o m apos) (e::es) [] pos) X.env=(do
     let ov <-eval o X.env
     standAt apos.atName
     let (f,first) <-holding [ov] (getMethod ov m pl)
     callWith pos f first (backTo pos (starEach (e::es) X.env)) (backToKw pos (keywordEach [] X.env))):=by rfl) :
   PE X (.Call (.Attribute o m apos) (e::es) [] pos) (xJ C m sp Zz E ta t):=by
 let⟨f,fd,ds,F,hm,hb,hd⟩:=h;exact MR he c hm F hr hb hd hx ha hst hpl ht
def Uq {pl:zX}(he:PE X o ta)(c:Zw X.K C)(h:cR X.prog X.w X.K X.mg X.base C k m ps sp Zz)(hr:iH k X.A)(hx:fX (CXE X.prog X.w) X E)
   (ht:eval (.Call (.Attribute o m apos) [] [] pos) X.env=(do
     let ov <-eval o X.env
     standAt apos.atName
     let (f,first) <-holding [ov] (getMethod ov m pl)
     callWith pos f first (backTo pos (starEach [] X.env)) (backToKw pos (keywordEach [] X.env))):=by rfl) :
   PE X (.Call (.Attribute o m apos) [] [] pos) (xJ C m sp Zz E ta KR):=by
 let⟨f,fd,ds,F,hm,hb,hd⟩:=h;exact K2 he c hm F hr hb hd hx ht
def J_ (h:jw X.prog X.w X.K X.mg X.base C k ps sp Zz)(hr:iH (k+1) X.A)(hg:Gl X x)(hm:X.mg x=some (.ref C))(hx:fX (CXE X.prog X.w) X E)
   (ha:PA X (e::es) t) (hdb:(x==("__debug__" : Str))=false:=by decide) (he:starEach (e::es) X.env=(false,eval e X.env)::starEach es X.env:=by rfl) (hpl:(backTo pos (starEach es X.env)).any (·.1)=false:=by rfl) :
   PE X (.Call (.Name x p) (e::es) [] pos) (E5 C sp Zz E t):=by
 let⟨f,fd,ds,F,M,hb,hd⟩:=h;exact MS M F hr hg hm hb hd hx ha hdb he hpl
def xL {P:Program}{w:World}: fX (CXE P w) X (λ_=>E0):=λ_ _ _ _ _ _ _ hx=>by
 let⟨_,_,_,_,_,_,_,_,_,_,q⟩:=hx;exact q.elim
def kO {n:Int} (hg:Gl X x) (hm:∃t,X.mg x=some (.int n t)) (hd:(x==("__debug__" : Str))=false:=by decide):PE X (.Name x pos) (tC (.int n)):=by
 let⟨t,hm⟩:=hm;exact eX hg hm ⟨t,rfl⟩ hd
end
section
variable {X:Cx}{K:qv}
def P0 {e:Expr}{ta:TE}{f:Str}{pos:Pos}(h:X.K=K)(he:PE X e ta)(hb:attributeBase e f X.env (eval e X.env)=eval e X.env): PE X (.Attribute e f pos) (TV K ta f):=by subst h;exact MF he hb
end
def eT {c A B:Prop}[Decidable c](h1:¬c->A)(h2:c->B): if (!decide c)=true then A else B:=by
 by_cases h:c
 · rw[decide_eq_true h];exact iB (h2 h)
 · rw[decide_eq_false h];exact eZ (h1 h)
def dI {c A B:Prop}[Decidable c](h1:c->A)(h2:¬c->B): if decide c=true then A else B:=by
 by_cases h:c
 · rw[decide_eq_true h];exact eZ (h1 h)
 · rw[decide_eq_false h];exact iB (h2 h)
def d6 {i j:Int}{A B:Prop}(h1:i=j->A)(h2:¬i=j->B): if decide (V.int i=V.int j)=true then A else B :=
 dI (λz=>h1 (by injection z)) λz=>h2 λq=>z (by rw[q])
def dF {i j:Int}{A B:Prop}(h1:¬i=j->A)(h2:i=j->B): if (!decide (V.int i=V.int j))=true then A else B :=
 eT (λz=>h1 λq=>z (by rw[q])) λz=>h2 (by injection z)
def cO:1<=sizeLine:=by rw[sizeLine_eq];decide
def ck {n:Nat}(h:n<=1000): n<=sizeLine:=by rw[sizeLine_eq];lia
def cT {H:Hp}{q:Addr}{u:HO}(h:H q=none): Zy H (upd H q u):=λb o z=>by rw[ak (aj z h)];exact z
def cY (K:qv)(v:Value): Qe K v v=some true:=by
 unfold Qe;rw[if_pos (by simp)]
def fb (K:qv): Qe K (.type "int") (.type "bool")=some false:=by
 unfold Qe W.kitCls;rw[if_neg (by decide)];have h1:W.kitMeta "bool" = true:=by exfalso
 simp only [h1,if_true];show aeS (λx=>x.contains (abR "bool")) (fastBuiltinMro "int")=some false;exfalso
def GK {ns:zm}{n:Int}(h0:0<=n)(h1:n < ns.length): atI (ns.map V.int) n=some (.int (ns.getD n.toNat 0)):=by
 have e:n=((n.toNat:Nat):Int):=by lia
 have hl:n.toNat < ns.length:=by lia
 rw[e];refine pJ ?_;rw[qx,qi hl,Qk,acI,qi hl];rfl
def Ka {ns:zm}{n:Int}(h0:0<=n)(h1:n < ns.length): ixN (ns.map V.int).length n=some n.toNat:=by
 unfold ixN;rw[qa,if_pos h0,if_pos h1]
def Nb {ns:zm}{k:Nat}(h:ns.length<=k): ns.getD k 0=0:=by
 rw[acI,abj h];rfl
def Bc (k:Int): ∀ns:zm,inV (.int k) (ns.map V.int)=decide (k∈ns)
 | []=>rfl
 | n::r=>by
   have ih:=Bc k r;unfold inV at *;rw[Qb,abg,ih];show ((n==k) || decide (k∈r))=_;rw[QX];simp only [Bool.or_eq_true,beq_iff_eq,decide_eq_true_eq,qk];constructor
   · rintro(h | h)
     · exact .inl h.symm
     · exact .inr h
   · rintro(h | h)
     · exact .inl h.symm
     · exact .inr h
def Nc (ns:zm)(lo hi:Za): ∃ms:zm,yU (ns.map V.int) lo hi=ms.map V.int/\ms.length<=ns.length:=by
 unfold yU;refine⟨(ns.drop (HT.sIx (ns.map V.int).length 0 lo)).take (HT.sIx (ns.map V.int).length (ns.map V.int).length hi-HT.sIx (ns.map V.int).length 0 lo),?_,?_⟩
 · rw[List.map_take,List.map_drop]
 · rw[qA,ade];lia
def g_ {ms:zm}{i:Nat}{y:V}(h:(ms.map V.int)[i]?=some y): ∃c:Int,y=.int c/\ms[i]?=some c:=by
 rw[qx] at h;cases e:ms[i]? with
 | none=>rw[e] at h;cases h
 | some c=>rw[e] at h;exact⟨c,(qI h).symm,rfl⟩
section
variable {tc:TT}{te:TE}{σ:St}{H1:Hp}{acc:Addr}{QH:Hp->Prop}
end
section
variable {X:Cx}{zk:zh}{σ:St}{H:Hp}{s:Shared}
end
end L2
namespace L2
open PySem PySem.Spec PyProof.Rows PyProof.V PySem.SeqAt
mutual
def uQ:∀d:PyData,d.canLay0=true->noMix d d=true
 | .none,_=>by simp[noMix]
 | .bool _,_=>by simp[noMix]
 | .int _,_=>by simp[noMix]
 | .str _,_=>by simp[noMix]
 | .list xs,h=>by
   rw[noMix];exact n6 xs (by simpa [aaY] using h)
 | .tuple xs,h=>by
   rw[noMix];exact n6 xs (by simpa [aaY] using h)
 | .dict _,h=>by simp[aaY] at h
def n6:∀ds:List PyData,abk ds=true->noMixAll ds ds=true
 | [],_=>by simp[noMixAll]
 | d::ds,h=>by
   simp only [abk,Q9] at h;rw[noMixAll,uQ d h.1,n6 ds h.2];rfl
end
def Tid (n:Nat)(d:PyData): Prop:=d.canLay0=true/\d.depth<=n
def Tid.mono {n m:Nat}{d:PyData}(h:Tid n d)(hm:n<=m): Tid m d:=⟨h.1,Qh h.2 hm⟩
def Tid.shaped {n:Nat}{d:PyData}(h:Tid n d)(hn:n<=64): shaped d=true:=by
 show (d.canLay0&&decide (d.depth<=64))=true;rw[h.1,decide_eq_true (Qh h.2 hn)];rfl
def Tid.int (i:Int): Tid 1 (.int i):=⟨by simp[aaY],by simp[adq]⟩
def Tid.str {x:Str}(h:aaY (.str x)=true): Tid 1 (.str x):=⟨h,by simp[adq]⟩
def Tid.all {n:Nat}: ∀{ds:List PyData},(∀d∈ds,Tid n d)->abk ds=true/\adD ds<=n
 | [],_=>⟨by simp[abk],by simp[adD]⟩
 | d::ds,h=>by
   have h1:=h d qG;have h2:=Tid.all (ds:=ds) λx hx=>h x (qB _ hx);refine⟨by simp[abk,h1.1,h2.1],?_⟩;have:=h1.2;have:=h2.2;simp only [adD];lia
def Tid.list {n:Nat}{ds:List PyData}(h:∀d∈ds,Tid n d): Tid (n+1) (.list ds):=by
 have q:=Tid.all h;refine⟨by simpa [aaY] using q.1,?_⟩;have:=q.2;simp only [adq];lia
def Tid.tuple {n:Nat}{ds:List PyData}(h:∀d∈ds,Tid n d): Tid (n+1) (.tuple ds):=by
 have q:=Tid.all h;refine⟨by simpa [aaY] using q.1,?_⟩;have:=q.2;simp only [adq];lia
def Tid.ints (ns:zm): Tid 2 (.list (ns.map aer)):=Tid.list λd hd=>by
 rw[Qa] at hd;let⟨i,_,rfl⟩:=hd;exact Tid.int i
def Tid.SL (ns:zm): Tid 2 (.tuple (ns.map aer)):=Tid.tuple λd hd=>by
 rw[Qa] at hd;let⟨i,_,rfl⟩:=hd;exact Tid.int i
section
variable {K:qv}{H:Hp}{x y:V}{d:PyData}{Q:VK}{n:Nat}
def Ee (h1:pL K H x d)(h2:pL K H y d)(t:Tid n d)(q:Q (.bl true) H)(hn:n<=64:=by decide): Ui K x y H Q :=
 ⟨d,d,h1,h2,t.shaped hn,t.shaped hn,uQ d t.1,by rw[adS];exact q⟩
def xM (h1:pL K H x d)(h2:pL K H y d)(t:Tid n d)(q:Q (.bl false) H)(hn:n<=64:=by decide): Uj K x y H Q :=
 ⟨d,d,h1,h2,t.shaped hn,t.shaped hn,uQ d t.1,by rw[adS];exact q⟩
end
end L2
namespace L2
open PySem PySem.Spec PyProof.Rows
section
variable {X:Cx}
end
def notStar:Expr->Bool
 | .Starred _ _=>false
 | _=>true
def K6 {e:Expr}{es:zx}{env:Env}(h:notStar e=true): starEach (e::es) env=(false,eval e env)::starEach es env:=by
 cases e<;>first | rfl | cases h
def SM {X:Cx}{e:Expr}{es:zx}{te:TE}{t:TA}(ha:PE X e te)(hr:PA X es t)(h:notStar e=true): PA X (e::es) (JQ te t):=tU ha hr (K6 h)
def exW {p:(Nat->Nat->St->Hp->Prop)->Prop}(w:Nat->Nat->St->Hp->Prop)(h:p w): ∃w,p w:=⟨w,h⟩
def exN {p:(St->Hp->Prop)->Prop}(w:St->Hp->Prop)(h:p w): ∃w,p w:=⟨w,h⟩
def exD {p:PyData->Prop}(w:PyData)(h:p w): ∃w,p w:=⟨w,h⟩
def iQ {p:(Nat->St->Hp->Prop)->Prop}(w:zG)(h:p w): ∃w,p w:=⟨w,h⟩
def fc {H:Hp}{q b:Addr}{u o:HO}(h:H q=none)(e:H b=some o): upd H q u b=some o:=cT h b o e
def f7 {H:Hp}{q b:Addr}{u o:HO}(h:b≠q)(e:H b=some o): upd H q u b=some o:=by rw[ak h];exact e
def dX {f g:Str}{v:V}{r:zw}{o:zJ}(h:¬g=f)(e:r.lookup g=o): ((f,v)::r).lookup g=o:=by
 have hb:(g==f)=false:=beq_eq_false_iff_ne.mpr h;simp only [QN,hb];exact e
def fe {H H':Hp}{q:Addr}{u:HO}(h:H' q=none)(e:Zy H H'): Zy H (upd H' q u):=e.trans (cT h)
def f9 {f:Str}{v:V}{r:zw}: ((f,v)::r).lookup f=some v:=by
 have hb:(f==f)=true:=beq_iff_eq.mpr rfl;simp only [QN,hb]
def V8 {f:Str}{v x:V}{r:zw}: jT f v ((f,x)::r)=(f,v)::r:=if_pos rfl
def jg {f g:Str}{v x:V}{r:zw}(h:¬g=f): jT f v ((g,x)::r)=(g,x)::jT f v r:=if_neg h
def iK {f:Str}{v:V}: jT f v []=[(f,v)]:=rfl
def iH.u1 {k:Nat}{A:Around}(r:iH k A): A.units+1 < cLine:=by have:=r.un;lia
section
variable {X:Cx}
def Ur (hu:X.A.units+1 < cLine): OpR X (compareOp .In) (λx y H Q=>∃a o,y=.ref a/\kg H a x o/\Q (.bl o.isSome) H):=by
 ac_rfl;let⟨a,o,rfl,g,q⟩:=h;cases ry;exact Yn hu I g rx λs3 I3=>⟨.bl o.isSome,H,I3,rfl,q⟩
def pc (hu:X.A.units+1 < cLine): OpR X (compareOp .NotIn) (λx y H Q=>∃a o,y=.ref a/\kg H a x o/\Q (.bl (!o.isSome)) H):=by
 ac_rfl;let⟨a,o,rfl,g,q⟩:=h;cases ry;exact PK hu I g rx λs3 I3=>⟨.bl (!o.isSome),H,I3,rfl,q⟩
end
section
variable {X:Cx}
def P4 {K:qv}{es:zx}{k:Nat}{t:TGs}{n:Nat}{pos:Pos}(hK:X.K=K)(hc:X.calm=true)(h:PGs X es t)
   (hn:(assignEach es X.env).length=n:=by rfl) (hst:(assignEach es X.env).findIdx? (·.1)=none:=by rfl):PG X (.Tuple es k pos) (TF K n t):=by
 subst hK;exact kK hc h hn hst
end
section
variable {X:Cx}
end
structure SN (K:qv)(C:Addr)(m:Str)(f:Addr): Prop where
 sp:acU K (.ref C) "__getattribute__" = some (some (.builtin "type.__getattribute__"))
 fi:∃mc,W.readsIn K C mc=true/\W.findCls K (.ref C) mc m=some (.val (.ref f))
 kp:QQ K (.ref f)=true
def GL (P:Program)(w:World)(K:qv)(mg:zf)(base:Heap)(C:Addr)(k:Nat)(m:Str)(ps:zq)(sp:Sp)(Zz:zu): Prop :=
 ∃f fd ds,lw P w K mg base (CXE P w) k f fd ps sp/\SN K C m f/\Binds K fd ps ds/\Vals Zz ds
section
variable {P:Program}{w:World}{K:qv}{mg:zf}{base:Heap}{C:Addr}{x m qual:Str}{st:Stmt}{N ps:zq}{Zz:zu}{k:Nat}{sp:Sp}
end
section
variable {X:Cx}{C:Addr}{k:Nat}{ps:zq}{sp:Sp}{Zz:zu}{E:zV}{x m:Str}{p pos apos:Pos}{e o:Expr}{es:zx}{ta:TE}{t:TA}
def Nf {pl:zX}(hg:Gl X x)(hm:X.mg x=some (.ref C))(h:GL X.prog X.w X.K X.mg X.base C k m ps sp Zz)(hr:iH k X.A)(hx:fX (CXE X.prog X.w) X E)(ha:PA X (e::es) t)
   (hdb:(x==("__debug__" : Str))=false:=by decide)
   (hst:starEach (e::es) X.env=(false,eval e X.env)::starEach es X.env:=by rfl) (hpl:(backTo pos (starEach es X.env)).any (·.1)=false:=by rfl)
   (ht:eval (.Call (.Attribute (.Name x p) m apos) (e::es) [] pos) X.env=(do
     let ov <-eval (.Name x p) X.env
     standAt apos.atName
     let (f,first) <-holding [ov] (getMethod ov m pl)
     callWith pos f first (backTo pos (starEach (e::es) X.env)) (backToKw pos (keywordEach [] X.env))):=by rfl) :
   PE X (.Call (.Attribute (.Name x p) m apos) (e::es) [] pos) (E4 sp Zz E t):=by
 let⟨f,fd,ds,F,hc,hb,hd⟩:=h;let⟨mc,h1,h2⟩:=hc.fi;intro zk s σ H Q I h;refine abF (pl:=pl) (lO I hg hm ?_ hdb) ht;refine W.method_cls I.kIn hc.sp (W.cls_value I.kIn h1 h2 rfl ?_);have I':ZZ X zk σ H { s with toks:=s.toks+1 }:=I.tok _;refine acw (first:=[]) (h₀:=X.base) I.ok.mod.kin hc.kp (ZQ (ha pos zk _ σ H _ I' h) λus s1 ⟨vs,H1,I1,r,q⟩=>⟨I1.kIn,?_⟩) hst hpl;exact vR F hr hb hd hx I1 r q
def Yo (X:Cx)(k:Nat)(m:Str)(Zz:zu)(E:zV)(ta:TE)(t:TA): TE:=λσ H Q=>ta σ H λx H1=>∃a C dx fs ps sp,x=.ref a/\H1 a=some (.ins C dx fs)/\Zw X.K C/\cR X.prog X.w X.K X.mg X.base C k m ps sp Zz/\fs.lookup m=none ∧
 t σ H1 λvs H2=>sp (.ref a::(vs++Zz)) H2 Q (E σ)
def Ng {pl:zX}(he:PE X o ta)(hr:iH k X.A)(hx:fX (CXE X.prog X.w) X E)(ha:PA X (e::es) t)
   (hst:starEach (e::es) X.env=(false,eval e X.env)::starEach es X.env:=by rfl) (hpl:(backTo pos (starEach es X.env)).any (·.1)=false:=by rfl)
   (ht:eval (.Call (.Attribute o m apos) (e::es) [] pos) X.env=(do
     let ov <-eval o X.env
     standAt apos.atName
     let (f,first) <-holding [ov] (getMethod ov m pl)
     callWith pos f first (backTo pos (starEach (e::es) X.env)) (backToKw pos (keywordEach [] X.env))):=by rfl) :
   PE X (.Call (.Attribute o m apos) (e::es) [] pos) (Yo X k m Zz E ta t):=by
 intro zk s σ H Q I h;refine abF (pl:=pl) (ZQ (he zk s σ H _ I h) λu s1 hz_=>?_) ht;let⟨x,H1,I1,rx,a,C,dx,fs,ps,sp,ex,ea,c,⟨f,fd,ds,F,hm,hb,hd⟩,l,q⟩:=hz_;walk_at "0j";refine uP I1 ea c hm l ?_;refine acw (first:=[.ref a]) (h₀:=X.base) I.ok.mod.kin hm.kp (ZQ (ha pos zk s1 σ H1 _ I1 q) λus s2 ⟨vs,H2,I2,r,q2⟩=>⟨I2.kIn,?_⟩) hst hpl;exact vR (us:=.ref a::us) (vs:=.ref a::vs) F hr hb hd hx I2 (.cons rfl r) q2
end
section
variable {X:Cx}{P:Program}{w:World}{K:qv}{mg:zf}{base:Heap}{m:Str}{Zz:zu}{k:Nat}{E:zV}{ta:TE}{t:TA}{o e:Expr}{es:zx}{pos apos:Pos}
end
structure TopD (P:Params)(K:qv)(a:Addr): Prop where
 lk:∃es n,K.lookup a=some ⟨.type "dict",none,.dict es n,#[]⟩/\W.KeysLit P es.toList
 sy:(a==sysModules)=false
def P5 (K:qv)(a:Addr)(ty:TE): TE:=λσ H Q=>ty σ H λy H1=>∃x v u,y=.str x/\qY K a x=some (some u)/\ZX v u/\Q v H1
section
variable {X:Cx}{a:Addr}{x:Str}{i:Expr}{ty:TE}{p pos:Pos}
def K7 (hg:Gl X x) (hm:X.mg x=some (.ref a)) (td:TopD X.w.params X.K a) (hi:PE X i ty) (hs:T9 i) (hdb:(x==("__debug__" : Str))=false:=by decide):PE X (.Subscript (.Name x p) i pos) (P5 X.K a ty):=by
 intro zk s σ H Q I h;let⟨es,n,hl,hk⟩:=td.lk;refine JX acM.lookup hs (lO I hg hm ?_ hdb);refine ZQ (hi zk s σ H _ I h) λiv s2 hz_=>?_;let⟨y,H2,I2,ry,z,v,u,ey,hn,rv,q⟩:=hz_;subst ey;let⟨t,rfl⟩:=ry;have hmp:=W.mapOf_K (prog:=X.prog) (w:=X.w) I2.kIn hl hk;exact⟨hmp.typeIs,wpAny_getItem_of (strKind_is X.prog X.w z t) hmp (W.find_K hl hn) ⟨v,H2,I2.tok _,rv,q⟩⟩
end
section
variable {P:Program}{w:World}{K:qv}{mg:zf}{base:Heap}{C f:Addr}{m:Str}{ps:zq}{Zz:zu}{ds:zi}{k:Nat}{sp:Sp}{fd:FuncData}
def Kb (F:lw P w K mg base (CXE P w) k f fd ps sp)(h:Meth K C m f)(hb:Binds K fd ps ds)(hd:Vals Zz ds): cR P w K mg base C k m ps sp Zz:=⟨f,fd,ds,F,h,hb,hd⟩
def V9 (F:lw P w K mg base (CXE P w) k f fd ps sp)(h:Mk K C f)(hb:Binds K fd ps ds)(hd:Vals Zz ds): jw P w K mg base C k ps sp Zz:=⟨f,fd,ds,F,h,hb,hd⟩
def V_ (F:lw P w K mg base (CXE P w) k f fd ps sp)(h:SN K C m f)(hb:Binds K fd ps ds)(hd:Vals Zz ds): GL P w K mg base C k m ps sp Zz:=⟨f,fd,ds,F,h,hb,hd⟩
def cR.mono {j:Nat}(h:cR P w K mg base C j m ps sp Zz)(hj:j<=k): cR P w K mg base C k m ps sp Zz:=by
 let⟨f,fd,ds,F,hm,hb,hd⟩:=h;exact⟨f,fd,ds,⟨F.len,λA outer s H args us vs Q E hr=>F.run A outer s H args us vs Q E (hr.mono hj)⟩,hm,hb,hd⟩
end
section
variable {X:Cx}{x:Str}{pos:Pos}
end
def K8 {its:zp}{n:Nat}(h:its.size=n)(hn:n<=1000:=by decide): its.size<=sizeLine:=by rw[h];exact ck hn
section
variable {X:Cx}{zk:zh}{σ:St}{H:Hp}{s:Shared}
end
def jZ (z_:zv)(ks:zm): Prop:=z_.map (·.1)=ks.map Qn
def xN {P:Program}{w:World}: ∀{z_:zv} {vs:z8} {ks:zm} {acc:zi},KV z_ vs->jZ z_ ks->acc.length=vs.length ->
   (∀(j:Nat) (v:Value),acc[j]?=some v->∃k x,vs[j]?=some (k,x)/\(hV P w).is k v=true)->IntsAre acc ks
 | _,_,ks,acc,.nil,hk,hl,h=>by
   have e:ks=[]:=by
     cases ks with
     | nil=>rfl
     | cons a b=>cases hk
   have e2:acc=[]:=acf hl;rw[e,e2];exact .nil
 | _,_,ks,acc,.cons (a:=p) (b:=q) r t,hk,hl,h=>by
   cases ks with
   | nil=>cases hk
   | cons i ks =>
     cases acc with
     | nil=>cases hl
     | cons v acc =>
       have hk':=aek hk;let⟨k,x,e1,e2⟩:=h 0 v rfl;have e1:q=(k,x):=qI e1;have ek:k=.inl i:=by
         have:p.1=q.1:=r.1;rw[e1] at this;exact this.symm.trans hk'.1
       subst ek;obtain⟨tk,rfl⟩:∃t,v=.int i t:=by
         have e2:adM i v=true:=e2;unfold adM at e2;split at e2
         · next n _=>exact⟨n,by simp at e2;rw[e2]⟩
         · cases e2
       exact .cons i tk (xN t hk'.2 (acy hl) λj v' e=>h (j+1) v' (by simpa using e))
def xO:∀{vs:zi} {ns:zm},IntsAre vs ns->Vals (ns.map V.int) vs
 | _,_,.nil=>.nil
 | _,_,.cons n t r=>.cons ⟨t,rfl⟩ (xO r)
section
variable {X:Cx}
def uR (hh:X.A.handled=none): oV X (.type "list") (λxs H Q=>∃a z_ ks,xs=[V.ref a]/\H a=some (.dK z_)/\jZ z_ ks/\∀p,H p=none->Q (.ref p) (upd H p (.lst (ks.map V.int)))):=by
 intro zk s σ H xs us Q I r h;let⟨a,z_,ks,rfl,ea,hk,q⟩:=h;let⟨u,rfl,rx⟩:=vals1 r;cases rx;let⟨z,hd,vs,rel,dd⟩:=A6 I.hok ea;let⟨ep,da⟩:=dd.dictAt;have hl:=rel.length;refine W.kdl_call (W.kdl_dict hd) hh da (by lia) λh' tk acc c' kp e it=>?_;have ia:=xN rel hk (acc:=acc.toList) (by rw[Qo];exact it.1) λj v e=>it.2 j v (by simpa using e);have iv:=xO ia;have il:=iv.length;refine⟨.ref s.heap.objs.size,_,I.laid (t':=tk) kp (qe _) (show gN X.prog X.w _ h' _ (.lst (ks.map V.int)) from ⟨?_,acc.toList,c',iv,e⟩),rfl,q _ (I.hok.fresh (qe _))⟩;have:z_.length=ks.length:=by have:=congrArg Qg hk;simpa using this
 rw[qa];lia
def vT (hh:X.A.handled=none): oV X (.builtin "sorted") (λxs H Q=>∃a z_ ks,xs=[V.ref a]/\H a=some (.dK z_)/\jZ z_ ks/\ks.length < 64/\∀(p:Addr) (ns:zm),H p=none->ns.Perm ks->ns.Pairwise (·<=·)->Q (.ref p) (upd H p (.lst (ns.map V.int)))):=by
 intro zk s σ H xs us Q I r h;let⟨a,z_,ks,rfl,ea,hk,k64,q⟩:=h;let⟨u,rfl,rx⟩:=vals1 r;cases rx;let⟨z,hd,vs,rel,dd⟩:=A6 I.hok ea;let⟨ep,da⟩:=dd.dictAt;have hl:=rel.length;have kl:z_.length=ks.length:=by have:=congrArg Qg hk;simpa using this
 refine Calls.call_function_entry kind_sorted plain_sorted entry_sorted (args_sorted1 (qh a)) ?_;refine wpAny_bind (wpAny_pure (wpAny_bind (W.kdu_collect (W.kdl_dict hd) hh da (by lia) λh' tk acc kp it=>?_)));have ia:=xN rel hk (acc:=acc.toList) (by rw[Qo];exact it.1) λj v e=>it.2 j v (by simpa using e);have al:acc.toList.length=vs.length:=by rw[Qo];exact it.1
 refine wpAny_bind (wpAny_newList ?_ (by rw[sizeLine_eq];lia));have hoL:(h'.push (seqObj "list" acc.toList.toArray 0)).get? h'.objs.size=some (seqObj "list" acc.toList.toArray 0):=qp h' rfl;refine wpAny_bind (wpAny_holding (wpAny_call_entry slot_list_sort ⟨_,hoL,rfl⟩ entry_list_sort (list_sort_tree hoL ia (by lia) λout ns' a1 a2 a3=>⟨.none,rfl,wpAny_pure ⟨_,rfl,?_⟩⟩) (args_list_sort _)));have sz:(h'.push (seqObj "list" acc.toList.toArray 0)).objs.size=h'.objs.size+1:=size_push' _ _;have I1:=I.kept (t':=tk) kp;have kp':∀b o,h'.get? b=some o->(sortedHeap (h'.push (seqObj "list" acc.toList.toArray 0)) h'.objs.size acc.toList out).get? b=some o:=λb o e=>by
   have lt:b < h'.objs.size:=qj e;rw[sortedHeap_old (qH lt) (qz lt (by rw[sz];exact adP _)),qb _ e]
 let⟨ee,he⟩:=sortedHeap_at (out:=out) hoL;have iv:=xO a1;have hp:=a2.length_eq;refine⟨.ref h'.objs.size,_,I1.laid (t':=tk) kp' (qe _) (show gN X.prog X.w _ _ _ (.lst (ns'.map V.int)) from ⟨?_,out.toList,ee,iv,he⟩),rfl,q _ ns' (I1.hok.fresh (qe _)) a2 a3⟩;rw[qa,sizeLine_eq];lia
def Wa (td ty tx:TE): TE:=λσ H Q=>td σ H λx H1=>∃a,x=.ref a/\IsD H1 a/\ty σ H1 λy H2=>tx σ H2 λz H3=>∃z_ k,H3 a=some (.dK z_)/\y=kV k/\z_.length < sizeLine ∧
 (∀v,fE z_ k=some v->Q v H3)/\(fE z_ k=none->Q z (upd H3 a (.dK (putK z_ k z))))
variable {zk:zh}{σ:St}{H:Hp}{s:Shared}{a:Addr}{z_:zv}{k:Key}{A:Around}{E:ze}{u:Value}
def Nh {z:V}{r:Value}{Q:ze}(I:ZZ X zk σ H s)(e:H a=some (.dK z_))(ry:ZX (kV k) u)(rz:ZX z r)(hz:z_.length < sizeLine)
   (h1:∀v w' s',fE z_ k=some v->ZZ X zk σ H s'->ZX v w'->Q w' s') (h2:∀s',fE z_ k=none->ZZ X zk σ (upd H a (.dK (putK z_ k z))) s'->Q r s') :
   wpAny (model X.prog X.w) A (call (.builtin "dict.setdefault") [.ref a,u,r]) Q E s:=by
 let⟨zl,hd,vs,rel,dd⟩:=A6 I.hok e;refine call_meetsIn acj dd.typeIs PySem.F.entry_dict_setdefault (PySem.F.args_dict_setdefault_3 _ _ _) (kt_meets_setdefault (hV X.prog X.w) a (uj ry) hd r)
   ⟨vs,dd,by rw[<-rel.length];exact zl,λv hv=>?_,λhn h' dd' hs=>?_⟩
 · cases l:fE z_ k with
   | none =>
     have hn:valueAt vs k=none:=lu.none_of (by rw[<-l];exact rel.val k);rw[hn] at hv;cases hv
   | some v0 =>
     let⟨w',hw,rw'⟩:=lu.some_of (v:=v0) (o:=valueAt vs k) (by rw[<-l];exact rel.val k);rw[hw] at hv;cases hv;exact h1 v0 _ _ l (I.tok _) rw'
 · have l:fE z_ k=none:=by
     cases l:fE z_ k with
     | none=>rfl
     | some v0 =>
       let⟨w',hw,_⟩:=lu.some_of (v:=v0) (o:=valueAt vs k) (by rw[<-l];exact rel.val k);rw[hw] at hn;cases hn
   have he:∃q,h'.get? a=some q:=(by let⟨q,_,_,hq,_⟩:=dd';exact ⟨q,hq⟩);refine h2 _ l (vQ I (by rw[e];exact QU) hs he (EY ?_ hd (rel.put k rz) dd'));have:=lU z_ k z;lia
variable {o e' f:Expr}{apos cpos:Pos}{td ty tx:TE}
def yW (ho:PE X o td) (he:PE X e' ty) (hf:PE X f tx) (m:M2 X o "setdefault" apos e' f cpos):PE X (.Call (.Attribute o "setdefault" apos) [e',f] [] cpos) (Wa td ty tx):=by
 intro zk s σ H Q I h;refine wpAny_Call_method m.base m.few m.line aaW acj PySem.F.type_dict_setdefault (ZQ (ho zk s σ H _ I h) λu s1 hz_=>?_);let⟨x,H1,I1,rx,a,ex,d,q1⟩:=hz_;walk_at "0j";let⟨t1,t2,_⟩:=EZ I1 d;refine⟨t1,t2,?_⟩;rw[m.trees];refine QS rfl (Qx (Qu (ZQ (he zk s1 σ H1 _ I1 q1) λiv s2 ⟨y,H2,I2,ry,q2⟩ =>
   Qu (ZQ (hf zk s2 σ H2 _ I2 q2) λfv s3 ⟨z,H3,I3,rz,z_,k,ea,ey,hz,q3,q4⟩=>QY ?_))))
 subst ey;exact Nh I3 ea ry rz hz (λv w' s4 l I4 rw'=>⟨v,_,I4,rw',q3 v l⟩) λs4 l I4=>⟨z,_,I4,rz,q4 l⟩
end
end L2
namespace L2
open PySem PyProof.Rows
def Ni {x y:Int}(hx:0<=x)(hy:0<=y): abY x y=((x.toNat ||| y.toNat:Nat):Int):=by
 unfold abY abK;have h1:¬0<=aaZ x:=by unfold aaZ;lia
 have h2:¬0<=aaZ y:=by unfold aaZ;lia
 simp only [h1,h2,decide_false];have e1:∀z:Int,aaZ (aaZ z)=z:=λz=>by unfold aaZ;lia
 rw[e1,e1,e1]
def P6:∀(a b:Nat),a+b=(a ^^^ b)+2*(a &&& b):=by
 intro a
 induction a using Nat.strongRecOn with
 | ind a ih =>
   intro b;by_cases h:a=0
   · subst h;simp
   · have i:=ih (a / 2) (Nat.div_lt_self (Nat.pos_of_ne_zero h) (by decide)) (b / 2)
     rw[<-Nat.xor_div_two,<-Nat.and_div_two] at i;have ea:=acn a 2;have eb:=acn b 2;have ex:=acn (a ^^^ b) 2;have en:=acn (a &&& b) 2;have m:a%2+b%2=(a ^^^ b)%2+2*((a &&& b)%2):=by
       rw[show (a ^^^ b)%2=a%2 ^^^ b%2 from Nat.xor_mod_two_pow (n:=1),show (a &&& b)%2=a%2 &&& b%2 from Nat.and_mod_two_pow (n:=1)];rcases acJ a with p | p<;>rcases acJ b with q | q<;>rw[p,q]<;>rfl
     lia
def K9 {x y:Int}(hx:0<=x)(hy:0<=y): adN x y=((x.toNat ^^^ y.toNat:Nat):Int):=by
 rw[bitXor_and,bitAnd_pp hx hy];have:=P6 x.toNat y.toNat;lia
section
variable {x y:Int}{k:Nat}
def vU:(0:Int) < 2^k:=aeM (by decide)
def Us:0<=x%2^k:=aco _ (adt vU)
def IU (hx:0<=x): 0<=x / 2^k:=Int.ediv_nonneg hx (abr vU)
end
def GN (k:Nat): ((2^k:Nat):Int)=(2:Int)^k:=by
 rw[Int.natCast_pow];rfl
def GO {n m:Int}{k:Nat}(h0:0<=n)(h1:0<=m)(h2:m < 2^k): abY (n*2^k) m=n*2^k+m:=by
 have hp:(0:Int)<=n*2^k:=adT h0 (abr (aeM (by decide)));rw[Ni hp h1];let⟨a,rfl⟩:=abb h0;let⟨b,rfl⟩:=abb h1;have e:(a:Int)*2^k=((2^k*a:Nat):Int):=by rw[Int.natCast_mul,GN,aeF]
 rw[e,Qk,Qk];have hb:b < 2^k:=by
   have:=GN k;lia
 rw[<-Nat.two_pow_add_eq_or_of_lt hb a];exact Int.natCast_add _ _
end L2
namespace L2
open PySem PySem.Spec PyProof.Rows
section
variable {X:Cx}{zk:zh}{σ:St}{H:Hp}{s:Shared}
def ZZ.Ut (I:ZZ X zk σ H s){a:Addr}{ns:zm}(h:SqT X.K H a (ns.map V.int)): ∃vs:zi,IsTup s.heap a vs.toArray/\IntsAre vs ns/\ns.length<=sizeLine:=by
 let⟨its,rv,p,hz⟩:=I.tuple h;exact⟨its,p,pM rv,by simpa using hz⟩
def K_ (hc:X.calm=true): oV X (.builtin "sum") (λxs H Q=>∃(p:Addr) (ns:zm),xs=[.ref p]/\SqT X.K H p (ns.map V.int)/\Q (.int ns.sum) H):=by
 intro zk s σ H xs us Q I r h;let⟨p,ns,rfl,hq,q⟩:=h;let⟨u,rfl,ru⟩:=vals1 r;cases ru;let⟨vs,hl,hi,_⟩:=I.Ut hq;let⟨ys,hx⟩:=hi.allInts.items;have hl':s.heap.IsTuple p (intItems ys):=hx ▸ (show s.heap.IsTuple p vs.toArray from hl);have hlt:p < s.heap.objs.size:=by let⟨_,e,_⟩:=id hl';exact qj e
 refine call_sum_walkG (wpAny_pyIter_tuple hl' ?_);refine⟨s.heap.objs.size,_,_,_,_,_,numAt ys,rfl,Walks.tuple (A:=X.A.in1) (I.ok.hd hc) s.heap.objs.size p (qH hlt) (intItems ys),⟨⟨_,qp _ rfl,rfl,rfl⟩,hl'.push _⟩,λb hb=>?_,(λ_ _=>intItems_at),λh' tk t' hk=>?_⟩
 · have hz:∀o:Obj,(s.heap.push o).objs.size=s.heap.objs.size+1:=λo=>Array.size_push _
   rcases qk.mp hb with e | hb
   · rw[e,hz];exact abT _
   · rw[qc.mp hb,hz];exact Nat.lt_succ_of_lt hlt
 · refine⟨.int ns.sum,H,I.kept (LSm.kept_iter hk),⟨t',?_⟩,q⟩
   have e1:ns=ys.toList.map (·.1):=by
     rw[<-nums_intItems,<-hx];exact(show numsOf vs.toArray.toList=ns from hi.numsOf).symm
   have e2:(intItems ys).size=ys.size:=by simp[intItems]
   rw[e2,preSum_eq,abM (by simp),e1]
end
end L2
namespace L2
def CH:zm->Int->List Int
 | [],_=>[]
 | w::ws,r=>(r%2^w.toNat)::CH ws (r / 2^w.toNat)
def parts (ws:zm)(r:Int): List Int:=(CH ws.reverse r).reverse
def span (ws:zm): Int:=2^ws.sum.toNat
def glue (l:List (Int×Int)): Int:=l.foldl (λa wp=>a*2^wp.1.toNat+wp.2) 0
def parts_nil (r:Int): parts [] r=[]:=rfl
def pN (ws:zm)(w r:Int): parts (ws++[w]) r=parts ws (r / 2^w.toNat)++[r%2^w.toNat]:=by
 unfold parts;rw[List.reverse_append];show (CH (w::ws.reverse) r).reverse=_;rw[CH,abN]
def La (l:List (Int×Int))(w p:Int): glue (l++[(w,p)])=glue l*2^w.toNat+p:=by
 unfold glue;rw[List.foldl_append];rfl
def kP (ws:zm): ∀r,(parts ws r).length=ws.length:=by
 have h:∀(l:zm) (r:Int),(CH l r).length=l.length:=λl=>by
   induction l with
   | nil=>intro r;rfl
   | cons w l ih=>intro r;rw[CH,qJ,ih,qJ]
 intro r;unfold parts;rw[QR,h,QR]
def snocInd {α:Type}{P:List α->Prop}(h0:P [])(h1:∀l a,P l->P (l++[a]))(l:List α): P l:=by
 have:∀l:List α,P l.reverse:=λl=>by
   induction l with
   | nil=>exact h0
   | cons a l ih=>rw[abN];exact h1 _ _ ih
 have h:=this l.reverse;rw[List.reverse_reverse] at h;exact h
def Ef {ws:zm}{w:Int}(h:∀x∈ws,0<=x)(hw:0<=w): span (ws++[w])=span ws*2^w.toNat:=by
 unfold span;have hs:0<=ws.sum:=by
   clear hw
   induction ws with
   | nil=>simp
   | cons x r ih =>
     rw[ael];have:=h x qG;have:=ih λy hy=>h y (qB _ hy);lia
 rw[List.sum_append,ael,List.sum_nil,adu,Int.toNat_add hs hw,Int.pow_add]
def Fit:zm->List Int->Prop
 | [],[]=>True
 | w::ws,p::ps=>(0<=p/\p < 2^w.toNat)/\Fit ws ps
 | _,_=>False
def Fit.length:∀{ws ps:zm},Fit ws ps->ws.length=ps.length
 | [],[],_=>rfl
 | _::_,_::_,h=>by rw[qJ,qJ,Fit.length h.2]
 | [],_::_,h=>h.elim
 | _::_,[],h=>h.elim
def Fit.snoc:∀{ws ps:zm} {w p:Int},Fit ws ps->0<=p->p < 2^w.toNat->Fit (ws++[w]) (ps++[p])
 | [],[],_,_,_,h0,h1=>⟨⟨h0,h1⟩,trivial⟩
 | _::_,_::_,_,_,h,h0,h1=>⟨h.1,Fit.snoc h.2 h0 h1⟩
 | [],_::_,_,_,h,_,_=>h.elim
 | _::_,[],_,_,h,_,_=>h.elim
def Fit.IV:∀{ws ps:zm} {w p:Int},Fit (ws++[w]) (ps++[p])->Fit ws ps/\0<=p/\p < 2^w.toNat
 | [],[],_,_,h=>⟨trivial,h.1⟩
 | _::_,_::_,_,_,h=>by
   have:=Fit.IV h.2;exact⟨⟨h.1,this.1⟩,this.2⟩
 | [],_::ps,_,_,h=>by
   have:=Fit.length h.2;simp at this
 | _::ws,[],_,_,h=>by
   have:=Fit.length h.2;simp at this
def Lb:∀(ws:zm) (r:Int),Fit ws (parts ws r):=by
 intro ws
 induction ws using snocInd with
 | h0=>intro r;exact trivial
 | h1 l w ih =>
   intro r;rw[pN];exact(ih _).snoc Us (Int.emod_lt_of_pos _ vU)
def Nj {r m:Int}{k:Nat}(h:r < m*2^k): r / 2^k < m:=adI vU h
def pO:∀(ws:zm),(∀x∈ws,0<=x)->∀{r:Int},0<=r->r < span ws->glue (ws.zip (parts ws r))=r:=by
 intro ws
 induction ws using snocInd with
 | h0 =>
   intro _ r h0 h1;have e:span []=1:=rfl;rw[e] at h1;have:r=0:=by lia
   subst this;rfl
 | h1 l w ih =>
   intro hw r h0 h1;have hl:∀x∈l,0<=x:=λx hx=>hw x (QM _ hx);rw[Ef hl (hw w (by simp))] at h1;rw[pN,List.zip_append (by rw[kP]),List.zip_cons_cons,List.zip_nil_right,La,ih hl (IU h0) (Nj h1),aeF];exact adJ r _
end L2
namespace PySem
open Sem (wp)
open AutoSeq1 (wpAny_loadPart')
section
variable {prog:Program}{w:World}{A:Around}{E:ze}{s:Shared}
def CI {R:Result->Shared->Prop}{r:Addr}{a b c:Int}{t u v:Tok}{n:Nat}{oI:Obj}{St:Nat->Heap->Prop}(hr:IsRange s.heap r a b c t u v)
   (hit:∀(E:ze) (Q:ze),Q (.ref s.heap.objs.size) { s with heap:=s.heap.push oI }->wpAny (model prog w) A.in1 (pyIter (.ref r)) Q E s)
   (W:Walks prog w A.in1 s.heap.objs.size [s.heap.objs.size] [s.heap.objs.size] n (λi v=>∃t,v=.int (a+i*c) t) St) (st:St 0 (s.heap.push oI))
   (hn:Qm a b c=n) (hlen:n<=2^24) (S:Addr) (res:Value) (c₀:Nat) (hS:s.heap.get? S=some { cls:=.type "list",data:=.seq #[] c₀ })
   (hR:∀h' tk acc' c',(∀b o,b≠S->s.heap.get? b=some o->h'.get? b=some o)->h'.get? S=some { cls:=.type "list",dict:=none,data:=.seq acc' c',slots:=#[] } ->
     ItemsOf (λi v=>∃t,v=.int (a+i*c) t) acc' n->R (.ok (.ret res)) { s with heap:=h',toks:=tk }) :
   wpAny (model prog w) A.in1 (Ql (.ref S) (.ref r) res)
     (λfin s'=>match fin with | .done f=>R (.ok f) s' | .again c'=>c'.quiet=true/\codeAny (model prog w) A c' R s') (λe s'=>R (.error e) s') s:=by
 have hSr:S≠r:=λe=>by rw[e,hr] at hS;simp at hS
 have hSlt:S < s.heap.objs.size:=qj hS;have hSI:S≠s.heap.objs.size:=qH hSlt;have hSf:S∉[s.heap.objs.size]:=λhm=>hSI (qc.mp hm);have key:∀(h:Heap) (c₁ tk:Nat),St 0 h->(∀b o,b≠S->s.heap.get? b=some o->h.get? b=some o) ->
     h.get? S=some { cls:=.type "list",data:=.seq #[] c₁ }->codeAny (model prog w) A (.builtin "list.extend.loop" ⟨[.ref S,.ref s.heap.objs.size,res],[]⟩) R { s with heap:=h,toks:=tk }:=by
   intro h c₁ tk hst hk hS₁;refine codeAny_extend_loopS W.toS (by rw[sizeLine_eq];lia) S hSf res n 0 _ #[] c₁ rfl (qV _) hst hS₁ (ItemsOf.nil _) λs' acc' c' hm hS' hacc=>?_;rw[Moved.eq_with hm];refine hR s'.heap s'.toks acc' c' (λb o hb e=>hm.heap b o (λhmem=>?_) (hk b o hb e)) hS' hacc;rcases qk.mp hmem with e' | hmem
   · exact hb e'
   · exact absurd (qj e) (by rw[qc.mp hmem];exact Qj _)
 unfold Ql;refine wpAny_bind (wpAny_typeOf (T := "range") ⟨_,hr,rfl⟩ ?_);have h1:Q3 (.ref S) (.ref r)=false:=by simp[Q3,hSr]
 have h2:(abR "range" == abR "list")=false:=by decide
 have h3:(abR "range" == abR "tuple")=false:=by decide
 simp only [h1,h2,h3,Bool.or_false,abd,if_false];refine wpAny_bind (hit _ _ ?_);refine wpAny_bind (wpAny_holding (wpAny_hint_range (n:=n) (qb _ hr) hn hlen ?_));have hS₁:=qb oI hS;refine wpAny_ite_split (λ_=>?_) (λ_=>wpAny_pure ⟨plainId_quiet acs _,key _ c₀ _ st (λb o _ e=>qb _ e) hS₁⟩);refine wpAny_bind (wpAny_rule ?_);refine wpAny_bind ?_;show wpAny _ _ (updateSeq S (·.push .none) >>= λ_=>updateSeq S (·.pop)) _ _ _;refine wpAny_bind (wpAny_updateSeq hS₁ rfl ?_);have hS₂:=qC (Q2 (·.push qD)) hS₁ rfl;refine wpAny_updateSeq (hz:=by seq_fits) hS₂ rfl ?_;have hS₃:=qC (Q2 (·.pop)) hS₂ rfl;refine wpAny_pure ⟨plainId_quiet acs _,key _ _ _ ?_ (λb o hb e=>?_) hS₃⟩
 · refine W.frame 0 _ _ st λb hb o e=>?_
   have hbS:b≠S:=λh=>hSf (h ▸ hb);exact(qt _ _ (qX hbS)).trans ((qt _ _ (qX hbS)).trans e)
 · exact(qt _ _ (qX hb)).trans ((qt _ _ (qX hb)).trans (qb _ e))
def xP {R:Result->Shared->Prop}{r:Addr}{a b c:Int}{t u v:Tok}{n:Nat}(hr:IsRange s.heap r a b c t u v)
   (src:∀s':Shared,IsRange s'.heap r a b c t u v->∃(oI:Obj) (St:Nat->Heap->Prop),(∀(E:ze) (Q:ze),Q (.ref s'.heap.objs.size) { s' with heap:=s'.heap.push oI }->wpAny (model prog w) A.in1 (pyIter (.ref r)) Q E s') ∧
     Walks prog w A.in1 s'.heap.objs.size [s'.heap.objs.size] [s'.heap.objs.size] n (λi v=>∃t,v=.int (a+i*c) t) St/\St 0 (s'.heap.push oI))
   (hn:Qm a b c=n) (hlen:n<=2^24) (S:Addr) (hS:s.heap.get? S=some { cls:=.type "list",data:=.seq #[] })
   (hR:∀h' tk acc' c',(∀b o,b≠S->s.heap.get? b=some o->h'.get? b=some o)->h'.get? S=some { cls:=.type "list",dict:=none,data:=.seq acc' c',slots:=#[] } ->
     ItemsOf (λi v=>∃t,v=.int (a+i*c) t) acc' n->R (.ok (.ret .none)) { s with heap:=h',toks:=tk }) :
   wpAny (model prog w) A.in1 (Builtin.«list.__init__» ⟨[.ref S,.ref r],[]⟩)
     (λfin s'=>match fin with | .done f=>R (.ok f) s' | .again c'=>c'.quiet=true/\codeAny (model prog w) A c' R s') (λe s'=>R (.error e) s') s:=by
 have hSr:S≠r:=λe=>by rw[e,hr] at hS;simp at hS
 show wpAny _ _ (do let old <-adv (.ref S);Builtin.List.listUpdate (.ref S) (λ_=>#[]);letGo old.toList.reverse;Ql (.ref S) (.ref r) .none) _ _ s;refine wpAny_bind ?_;unfold adv;refine wpAny_bind (wpAny_seqItems hS rfl (wpAny_pure ?_));show wpAny _ _ (updateSeq S (λ_=>#[]) >>= λ_=>letGo (#[]:zp).toList.reverse >>= λ_=>Ql (.ref S) (.ref r) .none) _ _ s;refine wpAny_bind (wpAny_updateSeq hS rfl ?_);have hS₂:=qC (Q2 (λ_=>(#[]:zp))) hS rfl;have oth:∀b o,b≠S->s.heap.get? b=some o->(s.heap.update S (Q2 (λ_=>(#[]:zp)))).get? b=some o :=
   λb o hb e=>(qt _ _ (qX hb)).trans e
 refine wpAny_bind (wpAny_letGo ?_);let⟨oI,St,hit,W,st⟩:=src { s with heap:=s.heap.update S (Q2 (λ_=>(#[]:zp))) } (oth r _ (qX hSr) hr);refine CI (s:={ s with heap:=s.heap.update S (Q2 (λ_=>(#[]:zp))) }) (oth r _ (qX hSr) hr) hit W st hn hlen S .none _ hS₂ λh' tk acc' c' hk hS' hacc=>?_;exact hR h' tk acc' c' (λb o hb e=>hk b o hb (oth b o hb e)) hS' hacc
def xQ {Q:ze}{r:Addr}{a b c:Int}{t u v:Tok}{n:Nat}(hh:A.handled=none)(hr:IsRange s.heap r a b c t u v)
   (hn:Qm a b c=n) (hlen:n<=2^24)
   (hQ:∀h' tk acc' c',(∀b o,s.heap.get? b=some o->h'.get? b=some o) ->
     h'.get? s.heap.objs.size=some { cls:=.type "list",dict:=none,data:=.seq acc' c',slots:=#[] }->ItemsOf (λi v=>∃t,v=.int (a+i*c) t) acc' n->Q (.ref s.heap.objs.size) { s with heap:=h',toks:=tk }) :
   wpAny (model prog w) A (call (.type "list") [.ref r]) Q E s:=by
 cases hs:acu a b c with
 | true=>exact call_list_range hh hr hs hn hlen hQ
 | false =>
   refine callType_codes (Q₁:=λobj s₁=>obj=.ref s.heap.objs.size/\s₁={ s with heap:=s.heap.push { cls:=.type "list",data:=.seq #[] } }) F.called_list (F.typeCall_list_1 _) F.entry_list_init
     (code_list_new _ ⟨rfl,rfl⟩) λobj s₁ h₁=>?_
   let⟨rfl,rfl⟩:=h₁;have hS:(s.heap.push { cls:=.type "list",data:=.seq #[] }).get? s.heap.objs.size=some { cls:=.type "list",data:=.seq #[] }:=qp _ rfl;refine⟨⟨_,hS,rfl⟩,F.args_list_init_2 _ _,xP (A:=A.in1) (qb _ hr) (λs' hr'=>⟨_,_,λE' Q' q=>wpAny_pyIter_longrange hr' hs q,Walks.longrange (A:=A.in1.in1) hh _ a c n,?_⟩) hn hlen _ hS λh' tk acc' c' hk hS' hacc=>?_⟩
   · rw[hn]
     simpa using qp _ rfl
   · exact⟨rfl,hQ h' tk acc' c' (λb o e=>hk b o (qH (qj e)) (qb _ e)) hS' hacc⟩
end
end PySem
namespace L2
open PySem PySem.Spec PyProof.Rows
def Uu {n:Int}(h0:0<=n)(h1:n<=2^100): n.natAbs < 2^1000:=by
 have e:(2:Nat)^100 < 2^1000:=adU (by decide) (by decide);have e2:((2^100:Nat):Int)=2^100:=by decide
 lia
section
variable {X:Cx}{zk:zh}{σ:St}{H:Hp}{s:Shared}
def Wb (i j:Int): Prop:=0<=j/\j<=1000000/\i.natAbs < 2^1000
def Kc:OpR X (binaryOp .LShift) (rI Wb λi j=>.int (i*2^j.toNat)):=opI λi j _ _ _ _ _ hc q=>by
 refine lshift_int hc.1 ?_ q;have hb:Builtin.Int.intBits i<=1000:=intBits_le_iff.mpr hc.2.2;have:=hc.2.1;lia
def lA (lo:Int)(n:Nat): List Int:=(abG n).map λi:Nat=>lo+(i:Int)
def P7 (ta:TA): TE:=λσ H Q=>ta σ H λvs H1=>∃i j:Int,vs=[.int i,.int j]/\∀p,H1 p=none->Q (.ref p) (upd H1 p (.rng i j))
def Lc {a b:Expr} {ta:TA} {p pos:Pos} (hg:Gl X "range") (hm:X.mg "range" = none) (ha:PA X [a,b] ta) (hs:starEach [a,b] X.env=[(false,eval a X.env),(false,eval b X.env)]:=by rfl) (hs2:starEach [b] X.env=[(false,eval b X.env)]:=by rfl) :
   PE X (.Call (.Name "range" p) [a,b] [] pos) (P7 ta):=by
 intro zk s σ H Q I h;refine Call_ (mR I hg hm boot_range (qT (ZQ (ha pos zk s σ H _ I h) λus s1 ⟨vs,H1,I1,r1,q1⟩=>?_) (by rw[hs,hs2]) (by rw[hs2];rfl)));let⟨i,j,e,q⟩:=q1;subst e;cases r1 with
 | cons r rr =>
   cases rr with
   | cons r' rr =>
     cases rr;let⟨t,rfl⟩:=r;let⟨t',rfl⟩:=r';refine call_range_2 ?_;have I2:=I1.laid (t':=s1.toks+1) (a:=s1.heap.objs.size) (o:=.rng i j) (h':=s1.heap.push { cls:=.type "range",data:=.fields #[.int i t,.int j t',.int 1 s1.toks] }) (λb o e=>qb _ e) (qe _) ⟨t,t',_,qp _ rfl⟩;exact⟨.ref s1.heap.objs.size,_,I2,rfl,q _ (I1.hok.fresh (qe _))⟩
def yF:∀{xs:zu} {us:zi},xs.length=us.length->(∀(i:Nat) (x:V) (u:Value),xs[i]?=some x->us[i]?=some u->ZX x u)->Vals xs us
 | [],[],_,_=>.nil
 | [],_::_,h,_=>by cases h
 | _::_,[],h,_=>by cases h
 | x::xs,u::us,h,k=>.cons (k 0 x u rfl rfl) (yF (acy h) λi y v e1 e2=>k (i+1) y v (by simpa using e1) (by simpa using e2))
def CJ (hc:X.calm=true): oV X (.type "list") (λxs H Q=>∃(r:Addr) (lo hi:Int),xs=[.ref r]/\H r=some (.rng lo hi)/\hi-lo<=1000000/\∀l,H l=none->Q (.ref l) (upd H l (.lst ((lA lo (hi-lo).toNat).map V.int)))):=by
 intro zk s σ H xs us Q I r h;let⟨q,lo,hi,rfl,hq,hb,k⟩:=h;let⟨u,rfl,ru⟩:=vals1 r;cases ru;let⟨t,u,v,e⟩:=I.hok q _ hq;refine xQ (n:=(hi-lo).toNat) (I.ok.hd hc) e ?_ (by lia) λh' tk acc c kp hS hacc=>?_
 · rw[rangeSize_one];split<;>lia
 · have I3:ZZ X zk σ (upd H s.heap.objs.size (.lst ((lA lo (hi-lo).toNat).map V.int))) { s with heap:=h',toks:=tk }:=I.laid (t':=tk) kp (qe _)
     (show gN X.prog X.w _ _ _ (.lst _) from ⟨by rw[qa,lA,qa,Qf,sizeLine_eq];lia,acc.toList,c,yF (by rw[qa,lA,qa,Qf,Qo,hacc.1]) (λi x u e1 e2=>?_),by rw[acg];exact hS⟩)
   · exact⟨.ref _,_,I3,rfl,k _ (I.hok.fresh (qe _))⟩
   · rw[abP] at e2
     let⟨t',rfl⟩:=hacc.2 i u e2;unfold lA at e1;rw[adw,qx] at e1;have hi':i < (hi-lo).toNat:=by rw[<-hacc.1];exact(qy.mp e2).1
     rw[acv hi'] at e1;cases e1;exact⟨t',by rw[aeL]⟩
end
end L2
namespace PySem
namespace F
def vV:typeLookup (.type "tuple") "__reversed__" = pure none:=by rw[typeLookup_type,builtinLookup_eq_fast];kernel_rfl
def Eg:Manifest.owners.lookup (String.ofList ['d','e','s','r','e','v','e','r'].reverse)=some Manifest.sig_reversed:=by kernel_rfl
def j9:Slot "reversed" "__next__" "reversed.__next__" :=
 .of (owner := "reversed") (n := "__next__") (by rw[typeLookup_type,builtinLookup_eq_fast];kernel_rfl) (by exfalso) (by exfalso) (by exfalso)
   (by first | exact .inl (by exfalso) | exact .inr (by exfalso)) (by rw[isSubtype_type];kernel_rfl)
def sJ:entryFor table "reversed.__next__" = some Builtin.«reversed.__next__» := entryFor_of_tree (by kernel_rfl)
def rR (a:Value): argsOk "reversed.__next__" ⟨[a],[]⟩:=by
 unfold argsOk;rw[signature?_of (id := "reversed.__next__") (n:=['_','_','t','x','e','n','_','_']) (o:=['d','e','s','r','e','v','e','r']) (by kernel_rfl) Eg];kernel_rfl
def uo:Slot "reversed" "__iter__" "reversed.__iter__" :=
 .of (owner := "reversed") (n := "__iter__") (by rw[typeLookup_type,builtinLookup_eq_fast];kernel_rfl) (by exfalso) (by exfalso) (by exfalso)
   (by first | exact .inl (by exfalso) | exact .inr (by exfalso)) (by rw[isSubtype_type];kernel_rfl)
def yX (a:Value): argsOk "reversed.__iter__" ⟨[a],[]⟩:=by
 unfold argsOk;rw[signature?_of (id := "reversed.__iter__") (n:=['_','_','r','e','t','i','_','_']) (o:=['d','e','s','r','e','v','e','r']) (by kernel_rfl) Eg];kernel_rfl
def Bd:entryFor table "reversed.__iter__" = some Builtin.«dict_keyiterator.__iter__» :=
 entryFor_alias (id' := "dict_keyiterator.__iter__") (by kernel_rfl) (by first | rfl | exfalso | (unfold String.splitOn;simp +decide [String.splitOnAux])) (by exfalso) (by kernel_rfl)
def CK:Slot "reversed" "__init__" "object.__init__" :=
 .of (owner := "object") (n := "__init__") (by rw[typeLookup_type,builtinLookup_eq_fast];kernel_rfl) (by exfalso) (by exfalso) (by exfalso)
   (by first | exact .inl (by exfalso) | exact .inr (by exfalso)) (by rw[isSubtype_type];kernel_rfl)
def lY:TypeCalled "reversed" "reversed.__new__" "object.__init__" :=
 ⟨by exfalso,by exfalso,⟨_,_,mro_reversed⟩,made_reversed,by exfalso,sub_reversed_self,CK⟩
end F
section
variable {prog:Program}{w:World}{A:Around}{E:ze}{s:Shared}
open PyProof.Rows
def AK (l:Addr)(i:Int): Obj:={ cls:=.type "reversed",data:=.fields #[.ref l,rawInt i] }
def Heap.mW (h:Heap)(a l:Addr)(i:Int): Prop:=∃o,h.get? a=some o/\o.cls=.type "reversed" ∧ o.data=.fields #[.ref l,rawInt i]
def Heap.mW.typeIs {a l:Addr}{i:Int}(x:s.heap.mW a l i): s.TypeIs (.ref a) "reversed" := by let⟨o,ho,hc,_⟩:=x;exact ⟨o,ho,hc⟩
def Heap.mW.at {h h':Heap}{a l:Addr}{i:Int}(x:h.mW a l i)(e:∀o,h.get? a=some o->h'.get? a=some o): h'.mW a l i:=by let⟨o,ho,r⟩:=x;exact ⟨o,e _ ho,r⟩
def uT {l:Addr}{items:zp}{Q₁:ze}(hl:IsTup s.heap l items)(hfit:(items.size:Int) < 2^63)
   (h:∀tk,Q₁ (.ref s.heap.objs.size) { s with heap:=s.heap.push (AK l ((items.size:Int)-1)),toks:=tk }) :
   codeAny (model prog w) A (.call (.builtin "reversed.__new__") ⟨[.type "reversed",.ref l],[]⟩) (wants Q₁ E) s:=by
 have hT:s.TypeIs (.ref l) "tuple" := hl.typeIs;refine codeAny_of_tree ?_;show wpAny _ A.in1 (do checkBuiltinCall "reversed.__new__" ⟨[.type "reversed",.ref l],[]⟩;again (.builtin "reversed.__new__" ⟨[.type "reversed",.ref l],[]⟩)) _ _ s;refine wpAny_bind (wpAny_of_eq (F.newCall_reversed_1 _) (wpAny_pure ⟨plainId_quiet F.plain_reversed_new _,codeAny_builtin F.entry_reversed_new ?_⟩));rw[abn F.plain_reversed_new _];unfold Builtin.«reversed.__new__»;refine wpAny_bind (wpAny_of_eq (newClass_reversed _) ?_)
 try dsimp only
 refine wpAny_bind (wpAny_of_eq (a:=()) (by first | rfl | kernel_rfl) ?_);refine wpAny_bind (wpAny_of_eq (a:=()) (by first | rfl | kernel_rfl) ?_)
 try dsimp only
 refine wpAny_bind (wpAny_specialOf hT F.vV ?_)
 try dsimp only
 refine wpAny_bind ?_;refine wpAny_bind (m:=isInstance (.ref l) (.type "dict")) (wpAny_isInstance (T := "tuple") (b:=false) hT (by rw[isSubtype_type];kernel_rfl) ?_);rw[if_neg qf];refine wpAny_bind (m:=specialOf (.ref l) (QZ "__getitem__")) (wpAny_specialOf hT F.slot_tuple_getitem.lookup ?_);show wpAny _ _ (if (["tuple.__getitem__","str.__getitem__","bytes.__getitem__","bytearray.__getitem__","memoryview.__getitem__","numpy.ndarray.__getitem__","sqlite3.Row.__getitem__"].contains "tuple.__getitem__")=true then pure true else _) _ _ _;rw[if_pos (by exfalso)];refine wpAny_pure ?_;rw[if_neg (by decide)];refine wpAny_bind (len_tuple hl hfit ?_);refine wpAny_bind (m:=asInt? _) (wpAny_pure ?_);dsimp only;show wpAny _ _ (newObj (.type "reversed") (.fields [qh l,rawInt ((items.size:Int)-1)].toArray) >>= _) _ _ _;refine wpAny_bind (wpAny_newObj_type (wpAny_pure (h _)))
def vW {l:Addr}{items:zp}{Q:ze}(hl:IsTup s.heap l items)(hfit:(items.size:Int) < 2^63)
   (h:∀tk,Q (.ref s.heap.objs.size) { s with heap:=s.heap.push (AK l ((items.size:Int)-1)),toks:=tk }):wpAny (model prog w) A (call (.type "reversed") [.ref l]) Q E s:=by
 refine callType_codes (Q₁:=λobj s₁=>s₁.TypeIs obj "reversed" ∧ Q obj s₁) F.lY (F.typeCall_reversed_1 _) F.entry_object_init
   (uT hl hfit λtk=>⟨⟨_,qp _ rfl,rfl⟩,h tk⟩) λobj s₁ h₁=>?_
 exact⟨h₁.1,F.args_object_init_2 obj _,object_init_meets F.lY.init.lookup F.lY.made (by decide) prog w A.in1 _ s₁ ⟨h₁.1,rfl,h₁.2⟩⟩
def Wc {i n:Nat}(h:i < n): seqIndex? (i:Int) n=some i:=by
 unfold seqIndex?;have h1:¬(i:Int) < 0:=by lia
 have h2:((i:Int) < (n:Int)):=by lia
 simp only [h1,if_false];simp[h2]
def Be {it l:Addr}{i:Nat}{items:zp}{x:Value}{Q:zc}(hit:s.heap.mW it l (i:Int))(hl:IsTup s.heap l items)(hx:items[i]?=some x)(hfit:(items.size:Int) < 2^63)
   (hQ:∀h' tk,h'.mW it l ((i:Int)-1)->abp it s.heap h'->Q (some x) { s with heap:=h',toks:=tk }):wpAny (model prog w) A (pyNext (.ref it)) Q E s:=by
 let⟨o,ho,hc,hd⟩:=id hit;have hT:s.TypeIs (.ref l) "tuple" := hl.typeIs;unfold pyNext;refine wpAny_bind (wpAny_attempt (wpAny_callSpecial?_slot (name:=QZ "__next__") hit.typeIs F.j9
   (wpAny_call_entry F.j9 hit.typeIs F.sJ ?_ (F.rR _))))
 unfold Builtin.«reversed.__next__»;refine wpAny_bind (wpAny_of_eq (a:=(qh it,[])) rfl ?_)
 try dsimp only
 refine wpAny_bind (wpAny_field ho hd (x:=.ref l) rfl ?_);refine wpAny_bind (wpAny_field ho hd (x:=rawInt (i:Int)) rfl ?_);show wpAny _ _ (if (i:Int) < 0 then _ else _) _ _ s;rw[if_neg (by lia)];refine wpAny_bind (wpAny_specialOf hT F.slot_tuple_getitem.lookup ?_);rw[if_neg (by decide)];refine wpAny_bind (wpAny_mkInt ?_);refine wpAny_bind (wpAny_attempt (getItem_tuple (j:=i) (s:={ s with toks:=s.toks+1 }) hl (by lia) (by have:=(qy.mp hx).1;lia) (Wc (qy.mp hx).1) hx ?_));show wpAny _ _ (field (.ref it) 1 >>= _) _ _ _;refine wpAny_bind (wpAny_field ho hd (x:=rawInt (i:Int)) rfl ?_);show wpAny _ _ (setField (.ref it) 1 (rawInt ((i:Int)-1)) >>= _) _ _ _;refine wpAny_bind (wpAny_setField ho hd (by simp) ?_);refine wpAny_pure ⟨x,rfl,wpAny_pure (hQ _ _ ?_ (Heap.SameBut.update ..))⟩;exact⟨_,qC _ ho (qS (qL hd _)),(abL ..).trans hc,by
   rw[qL hd];simp⟩
def CL {it l:Addr}{Q:zc}(hh:A.handled=none)(hit:s.heap.mW it l (-1))
   (hQ:∀h',Heap.ExtBut it s.heap h'->Q none { s with heap:=h' }):wpAny (model prog w) A (pyNext (.ref it)) Q E s:=by
 let⟨o,ho,hc,hd⟩:=id hit;unfold pyNext;refine wpAny_bind (wpAny_attempt (wpAny_callSpecial?_slot (name:=QZ "__next__") hit.typeIs F.j9
   (wpAny_call_entry F.j9 hit.typeIs F.sJ ?_ (F.rR _))))
 unfold Builtin.«reversed.__next__»;refine wpAny_bind (wpAny_of_eq (a:=(qh it,[])) rfl ?_)
 try dsimp only
 refine wpAny_bind (wpAny_field ho hd (x:=.ref l) rfl ?_);refine wpAny_bind (wpAny_field ho hd (x:=rawInt (-1)) rfl ?_);show wpAny _ _ (if (-1:Int) < 0 then _ else _) _ _ s;rw[if_pos (by decide)];refine wpAny_bind (wpAny_rule ?_);refine wpAny_bind ?_;refine wpAny_bind (m:=setField (.ref it) 1 (rawInt (-1))) (wpAny_setField ho hd (by simp) ?_);have d2:=qL hd (·.setIfInBounds 1 (rawInt (-1)));have e2:=qC (qK (·.setIfInBounds 1 (rawInt (-1)))) ho (qS d2);refine wpAny_setField e2 d2 (by simp) ?_;refine wpAny_bind ?_;show wpAny _ _ (newExc (.type "StopIteration") [] >>= _) _ _ _;refine wpAny_bind ?_;simp only [newExc,newTuple];refine wpAny_bind (wpAny_newObj_type ?_ (by size_fits));refine wpAny_bind (m:=firstArgMember _ _) (wpAny_of_eq (a:=qD) (by first | rfl | (simp only [firstArgMember];rfl)) ?_);refine wpAny_newObj_type ?_ (by size_fits);simp only [raiseNew];refine wpAny_bind (wpAny_handled ?_)
 first | rw[show A.in1.handled=none from hh] | rw[hh]
 refine wpAny_bind (wpAny_pure (wpAny_throw ?_));refine wpAny_bind (wpAny_isInstance (T := "StopIteration") (b:=true) ⟨_,qp _ rfl,rfl⟩ isSubtype_stop ?_);refine wpAny_pure (hQ _ ?_);refine aeI (aeI (λb o' hb e=>?_) _) _;rw[qt _ _ (qX hb),qt _ _ (qX hb)];exact e
def Eh {it l:Addr}{i:Int}{Q:ze}(hit:s.heap.mW it l i)(h:Q (.ref it) s): wpAny (model prog w) A (pyIter (.ref it)) Q E s:=by
 refine wpAny_pyIter_slot hit.typeIs F.uo (wpAny_call_entry F.uo hit.typeIs F.Bd ?_ (F.yX _));show wpAny _ _ (ret (.ref it)) _ _ s;exact wpAny_pure ⟨_,rfl,"reversed",_,hit.typeIs,F.j9.lookup,h⟩
end
namespace F
def Ld:typeLookup (.type "list_reverseiterator") "__len__" = pure none:=by rw[typeLookup_type,builtinLookup_eq_fast];kernel_rfl
def Nk:typeLookup (.type "list_reverseiterator") "__length_hint__" = pure (some (.builtin "list_reverseiterator.__length_hint__")):=by rw[typeLookup_type,builtinLookup_eq_fast];kernel_rfl
end F
section
open Sem (wp)
variable {prog:Program}{w:World}{A:Around}{s:Shared}{R:Result->Shared->Prop}
variable {I:Addr}{fp wr:zj}{G:Array GenState->Array GenState->Prop}{n:Nat}{P:Nat->Value->Prop}{St:Nat->Shared->Prop}
end
section
variable {prog:Program}{w:World}{A:Around}{E:ze}{s:Shared}
variable {I:Addr}{fp wr:zj}{G:Array GenState->Array GenState->Prop}{n:Nat}{P:Nat->Value->Prop}{St:Nat->Shared->Prop}
def GP {Q:zi->Shared->Prop} (W:WalksS prog w A.in1 I fp wr G n P St) (hT:∀i s,St i s->s.TypeIs (.ref I) "list_reverseiterator") (hst:St 0 s) (hfp:∀b∈fp,b < s.heap.objs.size) (hI:I∈fp)
   (hQ:∀s' acc,Moved wr G s s'->ItemsOf P acc n->Q acc.toList s') (hn:n<=sizeLine):wpAny (model prog w) A (collect (.ref I)) Q E s:=by
 have hSf:s.heap.objs.size∉fp:=λhm=>Qj _ (hfp _ hm);unfold collect;refine wpAny_bind (wpAny_runValue (codeAny_builtin F.entry_proto_collect ?_));rw[abn F.plain_proto_collect _];show wpAny _ A.in1 (newList [] >>= λl=>again (.builtin "list.__iadd__" ⟨[l,.ref I],[]⟩)) _ _ s;refine wpAny_bind (wpAny_newObj_type ?_);refine wpAny_pure ⟨plainId_quiet F.plain_list_iadd _,codeAny_builtin F.entry_list_iadd ?_⟩;rw[abn F.plain_list_iadd _];have hst₁:=W.frame 0 s (s.heap.push { cls:=.type "list",data:=.seq ([]:zi).toArray }) s.toks hst (qe _) λb _ o e=>qb _ e;have hS₁:(s.heap.push { cls:=.type "list",data:=.seq ([]:zi).toArray }).get? s.heap.objs.size=some { cls:=.type "list",data:=.seq ([]:zi).toArray }:=qp _ rfl;show wpAny _ A.in1 (Ql (.ref s.heap.objs.size) (.ref I) (.ref s.heap.objs.size)) _ _ _;have hSI:s.heap.objs.size≠I:=λe=>hSf (e ▸ hI);have h1:Q3 (.ref s.heap.objs.size) (.ref I)=false:=by simp[Q3,hSI]
 unfold Ql;refine wpAny_bind (wpAny_typeOf (hT 0 _ hst₁) ?_);rw[if_neg (by rw[h1];decide)];refine wpAny_bind (W.self 0 _ _ _ hst₁ ?_);refine wpAny_bind (wpAny_holding ?_);unfold Builtin.List.listLengthHint;refine wpAny_bind (wpAny_specialOf (hT 0 _ hst₁) F.Ld ?_);show wpAny _ A.in1 (specialOf (qh I) (QZ "__length_hint__") >>= _) _ _ _;refine wpAny_bind (wpAny_specialOf (hT 0 _ hst₁) F.Nk ?_);generalize hid:("list_reverseiterator.__length_hint__" : String)=id0
 wp_delta
 rw[show splitId id0=some ("list_reverseiterator","__length_hint__") from by subst hid;exfalso];subst hid;refine wpAny_bind (wpAny_isInstance (b:=true) (hT 0 _ hst₁) (by rw[isSubtype_type];kernel_rfl) ?_);refine wpAny_pure ?_;rw[if_neg (by decide)];refine wpAny_pure ⟨plainId_quiet acs _,codeAny_extend_loopS W hn _ hSf _ n 0 _ _ _ rfl (qV _) hst₁ hS₁ (ItemsOf.nil P) λs' acc' c' hm hS' hacc=>?_⟩;show wpAny _ A (load s.heap.objs.size >>= _) _ _ s';refine wpAny_bind (wpAny_load hS' ?_);exact wpAny_pure (hQ s' acc' (Moved.drop_new (o:={ cls:=.type "list",data:=.seq ([]:zi).toArray }) (tk:=s.toks) hm (qe _)) hacc)
def uU {Q₁:ze} (W:WalksS prog w A.in1.in1 I fp wr G n P St) (hT:∀i s,St i s->s.TypeIs (.ref I) "list_reverseiterator") (hst:St 0 s) (hfp:∀b∈fp,b < s.heap.objs.size) (hI:I∈fp)
   (h:∀s' acc,Moved wr G s s'->ItemsOf P acc n->Q₁ (.ref s'.heap.objs.size) { s' with heap:=s'.heap.push { cls:=.type "tuple",data:=.seq acc } }) (hsz:n<=sizeLine) :
   codeAny (model prog w) A (.call (.builtin "tuple.__new__") ⟨[.type "tuple",.ref I],[]⟩) (wants Q₁ E) s:=by
 refine codeAny_of_tree ?_;show wpAny _ A.in1 (do checkBuiltinCall "tuple.__new__" ⟨[.type "tuple",.ref I],[]⟩;again (.builtin "tuple.__new__" ⟨[.type "tuple",.ref I],[]⟩)) _ _ s;refine wpAny_bind (wpAny_of_eq (F.newCall_tuple_1 _) (wpAny_pure ⟨plainId_quiet F.plain_tuple_new _,codeAny_builtin F.entry_tuple_new ?_⟩));rw[abn F.plain_tuple_new _];have hsub:=sub_tuple_self;have hinit:=init_tuple_lookup;have hmh:=madeHere_tuple;have hTI:=hT 0 s hst
 wp_walk using wpAny_typeOf hTI,GP (hn:=hsz) W hT hst hfp hI
 intro s' acc hm hacc;show wpAny _ _ (Qr acc.toList.toArray >>= λv=>ret v) _ _ _;unfold Qr;refine wpAny_bind (wpAny_newObj_type ?_ (by show acc.toList.toArray.size<=sizeLine;simp only [acg];rw[hacc.1];exact hsz));refine wpAny_pure ?_;have e:acc.toList.toArray=acc:=by simp
 rw[e];exact h s' acc hm hacc
def Bf {Q:ze} (W:WalksS prog w A.in1.in1.in1 I fp wr G n P St) (hT:∀i s,St i s->s.TypeIs (.ref I) "list_reverseiterator") (hst:St 0 s) (hfp:∀b∈fp,b < s.heap.objs.size) (hI:I∈fp)
   (hQ:∀s' acc,Moved wr G s s'->ItemsOf P acc n->Q (.ref s'.heap.objs.size) { s' with heap:=s'.heap.push { cls:=.type "tuple",data:=.seq acc } }) (hsz:n<=sizeLine) :
   wpAny (model prog w) A (call (.type "tuple") [.ref I]) Q E s:=by
 refine callType_codes (Q₁:=λobj s₁=>s₁.TypeIs obj "tuple" ∧ Q obj s₁) adV (F.typeCall_tuple_1 _) F.entry_object_init
   (uU W hT hst hfp hI (λs' acc hm hacc=>⟨⟨_,qp _ rfl,rfl⟩,hQ s' acc hm hacc⟩) hsz) λobj s₁ h₁=>?_
 exact⟨h₁.1,F.args_object_init_2 obj _,object_init_meets adV.init.lookup adV.made (by decide) prog w A.in1 _ s₁ ⟨h₁.1,rfl,h₁.2⟩⟩
end
end PySem
namespace L2
open PySem PySem.Spec PyProof.Rows
def Lg (K:qv)(a:Addr)(n:Nat): It :=
 ⟨λi H=>i < n/\∃xs,SqT K H a xs/\xs.length=n,λi H x H'=>H'=H/\∀xs,SqT K H a xs->xs[n-1-i]?=some x,λi _=>i=n⟩
def GQ {P:Program}{w:World}{K:qv}{tg:Expr}(a it:Addr)(n:Nat): Turn P w K tg (Lg K a n) [it] it (λi h=>h.mW it a ((n:Int)-1-(i:Int))) where
 mem:=by simp
 obj:=λi h st b hb=>by
   have e:b=it:=by simpa using hb
   subst e;let⟨o,e,c,d⟩:=st;exact⟨o,e,λv z=>by rw[d] at z;cases z⟩
 keep:=λi h h' st k=>st.at λo e=>k it (by simp) o e
 item:=by
   walk_at "0c";let⟨hi,xs,hq,hl⟩:=hg;let⟨its,rv,p,hz⟩:=I.tuple hq;have hx:xs[n-1-i]?=some (xs[n-1-i]'(by lia)):=qi (by lia);let⟨u,hu,ru⟩:=rv.get hx;walk_at "0g";have e1:(n:Int)-1-(i:Int)=((n-1-i:Nat):Int):=by lia
   rw[e1] at st;have hlen:=rv.length;refine Be st p (x:=u) (by simpa using hu) (by rw[sizeLine_eq] at hz;simp only [qo];lia) λh' tk st' sb=>?_;have e2:((n-1-i:Nat):Int)-1=(n:Int)-1-((i+1:Nat):Int):=by lia
   rw[e2] at st';have I1:ZZ X zk σ H { s with heap:=h',toks:=tk }:=I.turned (t':=tk) (λb o hb e=>(sb.2 b hb).trans e) f0 f1 f3 f4 f5;let⟨o,e,c,d⟩:=id st';exact⟨u,rfl,DW (s:={ s with heap:=h',toks:=tk }) e c d (by decide) ⟨_,H,I1,ru,⟨rfl,λys hy=>by rw[I.DV hy hq];exact hx⟩,st',λb hb=>(hf b hb).1⟩⟩
 done:=by
   walk_at "0c";have hg:i=n:=hg;subst hg;walk_at "0g";have e1:(i:Int)-1-(i:Int)=-1:=by lia
   rw[e1] at st;exact CL (I.ok.hd hc) st λh' eb=>⟨rfl,I.turned (t':=s.toks) (λb o hb e=>eb b o hb e) f0 f1 f3 f4 f5⟩
 self:=λ_ _ _ _ _ st h=>Eh st h
def Nm {K:qv}{a:Addr}{xs:zu}{g:TG}{tb:TS}{D:Ends}{σ:St}{H:Hp}(Pv:zG)(h0:Pv 0 σ H)(hl:∀i σ H,i<=xs.length->Pv i σ H->SqT K H a xs)
   (hs:∀i x σ H,xs.reverse[i]?=some x->Pv i σ H->g x σ H λσ2 H2=>tb { D with nx:=Pv (i+1),ct:=Pv (i+1),bk:=D.nx } σ2 H2) (hd:∀σ H,Pv xs.length σ H->D.nx σ H) :
   ∃W:Nat->Nat->St->Hp->Prop,(∃m,W 0 m σ H)/\∀i m σ H,W i m σ H ->
     ((Lg K a xs.length).stop i H/\D.nx σ H)\/((Lg K a xs.length).go i H/\∃N:St->Hp->Prop,(∀σ' H',N σ' H'->∃m',m' < m/\W (i+1) m' σ' H')/\∀x H',(Lg K a xs.length).yld i H x H'->g x σ H' λσ2 H2=>tb { D with nx:=N,ct:=N,bk:=D.nx } σ2 H2):=by
 refine⟨λi m σ H=>m=xs.length-i/\i<=xs.length/\Pv i σ H,⟨xs.length,by simp,qV _,h0⟩,?_⟩;rintro i m σ H ⟨rfl,hi,p⟩;have q:=hl i σ H hi p;by_cases hlt:i < xs.length
 · refine .inr ⟨⟨hlt,xs,q,rfl⟩,Pv (i+1),λσ' H' p'=>⟨xs.length-(i+1),by lia,rfl,hlt,p'⟩,λx H' y=>?_⟩
   let⟨e,y⟩:=y;subst e;exact hs i x σ _ (by rw[adK hlt];exact y xs q) p
 · have e:i=xs.length:=by lia
   subst e;exact .inl ⟨rfl,hd σ H p⟩
section
variable {X:Cx}{tg l:Expr}{tl:TE}{p pos:Pos}
def Wf (K:qv)(tl:TE): TI:=λσ H R=>tl σ H λx H1=>∃a xs,x=.ref a/\SqT K H1 a xs/\R (Lg K a xs.length) H1
def P8 (hg:Gl X "reversed") (hm:X.mg "reversed" = none) (hl:PE X l tl) (hs:starEach [l] X.env=[(false,eval l X.env)]:=by rfl):PI X tg (.Call (.Name "reversed" p) [l] [] pos) (Wf X.K tl):=by
 intro zk s σ H R I h;refine Call_ (mR I hg hm PyProof.Rows.Boot.«reversed» (qT (ZQ (tU hl jx hs pos zk s σ H (λvs H1=>match vs with | [x]=>∃a xs,x=.ref a/\SqT X.K H1 a xs/\R (Lg X.K a xs.length) H1 | _=>False) I h) λus s1 ⟨vs,H1,I1,r1,q1⟩=>?_) hs rfl))
 match vs,q1 with
 | [x],q1 =>
   let⟨a,xs,rfl,hq,q⟩:=q1;let⟨u,rfl,ru⟩:=vals1 r1;cases ru;let⟨its,rv,pl,hz⟩:=I1.tuple hq;have hlen:=rv.length;refine vW pl (by rw[sizeLine_eq] at hz;simp only [qo];lia) λtk=>?_;have it0:(s1.heap.push (AK a ((its.toArray.size:Int)-1))).mW s1.heap.objs.size a ((xs.length:Int)-1-((0:Nat):Int)):=⟨_,qp _ rfl,rfl,by
     show aeK #[.ref a,rawInt ((its.toArray.size:Int)-1)]=_;rw[qo,<-hlen];simp⟩
   refine Eh (s:={ s1 with heap:=s1.heap.push (AK a ((its.toArray.size:Int)-1)),toks:=tk }) it0 ?_;refine⟨s1.heap.objs.size,[s1.heap.objs.size],_,_,H1,rfl,I1.kept (t':=tk) λb o e=>qb _ e,GQ a _ xs.length,it0,λb hb=>?_,q⟩;have e:b=s1.heap.objs.size:=by simpa using hb
   subst e;exact I1.xB (qe _) (I1.hok.fresh (qe _))
def P9 (K:qv)(tl:TE): TE:=λσ H Q=>tl σ H λx H1=>∃a xs,x=.ref a/\Zx K H1 a xs/\∀t,H1 t=none->Q (.ref t) (upd H1 t (.tup xs.reverse))
def GR:∀{xs:zu} {us:zi},Vals xs us->Vals xs.reverse us.reverse
 | [],_,r=>by cases r;exact .nil
 | x::xs,_,r=>by
   cases r with
   | cons r1 r2 =>
     rw[abN,abN];exact(GR r2).append (.cons r1 .nil)
def Lh {xs:zu}{its:zi}(rv:Vals xs its){acc:zp}(h:ItemsOf (λi v=>its.toArray[its.toArray.size-1-i]?=some v) acc its.toArray.size): Vals xs.reverse acc.toList:=by
 have e:acc.toList=its.reverse:=by
   refine List.ext_getElem? λi=>?_;by_cases hi:i < its.length
   · have hs:acc.size=its.toArray.size:=h.1
     have hi':i < acc.size:=by rw[hs];simpa using hi
     have:=h.2 i acc[i] (by simp[hi']);rw[abP,abu hi',adK hi];simp only [qo,List.getElem?_toArray] at this;exact this.symm
   · have hs:acc.size=its.toArray.size:=h.1
     have:acc.toList.length<=i:=by rw[Qo,hs];simpa using hi
     rw[abj this,abj (by simpa using hi)]
 rw[e];exact GR rv
def P_ {zk:zh} {σ:St} {H:Hp} {s:Shared} {Q:VK} {p2 pos2:Pos} {mk:List V->HO} (hg:Gl X "reversed") (hm:X.mg "reversed" = none) (hl:PE X l tl) (hs:starEach [l] X.env=[(false,eval l X.env)]) (I:ZZ X zk σ H s)
   (h:tl σ H λx H1=>∃a xs,x=.ref a/\Zx X.K H1 a xs/\∀t,H1 t=none->Q (.ref t) (upd H1 t (mk xs.reverse))) {R:ze}
   (hR:∀(s1:Shared) (H1:Hp) (a:Addr) (xs:zu) (its:zi),ZZ X zk σ H1 s1->Vals xs its->PlainL s1.heap a its.toArray->xs.length<=sizeLine->(∀t,H1 t=none->Q (.ref t) (upd H1 t (mk xs.reverse))) ->
     R (.ref s1.heap.objs.size) { s1 with heap:=s1.heap.push (revObj a ((its.toArray.size:Int)-1)) }) :
   wpAny (model X.prog X.w) X.A (eval (.Call (.Name "reversed" p2) [l] [] pos2) X.env) R X.xe s:=by
 refine Call_ (mR I hg hm PyProof.Rows.Boot.«reversed» (qT (ZQ (tU hl jx hs pos2 zk s σ H (λvs H1=>match vs with | [x]=>∃a xs,x=.ref a/\Zx X.K H1 a xs/\∀t,H1 t=none->Q (.ref t) (upd H1 t (mk xs.reverse)) | _=>False) I h) λus s1 ⟨vs,H1,I1,r1,q1⟩=>?_) hs rfl))
 match vs,q1 with
 | [x],q1 =>
   let⟨a,xs,rfl,hq,q⟩:=q1;let⟨u,rfl,ru⟩:=vals1 r1;cases ru;let⟨its,rv,pl,hz⟩:=I1.list hq;exact call_reversed_list pl.isList (hR s1 H1 a xs its I1 rv pl hz q)
def E7 {p2 pos2:Pos} (hc:X.calm=true) (hg1:Gl X "tuple") (hm1:X.mg "tuple" = none) (hg:Gl X "reversed") (hm:X.mg "reversed" = none) (hl:PE X l tl) (hs:starEach [l] X.env=[(false,eval l X.env)]:=by rfl)
   (hs2:starEach [.Call (.Name "reversed" p2) [l] [] pos2] X.env=[(false,eval (.Call (.Name "reversed" p2) [l] [] pos2) X.env)]:=by rfl) :
   PE X (.Call (.Name "tuple" p) [.Call (.Name "reversed" p2) [l] [] pos2] [] pos) (P9 X.K tl):=by
 intro zk s σ H Q I h;refine Call_ (mR I hg1 hm1 PyProof.Rows.Boot.«tuple» (qT ?_ hs2 rfl));rw[hs2];show wpAny _ _ (spliced ((false,eval (.Call (.Name "reversed" p2) [l] [] pos2) X.env)::backTo pos [])) _ _ s;refine Qu (P_ (mk:=.tup) hg hm hl hs I h λs1 H1 a xs its I1 rv pl hz q=>QY ?_);have hlen:=rv.length;have hlt:a < s1.heap.objs.size:=by let⟨_,e,_⟩:=id pl.isList;exact qj e
 have fp:=I1.xB (H':=H1) (qe _) (I1.hok.fresh (qe _));let⟨f0,f1,f2,f3,f4,f5⟩:=fp;have I2:ZZ X zk σ H1 { s1 with heap:=s1.heap.push (revObj a ((its.toArray.size:Int)-1)) }:=I1.kept (t':=s1.toks) λb o e=>qb _ e;have hsz:(s1.heap.push (revObj a ((its.toArray.size:Int)-1))).objs.size=s1.heap.objs.size+1:=Array.size_push _;refine Bf (Walks.listRev (A:=X.A.in1.in1.in1) (I1.ok.hd hc) s1.heap.objs.size a (qH hlt) its.toArray).toS (λi s st=>st.2.1.typeIs) ⟨qV _,⟨_,qp _ rfl,rfl,by simp[revObj]⟩,pl.isList.push _⟩ (λb hb=>?_) (by simp) (λs' acc hm hacc=>?_) (by rw[qo,<-hlen];exact hz)
 · rcases qk.mp hb with e | hb
   · rw[e,hsz];exact abT _
   · rw[qc.mp hb,hsz];exact Nat.lt_succ_of_lt hlt
 · rw[Moved.eq_with hm]
   have kp:∀b o,b≠s1.heap.objs.size->(s1.heap.push (revObj a ((its.toArray.size:Int)-1))).get? b=some o->s'.heap.get? b=some o:=λb o nb e=>hm.heap b o (λz=>nb (qc.mp z)) e;have I3:ZZ X zk σ H1 { s1 with heap:=s'.heap,toks:=s'.toks }:=I2.turned (t':=s'.toks) kp f0 f1 f3 f4 f5;have I4:ZZ X zk σ (upd H1 s'.heap.objs.size (.tup xs.reverse)) { s1 with heap:=s'.heap.push { cls:=.type "tuple",data:=.seq acc },toks:=s'.toks }:=I3.laid (t':=s'.toks) (λb o e=>qb _ e) (qe _)
     (show gN X.prog X.w _ _ _ (.tup xs.reverse) from ⟨by rw[QR];exact hz,acc.toList,Lh rv hacc,by rw[acg];exact IsTup.new _ _⟩)
   exact⟨.ref _,_,I4,rfl,q _ (I3.hok.fresh (qe _))⟩
end
def Itd (lo:Int)(n:Nat): It:=⟨λi _=>i < n,λi H x H'=>x=.int (lo-(i:Int))/\H'=H,λi _=>n<=i⟩
def Li {P:Program}{w:World}{K:qv}{tg:Expr}(it:Addr)(lo:Int)(n:Nat): Turn P w K tg (Itd lo n) [it] it (λi h=>IsRangeIter h it (lo+(i:Nat)*(-1)) ((n:Int)-(i:Nat)) (-1)) where
 mem:=by simp
 obj:=λi h st b hb=>by
   have e:b=it:=by simpa using hb
   subst e;exact⟨_,st,λv z=>by
     have z':aeK _=Data.cell v:=z;cases z'⟩
 keep:=λi h h' st k=>k it (by simp) _ st
 item:=by
   walk_at "0c";walk_at "0g";have W:=Walks.range (prog:=X.prog) (w:=X.w) (I.ok.hd hc) it lo (-1) n;refine W.item i s _ _ hg st λv h' tk hv st' kk=>?_;let⟨t,rfl⟩:=hv;have I1:ZZ X zk σ H { s with heap:=h',toks:=tk }:=I.turned (λb o hb e=>kk b o (by simpa using hb) e) f0 f1 f3 f4 f5;refine⟨_,rfl,DW (s:={ s with heap:=h',toks:=tk }) (n := "range_iterator") st' rfl rfl (by decide) ⟨.int (lo-i),H,I1,⟨t,?_⟩,⟨rfl,rfl⟩,st',λb hb=>(hf b hb).1⟩⟩;rw[Int.mul_neg,aeL,<-Int.sub_eq_add_neg]
 done:=by
   walk_at "0c";walk_at "0g";exact wpAny_pyNext_range_end (I.ok.hd hc) st (by have:n<=i:=hg;lia) λh' eb=>⟨rfl,I.turned (t':=s.toks) (λb o hb e=>eb b o hb e) f0 f1 f3 f4 f5⟩
 self:=λ_ _ _ _ _ st h=>wpAny_pyIter_rangeiter st h
def Ei (lo hi:Int): Qm lo hi (-1)=(((lo-hi).toNat:Nat):Int):=by
 unfold Qm;have:(-(-1:Int))=1:=rfl;rw[if_neg (by decide),this,Int.ediv_one];split<;>lia
section
variable {X:Cx}{tg:Expr}
def small_down {lo hi:Int}(h1:-(2^60)<=lo)(h2:lo < 2^60)(h3:-(2^60)<=hi)(h4:hi < 2^60): acu lo hi (-1)=true:=by
 unfold acu;rw[Ei];unfold Builtin.Range.rangeFitsLong;simp;lia
def IW {zk:zh}{σ:St}{H:Hp}{s:Shared}{R:Zh}{E:ze}{lo hi:Int}{t u v:Tok}{tk:Nat}(I:ZZ X zk σ H s)(h1:-(2^60)<=lo)(h2:lo < 2^60)(h3:-(2^60)<=hi)(h4:hi < 2^60)
   (q:R (Itd lo (lo-hi).toNat) H):wpAny (model X.prog X.w) X.A (pyIter (.ref s.heap.objs.size)) (PIE X zk σ tg R) E { s with heap:=s.heap.push { cls:=.type "range",data:=.fields #[.int lo t,.int hi u,.int (-1) v] },toks:=tk }:=by
 refine wpAny_pyIter_range (IsRange.new ..) (small_down h1 h2 h3 h4) ?_;have I1:ZZ X zk σ H { s with heap:=s.heap.push { cls:=.type "range",data:=.fields #[.int lo t,.int hi u,.int (-1) v] },toks:=tk }:=I.kept λb o e=>qb _ e;refine⟨(s.heap.push { cls:=.type "range",data:=.fields #[.int lo t,.int hi u,.int (-1) v] }).objs.size,[(s.heap.push { cls:=.type "range",data:=.fields #[.int lo t,.int hi u,.int (-1) v] }).objs.size],_,_,H,rfl,
   I1.kept (t':=tk) λb o e=>qb _ e,Li _ lo (lo-hi).toNat,?_,λb hb=>?_,q⟩
 · have e1:lo+((0:Nat):Int)*(-1)=lo:=by simp
   have e2:(((lo-hi).toNat:Nat):Int)-((0:Nat):Int)=Qm lo hi (-1):=by rw[Ei];lia
   show IsRangeIter _ _ (lo+((0:Nat):Int)*(-1)) ((((lo-hi).toNat:Nat):Int)-((0:Nat):Int)) (-1);rw[e1,e2];exact qp _ rfl
 · have e:b=(s.heap.push { cls:=.type "range",data:=.fields #[.int lo t,.int hi u,.int (-1) v] }).objs.size:=by simpa using hb
   subst e;exact I1.xB (qe _) (I1.hok.fresh (qe _))
def Wg (ta:TA): TI:=λσ H R=>ta σ H λvs H1=>∃i j:Int,vs=[.int i,.int j,.int (-1)]/\(-(2^60)<=i/\i < 2^60/\-(2^60)<=j/\j < 2^60)/\R (Itd i (i-j).toNat) H1
def Lj {a b c:Expr} {ta:TA} {p pos:Pos} (hg:Gl X "range") (hm:X.mg "range" = none) (ha:PA X [a,b,c] ta) (hs:starEach [a,b,c] X.env=[(false,eval a X.env),(false,eval b X.env),(false,eval c X.env)]:=by rfl) (hs2:starEach [b,c] X.env=[(false,eval b X.env),(false,eval c X.env)]:=by rfl) :
   PI X tg (.Call (.Name "range" p) [a,b,c] [] pos) (Wg ta):=by
 intro zk s σ H R I h;refine Call_ (mR I hg hm boot_range (qT (ZQ (ha pos zk s σ H _ I h) λus s1 ⟨vs,H1,I1,r1,q1⟩=>?_) (by rw[hs,hs2]) (by rw[hs2];rfl)));let⟨i,j,e,⟨q1,q2,q3,q4⟩,q⟩:=q1;subst e;cases r1 with
 | cons r rr =>
   cases rr with
   | cons r' rr =>
     cases rr with
     | cons r'' rr =>
       cases rr;let⟨t,rfl⟩:=r;let⟨t',rfl⟩:=r';let⟨t'',rfl⟩:=r'';exact call_range_3 (by decide) (IW I1 q1 q2 q3 q4 q) (.inl (by unfold Builtin.divisionGoesByPylong;rfl))
end
def Nn {lo:Int}{n:Nat}{g:TG}{tb:TS}{D:Ends}{σ:St}{H:Hp}(Pv:zG)(h0:Pv 0 σ H)
   (hs:∀i σ H,i < n->Pv i σ H->g (.int (lo-(i:Int))) σ H λσ2 H2=>tb { D with nx:=Pv (i+1),ct:=Pv (i+1),bk:=D.nx } σ2 H2) (hd:∀σ H,Pv n σ H->D.nx σ H) :
   ∃W:Nat->Nat->St->Hp->Prop,(∃m,W 0 m σ H)/\∀i m σ H,W i m σ H ->
     ((Itd lo n).stop i H/\D.nx σ H)\/((Itd lo n).go i H/\∃N:St->Hp->Prop,(∀σ' H',N σ' H'->∃m',m' < m/\W (i+1) m' σ' H')/\∀x H',(Itd lo n).yld i H x H'->g x σ H' λσ2 H2=>tb { D with nx:=N,ct:=N,bk:=D.nx } σ2 H2):=by
 refine⟨λi m σ H=>m=n-i/\i<=n/\Pv i σ H,⟨n,by simp,qV _,h0⟩,?_⟩;rintro i m σ H ⟨rfl,hi,p⟩;by_cases hlt:i < n
 · refine .inr ⟨hlt,Pv (i+1),λσ' H' p'=>⟨n-(i+1),by lia,rfl,hlt,p'⟩,λx H' y=>?_⟩
   let⟨rfl,rfl⟩:=y;exact hs i σ _ hlt p
 · have e:i=n:=by lia
   subst e;exact .inl ⟨qe _,hd σ H p⟩
section
variable {X:Cx}{zk:zh}{σ:St}{H:Hp}{s:Shared}{a:Addr}
end
section
variable {X:Cx}
end
def Its (x:Str): It:=⟨λi _=>i < x.cps.size,λi H v H'=>H'=H/\∃c,x.cps[i]?=some c/\v=.str ⟨#[c]⟩,λi _=>i=x.cps.size⟩
def GU {P:Program}{w:World}{K:qv}{tg:Expr}(it:Addr)(x:Str)(t:Tok)(ty:String)
   (hn:["enumerate","zip","dict_itemiterator","dict_reverseitemiterator","odict_iterator","itertools.zip_longest","itertools.pairwise"].contains ty=false)
   (W:∀A':Around,A'.handled=none->Walks P w A' it [it] [it] x.cps.size (SignAt x) (λi h=>h.IsStrIter it ty x t i))
   (hs:∀(A:Around) (i:Nat) (s:Shared) (Q:ze) (E:ze),s.heap.IsStrIter it ty x t i->Q (.ref it) s->wpAny (model P w) A (pyIter (.ref it)) Q E s) :
   Turn P w K tg (Its x) [it] it (λi h=>h.IsStrIter it ty x t i) where
 mem:=by simp
 obj:=λi h st b hb=>by
   have e:b=it:=by simpa using hb
   subst e;let⟨o,e,c,d⟩:=st;exact⟨o,e,λv z=>by rw[d] at z;cases z⟩
 keep:=λi h h' st k=>by
   let⟨o,e,r⟩:=st;exact⟨o,k it (by simp) o e,r⟩
 item:=by
   walk_at "0c";walk_at "0g";refine(W X.A (I.ok.hd hc)).item i s _ _ hg st λv h' tk hv st' kk=>?_;let⟨c,u,hcx,rfl⟩:=hv;have I1:ZZ X zk σ H { s with heap:=h',toks:=tk }:=I.turned (λb o hb e=>kk b o (by simpa using hb) e) f0 f1 f3 f4 f5;let⟨o,e,c1,d⟩:=id st';exact⟨_,rfl,DW (s:={ s with heap:=h',toks:=tk }) e c1 d hn ⟨.str ⟨#[c]⟩,H,I1,⟨u,rfl⟩,⟨rfl,c,hcx,rfl⟩,st',λb hb=>(hf b hb).1⟩⟩
 done:=by
   walk_at "0c";walk_at "0g";have hg:i=x.cps.size:=hg;subst hg;exact(W X.A (I.ok.hd hc)).done s _ _ st λh' tk kk=>⟨rfl,I.turned (λb o hb e=>kk b o (by simpa using hb) e) f0 f1 f3 f4 f5⟩
 self:=hs
section
variable {X:Cx}{tg:Expr}
def Yp (tl:TE): TI:=λσ H R=>tl σ H λx H1=>∃y,x=.str y/\R (Its y) H1
def Uv {l:Expr}{tl:TE}(hl:PE X l tl): PI X tg l (Yp tl):=by
 intro zk s σ H R I h;refine ZQ (hl zk s σ H _ I h) λv s1 hz_=>?_;let⟨x,H1,I1,r1,q1⟩:=hz_;let⟨y,e,q⟩:=q1;subst e;let⟨t,rfl⟩:=r1;have fin:∀(o:Obj) (tn:Nat->Heap->Prop),Turn X.prog X.w X.K tg (Its y) [s1.heap.objs.size] s1.heap.objs.size tn->tn 0 (s1.heap.push o)->PIE X zk σ tg R (.ref s1.heap.objs.size) { s1 with heap:=s1.heap.push o }:=λo tn ht h0=>by
   refine⟨s1.heap.objs.size,[s1.heap.objs.size],tn,_,H1,rfl,I1.kept (t':=s1.toks) λb o e=>qb _ e,ht,h0,λb hb=>?_,q⟩;have e:b=s1.heap.objs.size:=by simpa using hb
   subst e;exact I1.xB (qe _) (I1.hok.fresh (qe _))
 cases ha:y.cps.all (· < 128)
 · exact wpAny_pyIter_wide ha (fin _ _ (GU _ y t "str_iterator" (by decide) (λA' hA=>Walks.strWide hA _ y t) λ_ _ _ _ _ st h=>wpAny_pyIter_striter_wide st h) ⟨_,qp _ rfl,rfl,rfl⟩)
 · exact wpAny_pyIter_ascii ha (fin _ _ (GU _ y t "str_ascii_iterator" (by decide) (λA' hA=>Walks.strAscii hA _ y t) λ_ _ _ _ _ st h=>wpAny_pyIter_striter_ascii st h) ⟨_,qp _ rfl,rfl,rfl⟩)
end
def Ra {x:Str}{g:TG}{tb:TS}{D:Ends}{σ:St}{H:Hp}(Pv:zG)(h0:Pv 0 σ H)
   (hs:∀i c σ H,x.cps[i]?=some c->Pv i σ H->g (.str ⟨#[c]⟩) σ H λσ2 H2=>tb { D with nx:=Pv (i+1),ct:=Pv (i+1),bk:=D.nx } σ2 H2) (hd:∀σ H,Pv x.cps.size σ H->D.nx σ H) :
   ∃W:Nat->Nat->St->Hp->Prop,(∃m,W 0 m σ H)/\∀i m σ H,W i m σ H ->
     ((Its x).stop i H/\D.nx σ H)\/((Its x).go i H/\∃N:St->Hp->Prop,(∀σ' H',N σ' H'->∃m',m' < m/\W (i+1) m' σ' H')/\∀v H',(Its x).yld i H v H'->g v σ H' λσ2 H2=>tb { D with nx:=N,ct:=N,bk:=D.nx } σ2 H2):=by
 refine⟨λi m σ H=>m=x.cps.size-i/\i<=x.cps.size/\Pv i σ H,⟨x.cps.size,by simp,qV _,h0⟩,?_⟩;rintro i m σ H ⟨rfl,hi,p⟩;by_cases hlt:i < x.cps.size
 · refine .inr ⟨hlt,Pv (i+1),λσ' H' p'=>⟨x.cps.size-(i+1),by lia,rfl,hlt,p'⟩,λv H' y=>?_⟩
   let⟨e,c,hc,rfl⟩:=y;subst e;exact hs i c σ _ hc p
 · have e:i=x.cps.size:=by lia
   subst e;exact .inl ⟨rfl,hd σ H p⟩
section
variable {X:Cx}{zk:zh}{σ:St}{H:Hp}{s:Shared}
def ZZ.AO {h':Heap}{t':Nat}{ch:zj}(I:ZZ X zk σ H s)(k:∀b o,b∉ch->s.heap.get? b=some o->h'.get? b=some o)(f:∀b∈ch,sk X zk H b): ZZ X zk σ H { s with heap:=h',toks:=t' }:=by
 have nit:∀b u,H b=some u->b∉ch:=λb u e z=>by rw[(f b z).1] at e;cases e
 refine I.step (g':=s.gens) (d':=s.drawn) (ch:=ch) (λb hb=>?_) (λb o _ _ hc e _=>k b o hc e) (λb o _ _ hc e _=>⟨o.slots,k b o hc e⟩) (λ_ _ _ _ n=>n)
   (λb o hc e=>⟨o,k b o hc e⟩) (λ_ _ e=>e) (λ_ _ _ e=>e) (λb ps e=>⟨#[],by rw[e];simp⟩) (λm hm=>?_) (λb u e=>?_) I.bare
 · let⟨f0,f1,f2,f3,f4,f5⟩:=f b hb
   exact⟨f3,f1,f4,f5⟩
 · let⟨o,es,ep,ho,r⟩:=hm
   exact⟨o,es,ep,k _ o (λz=>(f _ z).2.1 rfl) ho,r⟩
 · refine(I.hok b u e).stay (λc v hc q=>k c v ?_ q) (λ_ q=>q) λ_ _ q=>q
   rcases hc with z | z
   · rw[z];exact nit b u e
   · exact nit c _ z
end
def Itz (K:qv)(l1 l2:Addr): It :=
 ⟨λi H=>∃xs ys,Zx K H l1 xs/\Zx K H l2 ys/\i < xs.length/\i < ys.length,
  λi H v H'=>∃T,v=.ref T/\H T=none/\∀xs ys x y,Zx K H l1 xs->Zx K H l2 ys->xs[i]?=some x->ys[i]?=some y->H'=upd H T (.tup [x,y]),
  λi H=>∃xs ys,Zx K H l1 xs/\Zx K H l2 ys/\(xs.length<=i\/ys.length<=i)⟩
def ZAt (z TI TO i1 i2 l1 l2:Addr)(i:Nat)(h:Heap): Prop:=IsZip h z TI TO .none/\IsPair h TI (.ref i1) (.ref i2)/\(∃a b,IsPair h TO a b)/\h.IsListIter i1 l1 i/\h.IsListIter i2 l2 i
def IX {h:Heap}{i l:Addr}{k:Nat}(x:h.IsListIter i l k): ∃o,h.get? i=some o/\∀v,o.data≠.cell v:=by
 let⟨o,e,c,d⟩:=x;exact⟨o,e,λv z=>by rw[d] at z;cases z⟩
def ZAt.obj {z TI TO i1 i2 l1 l2:Addr}{i:Nat}{h:Heap}(st:ZAt z TI TO i1 i2 l1 l2 i h): ∀b∈[z,TI,TO,i1,i2],∃o,h.get? b=some o/\∀v,o.data≠.cell v:=λb hb=>by
 let⟨hz,hTI,⟨a,c,hTO⟩,h1,h2⟩:=st;simp only [qk,qU,or_false] at hb;rcases hb with rfl | rfl | rfl | rfl | rfl
 · exact⟨_,hz,λv z=>by cases z⟩
 · exact⟨_,hTI,λv z=>by cases z⟩
 · exact⟨_,hTO,λv z=>by cases z⟩
 · exact IX h1
 · exact IX h2
def Np {P:Program}{w:World}{K:qv}{elts:zx}{kk}{pos:Pos}(z TI TO i1 i2 l1 l2:Addr)(D:ZipApart z TI TO i1 i2 l1 l2):
   Turn P w K (.Tuple elts kk pos) (Itz K l1 l2) [z,TI,TO,i1,i2] z (ZAt z TI TO i1 i2 l1 l2) where
 mem:=by simp
 obj:=λi h st=>st.obj
 keep:=λi h h' st k=>by
   let⟨hz,hTI,⟨a,c,hTO⟩,h1,h2⟩:=st;exact⟨k z (by simp) _ hz,k TI (by simp) _ hTI,⟨a,c,k TO (by simp) _ hTO⟩,h1.at λo e=>k i1 (by simp) o e,h2.at λo e=>k i2 (by simp) o e⟩
 item:=by
   walk_at "0c";have nT:∀b∈[z,TI,TO,i1,i2],s.heap.objs.size≠b:=λb hb e=>by
     let⟨_,q,_⟩:=st.obj b hb;exact Qj _ (e ▸ qj q)
   let⟨xs,ys,q1,q2,l1',l2'⟩:=hg;let⟨Wh,r1,c1,z1⟩:=I.list q1;let⟨its2,r2,c2,z2⟩:=I.list q2;let⟨hz,hTI,⟨a,c,hTO⟩,h1,h2⟩:=st;have ex:xs[i]?=some xs[i]:=qi l1';have ey:ys[i]?=some ys[i]:=qi l2';let⟨u,hu,ru⟩:=r1.get ex;let⟨v,hv,rv⟩:=r2.get ey;refine wpAny_pyNext_zip_item D hz hTI hTO h1 h2 c1.isList c2.isList (x:=u) (y:=v) (by simpa using hu) (by simpa using hv) λh' a1 a2 a3 a4 a5 a6 hk=>?_;refine⟨_,rfl,wpAny_letOwnedTupleGo_zip (s:={ s with heap:=h' }) a1 λh'' hz'' sb=>?_⟩;have sub:∀b∈[z,TO,i1,i2],b∈[z,TI,TO,i1,i2]:=λb hb=>by
     simp only [qk,qU,or_false] at hb ⊢;rcases hb with z | z | z | z<;>simp[z]
   have kp:∀b o,b∉[z,TO,i1,i2]->s.heap.get? b=some o->h''.get? b=some o:=λb o hb e=>by
     simp only [qk,qU,or_false,not_or] at hb;exact sb.extBut b o hb.1 (hk b o hb.1 hb.2.1 hb.2.2.1 hb.2.2.2 e)
   have T'':IsPair h'' s.heap.objs.size u v:=sb.extBut _ _ (nT z (by simp)) a5;have hfree:H s.heap.objs.size=none:=I.hok.fresh (qe _);have I2:ZZ X zk σ (upd H s.heap.objs.size (.tup [xs[i],ys[i]])) { s with heap:=h'' }:=by
     have Im:ZZ X zk σ (upd H s.heap.objs.size (.tup [xs[i],ys[i]])) { s with heap:=s.heap.push { cls:=.type "tuple",data:=.seq #[u,v] } }:=I.laid (t':=s.toks) (λb o e=>qb _ e) (qe _)
       (show gN X.prog X.w _ _ _ (.tup [xs[i],ys[i]]) from ⟨ck (by show 2<=1000;decide),[u,v],.cons ru (.cons rv .nil),⟨_,qp _ rfl,rfl,_,rfl⟩⟩)
     refine ZZ.AO (s:={ s with heap:=s.heap.push { cls:=.type "tuple",data:=.seq #[u,v] } }) (t':=s.toks) (ch:=[z,TO,i1,i2]) Im (λb o hb e=>?_) λb hb=>?_
     · rcases adW e with ⟨rfl,rfl⟩ | e
       · exact T''
       · exact kp b o hb e
     · let⟨f0,f1⟩:=hf b (sub b hb)
       exact⟨by rw[ak (nT b (sub b hb)).symm];exact f0,f1⟩
   refine⟨.ref s.heap.objs.size,_,I2,rfl,⟨_,rfl,hfree,λxs' ys' x' y' e1 e2 e3 e4=>?_⟩,⟨hz'',sb.extBut _ _ D.TIz (hk _ _ D.TIz D.TITO D.TIi1 D.TIi2 hTI),⟨u,v,sb.extBut _ _ D.TOz a2⟩,a3.at λo e=>sb.extBut _ _ D.i1z e,a4.at λo e=>sb.extBut _ _ D.i2z e⟩,λb hb=>?_⟩
   · rw[I.vJ e1 q1,ex] at e3
     rw[I.vJ e2 q2,ey] at e4;cases e3;cases e4;rfl
   · rw[ak (nT b hb).symm];exact(hf b hb).1
 done:=by
   walk_at "0c";let⟨xs,ys,q1,q2,hl⟩:=hg;let⟨Wh,r1,c1,z1⟩:=I.list q1;let⟨its2,r2,c2,z2⟩:=I.list q2;let⟨hz,hTI,⟨a,c,hTO⟩,h1,h2⟩:=st;have e1:=r1.length;have e2:=r2.length;refine wpAny_pyNext_zip_end (I.ok.hd hc) D hz hTI hTO h1 h2 c1.isList c2.isList (by
     rcases hl with h | h
     · exact .inl (by rw[abO];simp;lia)
     · exact .inr (by rw[abO];simp;lia)) λh' hk=>⟨rfl,I.AO (t':=s.toks) (ch:=[z,TO,i1,i2]) (λb o hb e=>by
       simp only [qk,qU,or_false,not_or] at hb;exact hk b o hb.1 hb.2.1 hb.2.2.1 hb.2.2.2 e) λb hb=>hf b (by
       simp only [qk,qU,or_false] at hb ⊢;rcases hb with z | z | z | z<;>simp[z])⟩
 self:=λ_ _ _ _ _ st h=>wpAny_pyIter_zip st.1 h
section
variable {X:Cx}{elts:zx}{kk:Nat}{tpos p pos:Pos}{e1 e2:Expr}{t1 t2:TE}
def Yq (K:qv)(t1 t2:TE): TI:=λσ H R=>t1 σ H λx H1=>t2 σ H1 λy H2=>∃l1 l2 xs ys,[x,y]=[.ref l1,.ref l2]/\Zx K H2 l1 xs/\Zx K H2 l2 ys/\R (Itz K l1 l2) H2
def Kd (hg:Gl X "zip") (hm:X.mg "zip" = none) (h1:PE X e1 t1) (h2:PE X e2 t2) (hs:starEach [e1,e2] X.env=[(false,eval e1 X.env),(false,eval e2 X.env)]:=by rfl) (hs2:starEach [e2] X.env=[(false,eval e2 X.env)]:=by rfl) :
   PI X (.Tuple elts kk tpos) (.Call (.Name "zip" p) [e1,e2] [] pos) (Yq X.K t1 t2):=by
 intro zk s σ H R I h;refine Call_ (mR I hg hm PyProof.Rows.Boot.«zip» (qT (ZQ (tU h1 (tU h2 jx hs2) (by rw[hs,hs2]) pos zk s σ H (λvs H1=>∃l1 l2 xs ys,vs=[.ref l1,.ref l2]/\Zx X.K H1 l1 xs/\Zx X.K H1 l2 ys/\R (Itz X.K l1 l2) H1) I h) λus s1 hq=>?_) (by rw[hs,hs2]) (by rw[hs2];rfl)));let⟨vs,H1,I1,r1,l1,l2,xs,ys,rfl,q1,q2,q⟩:=hq;cases r1 with
 | cons ra rr =>
  cases rr with
  | cons rb rr =>
   cases rr;cases ra;cases rb;let⟨Wh,v1,c1,z1⟩:=I1.list q1;let⟨its2,v2,c2,z2⟩:=I1.list q2;refine call_zip_2 c1.isList c2.isList λh' a1 a2 a3 a4 a5 _ kp=>?_;refine wpAny_pyIter_zip (s:={ s1 with heap:=h' }) a1 ?_;refine⟨s1.heap.objs.size+4,_,_,_,H1,rfl,I1.kept (t':=s1.toks) kp,Np _ _ _ _ _ l1 l2 (W.ktu_apart _ _ _ (by let⟨o,e,_⟩:=c1.isList;exact qj e) (by let⟨o,e,_⟩:=c2.isList;exact qj e)),⟨a1,a2,⟨_,_,a3⟩,a4,a5⟩,λb hb=>?_,q⟩;have hle:s1.heap.objs.size<=b:=by
     simp only [qk,qU,or_false] at hb;rcases hb with rfl | rfl | rfl | rfl | rfl
     all_goals first | exact Nat.le_add_right _ _ | exact qe _
   exact I1.xB hle (I1.hok.fresh hle)
end
def Nq {K:qv}{l1 l2:Addr}{xs ys:zu}{g:TG}{tb:TS}{D:Ends}{σ:St}{H:Hp}(n:Nat)(hx:xs.length=n)(hy:ys.length=n)(Pv:zG)(h0:Pv 0 σ H)(hl:∀i σ H,i<=n->Pv i σ H->Zx K H l1 xs/\Zx K H l2 ys)
   (hs:∀i x y σ H T,xs[i]?=some x->ys[i]?=some y->Pv i σ H->H T=none->g (.ref T) σ (upd H T (.tup [x,y])) λσ2 H2=>tb { D with nx:=Pv (i+1),ct:=Pv (i+1),bk:=D.nx } σ2 H2) (hd:∀σ H,Pv n σ H->D.nx σ H) :
   ∃W:Nat->Nat->St->Hp->Prop,(∃m,W 0 m σ H)/\∀i m σ H,W i m σ H ->
     ((Itz K l1 l2).stop i H/\D.nx σ H)\/((Itz K l1 l2).go i H/\∃N:St->Hp->Prop,(∀σ' H',N σ' H'->∃m',m' < m/\W (i+1) m' σ' H')/\∀x H',(Itz K l1 l2).yld i H x H'->g x σ H' λσ2 H2=>tb { D with nx:=N,ct:=N,bk:=D.nx } σ2 H2):=by
 refine⟨λi m σ H=>m=n-i/\i<=n/\Pv i σ H,⟨n,by simp,qV _,h0⟩,?_⟩;rintro i m σ H ⟨rfl,hi,p⟩;have q:=hl i σ H hi p;by_cases hlt:i < n
 · refine .inr ⟨⟨xs,ys,q.1,q.2,by lia,by lia⟩,Pv (i+1),λσ' H' p'=>⟨n-(i+1),by lia,rfl,hlt,p'⟩,λv H' y=>?_⟩
   let⟨T,rfl,hT,e⟩:=y;have ex:xs[i]?=some (xs[i]'(by lia)):=qi (by lia);have ey:ys[i]?=some (ys[i]'(by lia)):=qi (by lia);rw[e xs ys _ _ q.1 q.2 ex ey];exact hs i _ _ σ H T ex ey p hT
 · have e:i=n:=by lia
   subst e;exact .inl ⟨⟨xs,ys,q.1,q.2,.inl (by lia)⟩,hd σ H p⟩
def Wi (z_:zv)(ks:zq): Prop:=z_.map (·.1)=ks.map QJ
section
variable {X:Cx}
end
section
variable {X:Cx}{k:Nat}{C:Addr}{ps:zq}{sp:Sp}{Zz:zu}{E:zV}{x:Str}{p pos:Pos}
def Uw (h:jw X.prog X.w X.K X.mg X.base C k ps sp Zz)(hr:iH (k+1) X.A)(hg:Gl X x)(hm:X.mg x=some (.ref C))(hx:fX (CXE X.prog X.w) X E)
   (hdb:(x==("__debug__" : Str))=false:=by decide):PE X (.Call (.Name x p) [] [] pos) (E5 C sp Zz E KR):=by
 let⟨f,fd,ds,F,M,hb,hd⟩:=h;intro zk s σ H Q I h;refine wpAny_Call_Name_kw (lO I hg hm ?_ hdb);exact W.callWith_K0 I.kIn M.kp (Eb (us:=[]) M F hr hb hd (λH2 s2 e s' J z=>hx zk σ H2 s2 e s' J z) I .nil h)
end
section
variable {prog:Program}{w:World}{A:Around}{E:ze}{s:Shared}
end
section
variable {X:Cx}
def Lk {v:V}{vs:zu}{us:zi}(r:Vals (v::vs) us): ∃u us',us=u::us'/\ZX v u/\Vals vs us':=by
 cases r with
 | cons a b=>exact⟨_,_,rfl,a,b⟩
end
section
variable {X:Cx}
end
def Al (h:Heap)(_:zi)(n:Str)(y:zF)(l:zi): Prop:=∀(M:Model) (C:Addr) (bm:zi),l=.ref C::bm->W.Looks M h (typeLookup (.ref C) n) y
def Al.keeps {h h':Heap}{bmB tl:zi}{n:Str}{y:zF}(T:Al h bmB n y tl)(hk:∀b o,h.get? b=some o->h'.get? b=some o): Al h' bmB n y tl:=λM C bm e=>(T M C bm e).keeps hk
def Ej {K:qv}{C:Addr}{n:Str}{y:zF}{bmB bm:zi}(e:Qd K (.ref C) n=some y): ∀h:Heap,K.In h->Al h bmB n y (.ref C::bm):=λh X M C' bm' q=>by
 cases q;exact adQ X e
section
variable {M:Model}{A:Around}{E:ze}{h:Heap}{g:zR}{d:Drawn}{t:Nat}{os:OsState}
abbrev Zb:=Option Bool
variable {nm q:Str}{C N:Addr}{bs bm bmB:zi}{hdct:Bool}{sn:zq}{sub:zi}{ab:Bool}{col:Zb}{dd:zo}{k0 k1 k2 k3 k5:zF}{B newId initId:String}
def Al.look {n:Str}{y:zF}{Q:zc}(hC:h.get? C=some (excClassObj nm q C N bs bm hdct sn sub ab col dd k0 k1 k2 k3 k5 newId))(T:Al h bmB n y (.ref C::bm))(hq:Q y ⟨h,g,d,t,os⟩):
 wpAny M A (typeLookup (.ref C) n) Q E ⟨h,g,d,t,os⟩:=(T M C bm rfl).at hq
def Hs (bmB bm:zi): Prop:=∀X:String,bm.contains (.type X)=bmB.contains (.type X)
def Hs.has {X:String}{b:Bool}(T:Hs bmB bm)(hb:bmB.contains (.type X)=b): bm.contains (.type X)=b:=(T X).trans hb
def Lp (F:ExcBaseFacts B newId initId bmB)(T:Hs bmB bm){rest:zi}{Q:zg}(hC:h.get? C=some (excClassObj nm q C N bs bm hdct sn sub ab col dd k0 k1 k2 k3 k5 newId))
   (hq:Q () ⟨h,g,d,t,os⟩):wpAny M A (checkBuiltinCall newId ⟨.ref C::rest,[]⟩) Q E ⟨h,g,d,t,os⟩:=by
 have hcont:(qh C::bm).contains (.type B)=true:=by rw[Qi,T.has F.hasB,abq]
 have hstar:=F.noStar;simp only [checkBuiltinCall,F.newKind,F.newSplit,F.newRow];repeat (first | refine wpAny_loadPart_at hC ?_ | (refine wpAny_isSubtype_exc hC ?_;rw[hcont]) | refine wpAny_staticBase_exc hC ?_ | refine wpAny_madeBy_exc hC ?_ | simp only [bne_self_eq_false,abd,if_false] | wp_step)
 exact hq
end
section
variable {prog:Program}{w:World}{A:Around}{E:ze}{h:Heap}{g:zR}{d:Drawn}{t:Nat}{os:OsState}
variable {nm q:Str}{C N:Addr}{bs bm bmB:zi}{hdct:Bool}{sn:zq}{sub:zi}{ab:Bool}{col:Zb}{dd:zo}{k0 k1 k2 k3 k5:zF}{B newId initId:String}
def Nr {R:z7}(F:ExcBaseFacts B newId initId bmB)(T:Hs bmB bm){rest:zi}(hC:h.get? C=some (excClassObj nm q C N bs bm hdct sn sub ab col dd k0 k1 k2 k3 k5 newId))(hrest:rest.length<=sizeLine)
   (hq:R (.ok (.ret (.ref (h.objs.size+1)))) ⟨(h.push { cls:=.type "tuple",data:=.seq rest.toArray }).push
     { cls:=.ref C,data:=.fields #[.ref h.objs.size,.none,.none,.none,.bool false,.none] },g,d,t,os⟩) :
   codeAny (model prog w) A (.builtin newId ⟨.ref C::rest,[]⟩) R ⟨h,g,d,t,os⟩:=by
 have hends:=F.ends;have hcB:(qh C::bm).contains (.type B)=true:=by rw[Qi,T.has F.hasB,abq]
 have hcA:(qh C::bm).contains (.type "AttributeError")=false:=by rw[Qi,T.has F.noAttr];rfl
 have hcN:(qh C::bm).contains (.type "NameError")=false:=by rw[Qi,T.has F.noName];rfl
 refine codeAny_builtinAt F.entry ?_;unfold Builtin.«BaseException.__new__»;refine PySem.wpAt_bind ?_;show PySem.wpAt _ _ _ (stack >>= _) _ _ _;refine PySem.wpAt_bind (PySem.wpAt_stack λp below=>aee ?_)
 wp_walk
 refine aee ?_;rw[F.owner];repeat (first | with_reducible refine wpAny_madeHere_exc F.canon hC ?_ | with_reducible refine wpAny_loadPart_at hC ?_ | (with_reducible refine wpAny_isSubtype_exc hC ?_;first | rw[hcB] | rw[hcA] | rw[hcN]) | wp_step)
 show R _ _;rw[adO];exact hq
abbrev z9:=Fin->Shared->Prop
def Lq (F:ExcBaseFacts B newId initId bmB)(T:Hs bmB bm){rest:zi}{fI:Addr}{oI:Obj}{Q:z9}
   (hC:h.get? C=some (excClassObj nm q C N bs bm hdct sn sub ab col dd k0 k1 k2 k3 k5 newId)) (hi:Al h bmB "__init__" (some (.ref fI)) (.ref C::bm))
   (hfI:h.get? fI=some oI) (hfc:oI.cls=.type "function") (hrest:rest.length<=sizeLine)
   (hq:∀h' e,adX h h' e (.ref C) rest->h.objs.size<=e ->
     wpAny (model prog w) A (call (.ref fI) (.ref e::rest)) (λr s'=>r=.none/\Q (.done (.ret (.ref e))) s') E ⟨h',g,d,t,os⟩) :
   wpAny (model prog w) A (Builtin.«type.__call__» ⟨.ref C::rest,[]⟩) Q E ⟨h,g,d,t,os⟩:=by
 repeat (first | with_reducible refine wpAny_loadPart_at hC ?_ | with_reducible refine wpAny_madeBy_exc hC ?_ | wp_step)
 refine codeAny_call_builtin_code (aeu _ F.quiet) (Lp F T hC ?_);refine Nr F T hC hrest ?_;show wpAny _ _ _ _ _ _;have kp:∀b o,h.get? b=some o->((h.push { cls:=.type "tuple",data:=.seq rest.toArray }).push { cls:=.ref C,data:=.fields #[.ref h.objs.size,.none,.none,.none,.bool false,.none] }).get? b=some o :=
   λb o e=>qb _ (qb _ e)
 have hget:((h.push { cls:=.type "tuple",data:=.seq rest.toArray }).push
     { cls:=.ref C,data:=.fields #[.ref h.objs.size,.none,.none,.none,.bool false,.none] }).get? (h.objs.size+1)=some
     { cls:=.ref C,data:=.fields #[.ref h.objs.size,.none,.none,.none,.bool false,.none] }:=by heap_get
 have hC₁:=kp _ _ hC;have hfI₁:=kp _ _ hfI;have hcC:(qh C::bm).contains (.ref C)=true:=by simp
 unfold isInstance;repeat (first | with_reducible refine wpAny_loadPart_at hget ?_ | (with_reducible refine wpAny_isSubtype_exc hC₁ ?_;rw[hcC]) | wp_step)
 show wpAny _ _ (typeLookup (.ref C) _) _ _ _;refine(hi.keeps kp).look hC₁ ?_;refine wpAny_holding (wpAny_bind ?_);unfold bindSpecial;refine wpAny_bind (wpAny_typeOf (T := "function") ⟨_,hfI₁,hfc⟩ ?_);rw[if_pos (by decide)];refine wpAny_pure (wpAny_bind (wpAny_mono (hq _ (h.objs.size+1) ⟨kp,QL (adP _),h.objs.size,hget,QL (qe _),?_⟩ (adP _)) (λr s' hr=>?_) λ_ _ x=>x))
 · exact qb _ (Heap.get?_push_at rfl rfl)
 · let⟨rfl,hQ⟩:=hr
   wp_walk
   exact hQ
def Lr (F:ExcBaseFacts B newId initId bmB)(T:Hs bmB bm){rest:zi}{fI:Addr}{oI:Obj}{Q:ze}
   (hC:h.get? C=some (excClassObj nm q C N bs bm hdct sn sub ab col dd k0 k1 k2 k3 k5 newId)) (hi:Al h bmB "__init__" (some (.ref fI)) (.ref C::bm))
   (hfI:h.get? fI=some oI) (hfc:oI.cls=.type "function") (hrest:rest.length<=sizeLine)
   (hq:∀h' e,adX h h' e (.ref C) rest->h.objs.size<=e ->
     wpAny (model prog w) (A.under (.builtin "type.__call__" ⟨.ref C::rest,[]⟩)) (call (.ref fI) (.ref e::rest)) (λr s'=>r=.none/\Q (.ref e) s') E ⟨h',g,d,t,os⟩) :
   wpAny (model prog w) A (call (.ref C) rest) Q E ⟨h,g,d,t,os⟩:=by
 have f1:=tc_lookup;have f2:=tc_bind (.ref C);have hT:(⟨h,g,d,t,os⟩:Shared).TypeIs (.ref C) "type" := ⟨_,hC,rfl⟩;refine wpAny_call (codeAny_of_tree ?_);show wpAny _ _ (callAny (.ref C) _) _ _ _;repeat (any_goals (first | assumption | with_reducible refine wpAny_loadPart_at hC ?_ | wp_step))
 refine⟨rfl,?_⟩;exact codeAny_call_builtin_at (aeu _ (by exfalso)) entry_typeCall (wpAny_check_type_call_sub hC (Lq F T hC hi hfI hfc hrest hq))
def raise_stmt {M:Model} {env:Env} {s:Shared} {x:Sem Value} {Q:Flow->Shared->Prop} (hbase:bm.contains (.type "BaseException")=true) (hh:A.handled=none)
   (h:wpAny M A x (λv s₁=>∃e oe,v=.ref e/\s₁.heap.get? C=some (excClassObj nm q C N bs bm hdct sn sub ab col dd k0 k1 k2 k3 k5 newId) ∧
     s₁.heap.get? e=some oe/\oe.cls=.ref C/\(∃vs,oe.data=.fields vs/\vs[1]?=some .none)/\E (.ref e) s₁) E s) :
   wpAny M A (raiseStmt env (some x) none) Q E s:=by
 have hcB:(qh C::bm).contains (.type "BaseException")=true:=by rw[Qi,hbase,abq]
 unfold raiseStmt;refine wpAny_bind (wpAny_mono h (λv s₁ h₁=>?_) λ_ _ x=>x);let⟨e,oe,rfl,hC,he,hcl,⟨vs,hdt,v1⟩,hE⟩:=h₁;let⟨hp,g,d,tk,os⟩:=s₁;let⟨oc,od,odt,osl⟩:=oe;dsimp only at hcl hdt;subst hcl;subst hdt;repeat (first | with_reducible refine wpAny_loadPart_at he ?_ | with_reducible refine wpAny_loadPart_at hC ?_ | (with_reducible refine wpAny_isSubtype_exc hC ?_;rw[hcB]) | wp_step)
 rw[v1];refine wpAny_pure ?_;exact wpAny_pure (wpAny_raiseNew_none hh hE)
def IY {env:Env}{s:Shared}(F:ExcBaseFacts B newId initId bmB)(T:Hs bmB bm){fI:Addr}{oI:Obj}{x:Str}{np cpos pos:Pos}{args:zx}{Q:Flow->Shared->Prop}
   (hbase:bm.contains (.type "BaseException")=true) (hh:A.handled=none) (hplain:(backTo cpos (starEach args env)).any (·.1)=false)
   (h:wpAny (model prog w) A (eval (.Name x np) env) (λf s₁=>f=.ref C/\wpAny (model prog w) A (evalArgs (.ref C) true (backTo cpos (starEach args env)) [])
     (λa s₂=>a.kw=[]/\a.pos.length<=sizeLine/\s₂.heap.get? C=some (excClassObj nm q C N bs bm hdct sn sub ab col dd k0 k1 k2 k3 k5 newId)/\Al s₂.heap bmB "__init__" (some (.ref fI)) (.ref C::bm)/\s₂.heap.get? fI=some oI/\oI.cls=.type "function" ∧
       ∀h' e,adX s₂.heap h' e (.ref C) a.pos->s₂.heap.objs.size<=e->wpAny (model prog w) (A.under (.builtin "type.__call__" ⟨.ref C::a.pos,[]⟩)) (call (.ref fI) (.ref e::a.pos))
         (λr s₃=>r=.none/\s₃.heap.get? C=some (excClassObj nm q C N bs bm hdct sn sub ab col dd k0 k1 k2 k3 k5 newId)/\(∃oe,s₃.heap.get? e=some oe/\oe.cls=.ref C/\∃vs,oe.data=.fields vs/\vs[1]?=some .none)/\E (.ref e) s₃) E { s₂ with heap:=h' }) E s₁) E s) :
   wpAny (model prog w) A (exec (.Raise (some (.Call (.Name x np) args [] cpos)) none pos) env) Q E s:=by
 rw[arm_exec_Raise]
 first
   | refine wpAny_bind (wpAny_standAt (raise_stmt (C:=C) (nm:=nm) (q:=q) (N:=N) (bs:=bs) (bm:=bm) (hdct:=hdct) (sn:=sn) (sub:=sub) (ab:=ab) (col:=col) (dd:=dd) (k0:=k0) (k1:=k1) (k2:=k2) (k3:=k3) (k5:=k5) (newId:=newId) hbase hh (wpAny_bind (wpAny_mono (wpAny_Call_ofName (wpAny_mono h (λf s₁ h₁=>?_) λ_ _ x=>x)) (λv s₃ h₃=>wpAny_bind (wpAny_standAt (wpAny_pure h₃))) λ_ _ x=>x))))
   | (simp only [evalOpt,aeS];refine wpAny_bind (wpAny_standAt (raise_stmt (C:=C) (nm:=nm) (q:=q) (N:=N) (bs:=bs) (bm:=bm) (hdct:=hdct) (sn:=sn) (sub:=sub) (ab:=ab) (col:=col) (dd:=dd) (k0:=k0) (k1:=k1) (k2:=k2) (k3:=k3) (k5:=k5) (newId:=newId) hbase hh (wpAny_bind (wpAny_mono (wpAny_Call_ofName (wpAny_mono h (λf s₁ h₁=>?_) λ_ _ x=>x)) (λv s₃ h₃=>wpAny_bind (wpAny_standAt (wpAny_pure h₃))) λ_ _ x=>x)))))
 let⟨rfl,h₁⟩:=h₁;unfold callWith;refine wpAny_bind (wpAny_holding (wpAny_mono h₁ (λa s₂ h₂=>wpAny_bind (wpAny_standAt ?_)) λ_ _ x=>x));let⟨apos,akw⟩:=a;let⟨hkw,hlen,hC,hi,hfI,hfc,h₂⟩:=h₂;obtain rfl:akw=[]:=hkw;let⟨hp,g,d,tk,os⟩:=s₂;simp only [hplain];refine wpAny_bind (wpAny_keeperOf_exc hC ?_);refine wpAny_bind (Lr F T hC hi hfI hfc hlen λh' e hm hz=>wpAny_mono (h₂ h' e hm hz) (λr s₃ hr=>⟨hr.1,wpAny_bind (wpAny_holding (wpAny_point (wpAny_pure ?_)))⟩) λ_ _ x=>x);let⟨_,hC3,⟨oe,he,hcl,hv⟩,hE⟩:=hr;exact⟨e,oe,rfl,hC3,he,hcl,hv,hE⟩
end
def exM (a:Addr)(cls:Value)(dct:zo): HO:=.ext λh=>∃oe vs,h.get? a=some oe/\oe.cls=cls/\oe.dict=dct/\oe.data=.fields vs/\vs[1]?=some .none
def xdW (a:Addr)(fs:zw): HO:=.ext λh=>∃mA,h.Ns1 a mA/\(∀f,lu (fs.lookup f) (mA f))/\abI mA (fs.map (·.1))
def del (H:Hp)(a:Addr): Hp:=λb=>if b=a then none else H b
def Nt {H:Hp}{a:Addr}: del H a a=none:=if_pos rfl
def mX {H:Hp}{a b:Addr}(h:b≠a): del H a b=H b:=if_neg h
def Nu {H:Hp}{a b:Addr}{o:HO}(h:del H a b=some o): b≠a/\H b=some o:=by
 unfold del at h;by_cases q:b=a
 · rw[if_pos q] at h;cases h
 · rw[if_neg q] at h;exact⟨q,h⟩
def E8 {P:Program}{w:World}{H:Hp}{h:Heap}{a:Addr}{cls:Value}{dct:zo}{oe:Obj}{vs:zp}(e:h.get? a=some oe)(c:oe.cls=cls)(d:oe.dict=dct)(t:oe.data=.fields vs)(n:vs[1]?=some .none): gN P w H h a (exM a cls dct) :=
 ⟨⟨oe,vs,e,c,d,t,n⟩,⟨_,e⟩,λh1 h2 ⟨o',ws,q1,q2⟩ k=>⟨o',ws,k _ q1,q2⟩⟩
def Ux {fs:zj}{H1 H2:Hp}{h1 h2 h3:Heap}{e:Addr}{o:HO}(n:h1.get? e=none)(ne:H1 e=none)(k:∀b u,h1.get? b=some u->h2.get? b=some u)(u:Un fs [] (upd H1 e o) H2 h2 h3): Un fs [] H1 (del H2 e) h1 h3:=by
 have ap:∀b ob,h1.get? b=some ob->b≠e:=λb ob q z=>by rw[z,n] at q;cases q
 have tr:∀b u,H1 b=some u->b≠e:=λb u q=>aj q ne;refine⟨λb ob q m hb hx=>u.keep b ob (k _ _ q) (by rw[ak (ap b ob q)];exact m) hb hx,λb ob q m hb hx=>u.slot b ob (k _ _ q) (by rw[ak (ap b ob q)];exact m) hb hx,λb ob q m hx=>?_,λb ob q hx=>u.there b ob (k _ _ q) hx,λb xs q=>?_,λb ob v q=>?_,λb ps q=>?_⟩
 · rw[mX (ap b ob q)];exact u.free b ob (k _ _ q) (by rw[ak (ap b ob q)];exact m) hx
 · rw[mX (tr _ _ q)];exact u.tups b xs (by rw[ak (tr _ _ q)];exact q)
 · rw[mX (tr _ _ q)];exact u.uM b ob v (by rw[ak (tr _ _ q)];exact q)
 · rw[mX (tr _ _ q)];exact u.vH b ps (by rw[ak (tr _ _ q)];exact q)
def Rb {P:Program}{w:World}{H:Hp}{h:Heap}{e:Addr}{cls:Value}{dct:zo}(x:HOk P w H h)(he:H e=some (exM e cls dct)): HOk P w (del H e) h:=λb u q=>by
 let⟨q1,q2⟩:=Nu q;refine(x b u q2).stay (λ_ _ _ z=>z) (λc z=>?_) λc xs z=>?_
 · rw[mX λy=>by rw[y,he] at z;cases z];exact z
 · rw[mX λy=>by rw[y,he] at z;cases z];exact z
def yG (K:qv)(C fI:Addr): Prop:=∃bm N nm qn bs hdct sn sub ab col dd k0 k1 k2 k3 k5,K.lookup C=some (excClassObj nm qn C N bs bm hdct sn sub ab col dd k0 k1 k2 k3 k5 "ValueError.__new__")/\Hs bmV bm ∧
 (∀h:Heap,K.In h->Al h bmV "__init__" (some (.ref fI)) (.ref C::bm))/\∃oI,K.lookup fI=some oI/\oI.cls=.type "function"
def Ke (C:Addr)(sp:Sp)(Zz:zu)(E:zV)(t:TA): TS:=λ_ σ H=>t σ H λvs H1=>vs.length<=sizeLine/\∀e,H1 e=none ->
 sp (.ref e::(vs++Zz)) (upd H1 e (exM e (.ref C) none)) (λv H2=>v=.non/\∃dct,H2 e=some (exM e (.ref C) dct)/\E σ (.ref C) dct (del H2 e)) (λ_ _ _=>False)
section
variable {X:Cx}{E:zV}{x:Str}{C f:Addr}{e₀:Expr}{es:zx}{t:TA}{np cpos pos:Pos}{k:Nat}{fd:FuncData}{ps:zq}{sp:Sp}{Zz:zu}{ds:zi}
def Ls (hC:yG X.K C f) (F:lw X.prog X.w X.K X.mg X.base (CXE X.prog X.w) k f fd ps sp) (hr:iH (k+1) X.A) (hb:Binds X.K fd ps ds) (hd:Vals Zz ds) (hc:X.calm=true) (hg:Gl X x) (hm:X.mg x=some (.ref C)) (hx:fX (CXE X.prog X.w) X E) (ha:PA X (e₀::es) t) (hdb:(x==("__debug__" : Str))=false:=by decide)
   (he:starEach (e₀::es) X.env=(false,eval e₀ X.env)::starEach es X.env:=by rfl) (hpl:(backTo cpos (starEach es X.env)).any (·.1)=false:=by rfl) :
   PS X (.Raise (some (.Call (.Name x np) (e₀::es) [] cpos)) none pos) (Ke C sp Zz E t):=by
 intro zk s σ H D I h;let⟨bm,N,nm,qn,bs,hdct,sn,sub,ab,col,dd,k0,k1,k2,k3,k5,f4,f3,f2,oI,f5,f6⟩:=hC;refine IY (C:=C) (nm:=nm) (q:=qn) (N:=N) (bs:=bs) (bm:=bm) (hdct:=hdct) (sn:=sn) (sub:=sub) (ab:=ab) (col:=col) (dd:=dd) (k0:=k0) (k1:=k1) (k2:=k2) (k3:=k3) (k5:=k5) (fI:=f) (oI:=oI)
   Qc f3 (f3.has Qc.hasBase) (I.ok.hd hc) ?_ (lO I hg hm ⟨rfl,?_⟩ hdb)
 · rw[he]
   show (false || (backTo cpos (starEach es X.env)).any (·.1))=false;rw[hpl];rfl
 · have ha':=ha cpos zk s σ H _ I h
   rw[he] at ha' ⊢;refine Qx (ZQ ha' λus s2 q=>?_);let⟨vs,H1,I1,r,z,q⟩:=q;refine⟨rfl,by rw[<-r.length];exact z,I1.kIn _ _ f4,f2 _ I1.kIn,I1.kIn _ _ f5,f6,λh' e hmade hz=>?_⟩;let⟨tp,q1,_,_⟩:=hmade.there;have hne:H1 e=none:=Ba I1 hmade.new;have I2:ZZ X zk σ (upd H1 e (exM e (.ref C) none)) { s2 with heap:=h' }:=I1.laid hmade.keeps hz (E8 q1 rfl rfl rfl rfl);have hq:=q e hne;have r2:Vals (V.ref e::(vs++Zz)) (qh e::(us++ds)):=.cons rfl (r.append hd);have hl:(qh e::us++ds).length=ps.length:=by
     have e:=r2.length;rw[F.len _ _ _ _ hq] at e;exact e.symm
   refine wpAny_call (codeAny_mono (F.run _ X.stack _ _ ⟨qh e::us,[]⟩ (qh e::(us++ds)) _ _ _ (hr.make C us []) (I2.env0.make C us []) (hb _ (qh e::us) I2.kIn hl) r2 hq) λr s' hq'=>?_);cases r with
   | error e' =>
     let⟨_,_,_,_,_,_,_,_,_,_,z⟩:=hq';exact z.elim
   | ok fl =>
     cases fl with
     | ret u =>
       have I3:=I2.after hq';let⟨v,H',os',bare,un,hok,rv,ev,dct,hx',qE⟩:=hq';subst ev;let⟨oe,vs',g1,g2,g3,g4,g5⟩:=(hok e _ hx').1;let⟨_,H'',I3',_,_,_,_,_⟩:=I3;refine⟨rv,I3'.kIn _ _ f4,⟨oe,g1,g2,vs',g4,g5⟩,?_⟩;exact hx zk σ H1 s2 (.ref e) s' I1 ⟨e,.ref C,dct,del H' e,rfl,os',bare,Ux hmade.new hne hmade.keeps un,Rb hok hx',⟨.none,⟨oe,vs',g1,g2,g3,g4,g5,.inl rfl⟩,Nt,hmade.new,λT z=>nomatch z⟩,qE⟩
     | next=>exact Qp hq'
     | brk=>exact Qp hq'
     | cont=>exact Qp hq'
end
open Builtin Builtin.ObjectAttr
section
variable {prog:Program}{w:World}{A:Around}{E:ze}{h:Heap}{g:zR}{d:Drawn}{t:Nat}{os:OsState}
variable {nm q:Str}{C N x:Addr}{bs bm bmB:zi}{sn:zq}{sub:zi}{ab:Bool}{col:Zb}{dd:zo}{k0 k1 k2 k3 k5:zF}{B newId sa owner:String}{mA:zf}{name:Str}{v:Value}{o:Obj}
def Nv {M:Model}{nameV:Value}{Q:zg}(SF:StoreFacts B bmB sa owner)(T:Hs bmB bm)
   (hC:h.get? C=some (excClassObj nm q C N bs bm true sn sub ab col dd k0 k1 k2 k3 k5 newId)) (hx:h.get? x=some o) (hc:o.cls=.ref C) (hq:Q () ⟨h,g,d,t,os⟩) :
   wpAny M A (checkBuiltinCall sa ⟨[.ref x,nameV,v],[]⟩) Q E ⟨h,g,d,t,os⟩:=by
 have hcB:(qh C::bm).contains (.type owner)=true:=by rw[Qi,T.has SF.hasOwner,abq]
 have ha:=SF.args (.ref x) nameV v;simp only [checkBuiltinCall,SF.kind,SF.split];refine wpAny_bind ?_
 · unfold isInstance
   repeat (first | (with_reducible refine wpAny_loadPart_at hx ?_;rw[hc]) | (with_reducible refine wpAny_isSubtype_exc hC ?_;rw[hcB]) | wp_step)
   cases hsig:Manifest.signature? sa with
   | none=>exact wpAny_pure hq
   | some sig =>
     simp only [argsOk,hsig] at ha;have h2:Bind.checkArgs sa sig ⟨[.ref x,nameV,v],[]⟩=pure ():=ha;show wpAny M A (Bind.checkArgs sa sig ⟨[.ref x,nameV,v],[]⟩) Q E _;rw[h2];exact wpAny_pure hq
def Nw {tk:Tok} {Q:z9} (hp:∀self:Value,refuseLoop self "__setattr__" bm=pure ())
   (hC:h.get? C=some (excClassObj nm q C N bs bm true sn sub ab col dd k0 k1 k2 k3 k5 newId)) (hL:Al h bmB name none (.ref C::bm)) (hx:h.get? x=some o) (hc:o.cls=.ref C) (hnc:∀c,o.data≠.cls c) (hdn:o.dict=none)
   (hq:∀h' tk',h'.get? x=some { o with dict:=some h.objs.size }->h'.Ns1 h.objs.size (λy=>if y=name then some v else none)->(∀b ob,b≠x->h.get? b=some ob->h'.get? b=some ob)->Q (.done (.ret .none)) ⟨h',g,d,tk',os⟩) :
   wpAny (model prog w) A (Builtin.«object.__setattr__» ⟨[.ref x,.str name tk,v],[]⟩) Q E ⟨h,g,d,t,os⟩:=by
 have hpass:=hp (.ref x);unfold Builtin.«object.__setattr__»;repeat (first | rw[refuse_eq] | (rw[refuseLoop_ref,hpass]) | (with_reducible refine wpAny_loadPart_at hx ?_;rw[hc]) | with_reducible refine wpAny_mroOf_exc hC ?_ | (with_reducible refine Al.look hC hL ?_) | wp_step)
 rw[hdn,if_neg (by simp[typeHasDict])];split
 · rename_i hcd
   cases hcd
 split
 · rename_i c hcd
   exact absurd hcd (hnc c)
 · have hx₁:(h.push { cls:=.type "dict",data:=.dict #[] }).get? x=some o:=qb _ hx
   have hxs:x≠h.objs.size:=qH (qj hx);refine wpAny_bind (wpAny_alloc' ?_);refine wpAny_bind (wpAny_update' hx₁ ?_);refine wpAny_pure ?_;have hgd:((h.push { cls:=.type "dict",data:=.dict #[] }).update x λo=>{ cls:=o.cls,dict:=some h.objs.size,data:=o.data,slots:=o.slots }).get? h.objs.size
       = some { cls:=.type "dict",data:=.dict #[] } :=
     (aef _ _ _ _ hxs.symm).trans (Heap.get?_push_at rfl rfl)
   have hnd:((h.push { cls:=.type "dict",data:=.dict #[] }).update x λo=>{ cls:=o.cls,dict:=some h.objs.size,data:=o.data,slots:=o.slots }).Ns h.objs.size (λ_=>none) :=
     ⟨_,#[],_,hgd,rfl,λe he=>absurd he (by simp),λ_=>rfl⟩
   show wpAny _ _ (storeInDict h.objs.size (.str name tk) name v) _ _ _;unfold storeInDict newKeyGuard;refine wpAny_bind (wpAny_pure (wpAny_bind (wpAny_nsSet1 (aeA hnd) λh' hn' hs=>?_)));let⟨oD,esD,epD,hoD,hdD,hcD⟩:=hn'.count (acQ name v PySem.Within.nil);refine wpAny_bind (wpAny_lookBehind hoD (by rw[hdD];exact pastItsLine_dict (Qh hcD (by rw[qJ,abE,sizeLine_eq];lia))) ?_)
   wp_walk
   refine hq h' _ ?_ hn' (λb ob hbx hb=>?_)
   · refine(hs.2 x hxs).trans (qC _ hx₁ ?_)
     have hfr:=(Heap.get?_some_iff.mp hx).2;let⟨oc,od,odt,osl⟩:=o;cases odt<;>first | rfl | exact hfr
   · exact(hs.2 b (qH (qj hb))).trans ((aef _ _ _ _ hbx).trans (qb _ hb))
def Nx {tk:Tok} {Q:z9} {dx:Addr} {ns:zq} (hp:∀self:Value,refuseLoop self "__setattr__" bm=pure ())
   (hC:h.get? C=some (excClassObj nm q C N bs bm true sn sub ab col dd k0 k1 k2 k3 k5 newId)) (hL:Al h bmB name none (.ref C::bm)) (hx:h.get? x=some o) (hc:o.cls=.ref C) (hdx:o.dict=some dx) (hns:h.Ns1 dx mA)
   (hw:abI mA ns) (hsz:ns.length<=sizeLine)
   (hq:∀h' tk',h'.Ns1 dx (λy=>if y=name then some v else mA y)->(∀b ob,b≠dx->h.get? b=some ob->h'.get? b=some ob)->Q (.done (.ret .none)) ⟨h',g,d,tk',os⟩) :
   wpAny (model prog w) A (Builtin.«object.__setattr__» ⟨[.ref x,.str name tk,v],[]⟩) Q E ⟨h,g,d,t,os⟩:=by
 have hpass:=hp (.ref x);unfold Builtin.«object.__setattr__»;repeat (first | rw[refuse_eq] | (rw[refuseLoop_ref,hpass]) | (with_reducible refine wpAny_loadPart_at hx ?_;rw[hc]) | with_reducible refine wpAny_mroOf_exc hC ?_ | (with_reducible refine Al.look hC hL ?_) | wp_step)
 rw[hdx];refine wpAny_pure ?_;show wpAny _ _ (storeInDict dx (.str name tk) name v) _ _ _;unfold storeInDict newKeyGuard;refine wpAny_bind (wpAny_pure (wpAny_bind (wpAny_nsSet1 hns λh' hn' hs=>?_)));let⟨oD,esD,epD,hoD,hdD,hcD⟩:=hn'.count (acQ name v hw);refine wpAny_bind (wpAny_lookBehind hoD (by rw[hdD];exact pastItsLine_dict (Qh hcD (by rw[qJ];lia))) ?_)
 wp_walk
 exact hq h' _ hn' λb ob hbd hb=>(hs.2 b hbd).trans hb
def Kf {Q:zg}(SF:StoreFacts B bmB sa owner)(T:Hs bmB bm)
   (hC:h.get? C=some (excClassObj nm q C N bs bm true sn sub ab col dd k0 k1 k2 k3 k5 newId)) (hS:Al h bmB "__setattr__" (some (.builtin sa)) (.ref C::bm)) (hx:h.get? x=some o) (hc:o.cls=.ref C)
   (hq:∀(tk:Tok) (t':Nat) (A':Around),wpAny (model prog w) A' (Builtin.«object.__setattr__» ⟨[.ref x,.str name tk,v],[]⟩) (λr s'=>r=.done (.ret .none)/\Q () s') (λ_ _=>False) ⟨h,g,d,t',os⟩) :
   wpAny (model prog w) A (setAttr (.ref x) name v) Q E ⟨h,g,d,t,os⟩:=by
 have f3:=SF.slot.bind (.ref x);unfold setAttr callSpecial? specialOf;repeat (any_goals (first | assumption | (with_reducible refine wpAny_loadPart_at hx ?_;rw[hc]) | (with_reducible refine Al.look hC hS ?_) | wp_step))
 refine codeAny_call_builtin SF.slot.plain SF.entry (Nv SF T hC hx hc ?_);refine wpAny_mono (hq _ _ _) (λr s' hr=>?_) λ_ _ z=>z.elim;let⟨rfl,hr⟩:=hr;repeat (any_goals (first | assumption | wp_step))
end
def sf (K:qv)(C:Addr)(f:Str): Prop:=∃bm N nm qn bs sn sub ab col dd k0 k1 k2 k3 k5 nid,K.lookup C=some (excClassObj nm qn C N bs bm true sn sub ab col dd k0 k1 k2 k3 k5 nid)/\Hs bmV bm ∧
 (∀self:Value,refuseLoop self "__setattr__" bm=pure ())/\(∀h:Heap,K.In h->Al h bmV "__setattr__" (some (.builtin "object.__setattr__")) (.ref C::bm))/\∀h:Heap,K.In h->Al h bmV f none (.ref C::bm)
def Ny {P:Program}{w:World}{H:Hp}{h:Heap}{d:Addr}{fs:zw}{mA:zf}(n:h.Ns1 d mA)(r:∀f,lu (fs.lookup f) (mA f))(wi:abI mA (fs.map (·.1))): gN P w H h d (xdW d fs):=by
 let⟨od,es,ep,e,c⟩:=id n;exact⟨⟨mA,n,r,wi⟩,⟨_,e⟩,λh1 h2 ⟨m,⟨od,es,ep,e,c⟩,q⟩ k=>⟨m,⟨od,es,ep,k _ e,c⟩,q⟩⟩
section
variable {X:Cx}{zk:zh}{σ:St}{H:Hp}{s:Shared}{a d C:Addr}{f:Str}{A:Around}{E:ze}
def ZZ.two {o1 o2:HO}{φ:Heap->Prop}{s':Shared}(I:ZZ X zk σ H s)(ha:H a=some (.ext φ))(hd:(H d=none/\s.heap.get? d=none)\/∃ψ,H d=some (.ext ψ))(ne:d≠a)(hos:s'.os=s.os)(hg:s'.gens=s.gens)
   (kp:∀b ob,b≠a->b≠d->s.heap.get? b=some ob->s'.heap.get? b=some ob) (ka:∃o,s'.heap.get? a=some o) (kd:∃o,s'.heap.get? d=some o)
   (n1:gN X.prog X.w (upd (upd H d o1) a o2) s'.heap d o1) (n2:gN X.prog X.w (upd (upd H d o1) a o2) s'.heap a o2):ZZ X zk σ (upd (upd H d o1) a o2) s':=by
 have off:∀b ob,s.heap.get? b=some ob->H b=none->b≠a/\b≠d:=λb ob e n=>⟨λz=>(by rw[z,ha] at n;cases n),λz=>by
   rcases hd with ⟨_,q⟩ | ⟨ψ,q⟩
   · rw[z,q] at e;cases e
   · rw[z,q] at n;cases n⟩
 have tr:∀b u,H b=some u->(∀ψ,u≠.ext ψ)->b≠a/\b≠d:=λb u e n=>⟨λz=>(by rw[z,ha] at e;cases e;exact n _ rfl),λz=>by
   rcases hd with ⟨q,_⟩ | ⟨ψ,q⟩
   · rw[z,q] at e;cases e
   · rw[z,q] at e;cases e;exact n _ rfl⟩
 have up:∀b,b≠a/\b≠d->upd (upd H d o1) a o2 b=H b:=λb n=>by rw[ak n.1,ak n.2]
 refine I.call' (ch:=[]) hos ⟨λb ob e n _ _=>kp b ob (off b ob e n).1 (off b ob e n).2 e,λb ob e n _ _=>⟨ob.slots,kp b ob (off b ob e n).1 (off b ob e n).2 e⟩,λb ob e n _=>?_,λb ob e _=>?_,λb xs e=>?_,λb ob u e=>?_,λb ps e=>⟨#[],?_⟩⟩ (λb u e=>?_) (by rw[hg];exact I.bare) λb z=>absurd z (by simp)
 · rw[up b (off b ob e n)];exact n
 · by_cases za:b=a
   · rw[za];exact ka
   · by_cases zd:b=d
     · rw[zd];exact kd
     · exact⟨ob,kp b ob za zd e⟩
 · rw[up b (tr _ _ e (by intro ψ z;cases z))];exact e
 · rw[up b (tr _ _ e (by intro ψ z;cases z))];exact e
 · rw[up b (tr _ _ e (by intro ψ z;cases z)),e];simp
 · by_cases za:b=a
   · subst za
     rw[ah] at e;cases e;exact n2
   · rw[ak za] at e
     by_cases zd:b=d
     · subst zd
       rw[ah] at e;cases e;exact n1
     · rw[ak zd] at e
       refine(I.hok b u e).stay (λc v hc q=>?_) (λc q=>?_) λc xs q=>?_
       · rcases hc with rfl | hc
         · exact kp _ _ za zd q
         · have n:=tr c _ hc (by intro ψ z;cases z)
           exact kp _ _ n.1 n.2 q
       · rw[up c (tr _ _ q (by intro ψ z;cases z))];exact q
       · rw[up c (tr _ _ q (by intro ψ z;cases z))];exact q
def Wj {y:V}{u:Value}{Q:zg}(I:ZZ X zk σ H s)(e:H a=some (exM a (.ref C) none))(c:sf X.K C f)(ry:ZX y u)
   (h:∀d s',H d=none->d≠a->ZZ X zk σ (upd (upd H d (xdW d [(f,y)])) a (exM a (.ref C) (some d))) s'->Q () s'):wpAny (model X.prog X.w) A (setAttr (.ref a) f u) Q E s:=by
 let⟨bm,N,nm,qn,bs,sn,sub,ab,col,dd,k0,k1,k2,k3,k5,nid,c1,c2,c3,c4,c5⟩:=c;let⟨oe,vs,g1,g2,g3,g4,g5⟩:=(I.hok a _ e).1;have kin:=I.kIn;have I0:=I;let⟨hp,g,dr,tk,os⟩:=s;refine Kf abA c2 (kin _ _ c1) (c4 _ kin) g1 g2 λtk t' A'=>Nw c3 (kin _ _ c1) (c5 _ kin) g1 g2 (λz=>by rw[g4];intro q;cases q) g3 λh' tk' q1 q2 q3=>⟨rfl,?_⟩;have hd:H hp.objs.size=none:=I0.hok.fresh (qe _);have na:hp.objs.size≠a:=λz=>by rw[z,e] at hd;cases hd
 refine h _ _ hd na (ZZ.two I0 e (.inl ⟨hd,QL (qe _)⟩) na rfl rfl (λb ob n1 _ q=>q3 b ob n1 q) ⟨_,q1⟩ (by let⟨o,_,_,e',_⟩:=q2;exact ⟨o,e'⟩) (Ny q2 (λg=>?_) λg hg=>?_) (E8 q1 g2 rfl g4 g5))
 · show lu (QN g [(f,y)]) (if g=f then some u else none)
   by_cases z:g=f
   · rw[if_pos z,z];simp only [QN,beq_self_eq_true];exact ry
   · rw[if_neg z]
     have:(g==f)=false:=by simpa using z
     simp only [QN,this];exact QU
 · by_cases z:g=f
   · rw[z];exact .head _
   · exact absurd (if_neg z) hg
def Wk {y:V}{u:Value}{fs:zw}{Q:zg}(I:ZZ X zk σ H s)(e:H a=some (exM a (.ref C) (some d)))(ed:H d=some (xdW d fs))(ne:d≠a)(c:sf X.K C f)(hl:fs.length < 1000)(ry:ZX y u)
   (h:∀s',ZZ X zk σ (upd (upd H d (xdW d (jT f y fs))) a (exM a (.ref C) (some d))) s'->Q () s'):wpAny (model X.prog X.w) A (setAttr (.ref a) f u) Q E s:=by
 let⟨bm,N,nm,qn,bs,sn,sub,ab,col,dd,k0,k1,k2,k3,k5,nid,c1,c2,c3,c4,c5⟩:=c;let⟨oe,vs,g1,g2,g3,g4,g5⟩:=(I.hok a _ e).1;let⟨mA,n1,r,wi⟩:=(I.hok d _ ed).1;have kin:=I.kIn;have I0:=I;let⟨hp,g,dr,tk,os⟩:=s;have hz:(fs.map (·.1)).length<=sizeLine:=by rw[qa,sizeLine_eq];lia
 refine Kf abA c2 (kin _ _ c1) (c4 _ kin) g1 g2 λtk t' A'=>Nx c3 (kin _ _ c1) (c5 _ kin) g1 g2 g3 n1 wi hz λh' tk' q2 q3=>⟨rfl,?_⟩;refine h _ (ZZ.two I0 e (.inr ⟨_,ed⟩) ne rfl rfl (λb ob _ n2 q=>q3 b ob n2 q) ⟨_,q3 _ _ (qX ne) g1⟩ (by let⟨o,_,_,e',_⟩:=q2;exact ⟨o,e'⟩) (Ny q2 (λg=>?_) λg hg=>?_) (E8 (q3 _ _ (qX ne) g1) g2 g3 g4 g5))
 · show lu ((jT f y fs).lookup g) (if g=f then some u else mA g)
   rw[sB];by_cases q:g=f
   · rw[if_pos q,if_pos q];exact ry
   · rw[if_neg q,if_neg q];exact r g
 · by_cases q:g=f
   · rw[q];exact(oW f y fs).1
   · refine(oW f y fs).2 g (wi g λz=>hg ?_)
     show (if g=f then some u else mA g)=none;rw[if_neg q];exact z
end
def Uy (K:qv)(ta tv:TE)(f:Str): TS:=λD σ H=>tv σ H λy H1=>ta σ H1 λx H2=>∃a C,x=.ref a/\H2 a=some (exM a (.ref C) none)/\sf K C f ∧
 ∀d,H2 d=none->d≠a->D.nx σ (upd (upd H2 d (xdW d [(f,y)])) a (exM a (.ref C) (some d)))
def Uz (K:qv)(ta tv:TE)(f:Str): TS:=λD σ H=>tv σ H λy H1=>ta σ H1 λx H2=>∃a C d fs,x=.ref a/\H2 a=some (exM a (.ref C) (some d))/\H2 d=some (xdW d fs)/\d≠a/\sf K C f/\fs.length < 1000 ∧
 D.nx σ (upd (upd H2 d (xdW d (jT f y fs))) a (exM a (.ref C) (some d)))
section
variable {X:Cx}{o value:Expr}{f:Str}{pos pos':Pos}{ta tv:TE}
def GV (ha:PE X o ta)(hv:PE X value tv)(hs:swapsWith value (some (.Attribute o f pos')) pos.line X.env=pure false): PS X (.Assign [.Attribute o f pos'] value pos) (Uy X.K ta tv f):=by
 intro zk s σ H D I h;refine plainObj_wpAny_Assign_Attribute (ZQ (hv zk s σ H _ I h) λu s1 ⟨y,H1,I1,ry,q⟩=>ZQ (ha zk s1 σ H1 _ I1 q) λov s2 hz_=>?_) hs;let⟨x,H2,I2,rx,a,C,ex,ea,c,q2⟩:=hz_;subst ex;obtain rfl:ov=qh a:=rx;exact Wj I2 ea c ry λd s3 n1 n2 I3=>⟨σ,_,I3,q2 d n1 n2⟩
def GW (ha:PE X o ta)(hv:PE X value tv)(hs:swapsWith value (some (.Attribute o f pos')) pos.line X.env=pure false): PS X (.Assign [.Attribute o f pos'] value pos) (Uz X.K ta tv f):=by
 intro zk s σ H D I h;refine plainObj_wpAny_Assign_Attribute (ZQ (hv zk s σ H _ I h) λu s1 ⟨y,H1,I1,ry,q⟩=>ZQ (ha zk s1 σ H1 _ I1 q) λov s2 hz_=>?_) hs;let⟨x,H2,I2,rx,a,C,d,fs,ex,ea,ed,ne,c,l,q2⟩:=hz_;subst ex;obtain rfl:ov=qh a:=rx;exact Wk I2 ea ed ne c l ry λs3 I3=>⟨σ,_,I3,q2⟩
end
section
variable {prog:Program}{w:World}{A:Around}{E:ze}{h:Heap}{g:zR}{d:Drawn}{t:Nat}{os:OsState}{a dx:Addr}{o:Obj}{vs:zp}{v:Value}{name:Str}{mA:zf}
 {nm q:Str} {C N:Addr} {bs bm bmB:zi} {sn:zq} {sub:zi} {ab:Bool} {col:Zb} {dd:zo} {k0 k1 k2 k3 k5:zF} {B newId:String}
def Nz {M:Model} {nameV:Value} {Q:zg} (hC:h.get? C=some (excClassObj nm q C N bs bm true sn sub ab col dd k0 k1 k2 k3 k5 newId)) (hB:bm.contains (.type "BaseException")=true)
   (hx:h.get? a=some o) (hc:o.cls=.ref C) (hq:Q () ⟨h,g,d,t,os⟩):wpAny M A (checkBuiltinCall "BaseException.__getattribute__" ⟨[.ref a,nameV],[]⟩) Q E ⟨h,g,d,t,os⟩:=by
 have hk:builtinKind "BaseException.__getattribute__" = some .slot:=by exfalso
 have hsplit:splitId "BaseException.__getattribute__" = some ("BaseException","__getattribute__"):=by exfalso
 have hcB:(qh C::bm).contains (.type "BaseException")=true:=by rw[Qi,hB,abq]
 have ha:=adR (.ref a) nameV;simp only [checkBuiltinCall,hk,hsplit];refine wpAny_bind ?_
 · unfold isInstance
   repeat (first | (with_reducible refine wpAny_loadPart_at hx ?_;rw[hc]) | (with_reducible refine wpAny_isSubtype_exc hC ?_;rw[hcB]) | wp_step)
   exact hq
def NA {tk:Tok}{Q:z9}(hC:h.get? C=some (excClassObj nm q C N bs bm true sn sub ab col dd k0 k1 k2 k3 k5 newId))(hL:Al h bmB name none (.ref C::bm))
   (hx:h.get? a=some o) (hc:o.cls=.ref C) (hd:o.data=.fields vs) (hdx:o.dict=some dx) (hns:h.Ns1 dx mA) (hv:mA name=some v) (hq:Q (.done (.ret v)) ⟨h,g,d,t,os⟩) :
   wpAny (model prog w) A (Builtin.«object.__getattribute__» ⟨[.ref a,.str name tk],[]⟩) Q E ⟨h,g,d,t,os⟩:=by
 unfold Builtin.«object.__getattribute__»;repeat (first | (with_reducible refine wpAny_loadPart_at hx ?_;rw[hc]) | (with_reducible refine Al.look hC hL ?_) | wp_step)
 split
 · rename_i c hcd
   rw[hd] at hcd;cases hcd
 unfold instanceDict;repeat (first | (with_reducible refine wpAny_loadPart_at hx ?_;rw[hc]) | with_reducible refine wpAny_loadPart_at hC ?_ | wp_step)
 rw[hdx];repeat (first | (with_reducible refine wpAny_nsGet hns.ns ?_;rw[hv]) | wp_step)
 exact hq
def Wl {tk:Tok} {fill expr:Bool} {Q:ze} (FB:ExcAttrFacts B) (hC:h.get? C=some (excClassObj nm q C N bs bm true sn sub ab col dd k0 k1 k2 k3 k5 newId)) (hB:bm.contains (.type "BaseException")=true)
   (hG:Al h bmB "__getattribute__" (some (.builtin "BaseException.__getattribute__")) (.ref C::bm)) (hH:Al h bmB "__getattr__" none (.ref C::bm)) (hL:Al h bmB name none (.ref C::bm))
   (hx:h.get? a=some o) (hc:o.cls=.ref C) (hd:o.data=.fields vs) (hdx:o.dict=some dx) (hns:h.Ns1 dx mA) (hv:mA name=some v) (hh:handedOut v=pure v) (hq:Q v ⟨h,g,d,t,os⟩) :
   wpAny (model prog w) A (getAttrBy (.ref a) (.str name tk) fill expr) Q E ⟨h,g,d,t,os⟩:=by
 have f3:=FB.ga.bind (.ref a);have hx0:(expr&&onTheHeap (abZ "BaseException.__getattribute__"))=false:=by cases expr<;>rfl
 have hx2:(abZ "BaseException.__getattribute__" == abZ "object.__getattribute__")=false:=by exfalso
 have hx1:(onTheHeap (qh C)&&abZ "BaseException.__getattribute__" == abZ "object.__getattribute__")=false:=by rw[hx2];rfl
 unfold getAttrBy;repeat (any_goals (first | assumption | (with_reducible refine wpAny_loadPart_at hx ?_;rw[hc]) | with_reducible refine Al.look hC hG ?_ | with_reducible refine Al.look hC hH ?_ | wp_step))
 refine codeAny_call_builtin FB.ga.plain adH (Nz hC hB hx hc (NA hC hL hx hc hd hdx hns hv ?_));repeat (any_goals (first | assumption | wp_step))
def Rc {expr:Bool} {Q:ze} (FB:ExcAttrFacts B) (hC:h.get? C=some (excClassObj nm q C N bs bm true sn sub ab col dd k0 k1 k2 k3 k5 newId)) (hB:bm.contains (.type "BaseException")=true)
   (hG:Al h bmB "__getattribute__" (some (.builtin "BaseException.__getattribute__")) (.ref C::bm)) (hH:Al h bmB "__getattr__" none (.ref C::bm)) (hL:Al h bmB name none (.ref C::bm))
   (hx:h.get? a=some o) (hc:o.cls=.ref C) (hd:o.data=.fields vs) (hdx:o.dict=some dx) (hns:h.Ns1 dx mA) (hv:mA name=some v) (hh:handedOut v=pure v) (hq:Q v ⟨h,g,d,t+1,os⟩) :
   wpAny (model prog w) A (getAttr (.ref a) name expr) Q E ⟨h,g,d,t,os⟩:=by
 unfold getAttr;repeat (any_goals (first | assumption | with_reducible apply Wl FB hC hB hG hH hL hx hc hd hdx hns hv hh | wp_step))
end
def vX (K:qv)(C:Addr)(f:Str): Prop:=∃bm N nm qn bs sn sub ab col dd k0 k1 k2 k3 k5 nid,K.lookup C=some (excClassObj nm qn C N bs bm true sn sub ab col dd k0 k1 k2 k3 k5 nid)/\Hs bmV bm ∧
 (∀h:Heap,K.In h->Al h bmV "__getattribute__" (some (.builtin "BaseException.__getattribute__")) (.ref C::bm))/\(∀h:Heap,K.In h->Al h bmV "__getattr__" none (.ref C::bm))/\∀h:Heap,K.In h->Al h bmV f none (.ref C::bm)
def Wm (K:qv)(ta:TE)(f:Str): TE:=λσ H Q=>ta σ H λx H1=>∃a C d fs v,x=.ref a/\H1 a=some (exO a (.ref C) (some d))/\H1 d=some (xdW d fs)/\vX K C f/\fs.lookup f=some v/\Q v H1
section
variable {X:Cx}{e:Expr}{f:Str}{pos:Pos}{ta:TE}
def AQ (he:PE X e ta)(hb:attributeBase e f X.env (eval e X.env)=eval e X.env): PE X (.Attribute e f pos) (Wm X.K ta f):=by
 intro zk s σ H Q I h;refine JP hb (ZQ (he zk s σ H _ I h) λu s1 hz_=>?_);let⟨x,H1,I1,rx,a,C,d,fs,v,ex,ea,ed,c,l,q⟩:=hz_;walk_at "0j";let⟨bm,N,nm,qn,bs,sn,sub,ab,col,dd,k0,k1,k2,k3,k5,nid,c1,c2,c3,c4,c5⟩:=c;let⟨oe,vs,g1,g2,g3,g4⟩:=(I1.hok a _ ea).1;let⟨mA,n1,r,wi⟩:=(I1.hok d _ ed).1;let⟨u,hu,ru⟩:=lu.some_of (v:=v) (o:=mA f) (by rw[<-l];exact r f);have kin:=I1.kIn;have I2:=I1.tok (s1.toks+1);let⟨hp,g,dr,tk,os⟩:=s1;exact Rc abm (kin _ _ c1) (c2.has (by exfalso)) (c3 _ kin) (c4 _ kin) (c5 _ kin) g1 g2 g4 g3 n1 hu (W.handedOut_of (DY ru)) ⟨v,H1,I2,ru,q⟩
end
section
variable {A:Around}{E:ze}{h:Heap}{g:zR}{d:Drawn}{t:Nat}{os:OsState}
variable {nm q:Str}{C N:Addr}{bs bm bmB:zi}{hdct:Bool}{sn:zq}{sub:zi}{ab:Bool}{col:Zb}{dd:zo}{k0 k1 k2 k3 k5:zF}{B newId initId:String}
def IZ (F:ExcBaseFacts B newId initId bmB)(T:Hs bmB bm){M:Model}{e:Addr}{oe:Obj}{rest:zi}{Q:zg}
   (hC:h.get? C=some (excClassObj nm q C N bs bm hdct sn sub ab col dd k0 k1 k2 k3 k5 newId)) (he:h.get? e=some oe) (hcls:oe.cls=.ref C) (hq:Q () ⟨h,g,d,t,os⟩) :
   wpAny M A (checkBuiltinCall initId ⟨.ref e::rest,[]⟩) Q E ⟨h,g,d,t,os⟩:=by
 have hcB:(qh C::bm).contains (.type B)=true:=by rw[Qi,T.has F.hasB,abq]
 have hshort:=F.noStar;simp only [checkBuiltinCall,F.initKind,F.initSplit,F.initRow];repeat (first | (with_reducible refine wpAny_loadPart_at he ?_;rw[hcls]) | with_reducible refine wpAny_loadPart_at hC ?_ | (with_reducible refine wpAny_isSubtype_exc hC ?_;rw[hcB]) | wp_step)
 refine wpAny_onRaise ?_;rw[show ∀(a b:String) (n:Nat),Bind.check ⟨.positional,"*",B,.self,[⟨"args",.varPos,false⟩]⟩ a b n (List.map (λx=>x.fst) ({ pos:=qh e::rest }:Args).kw)=pure () from
   λa b n=>check_star_args _ _ _ _ _ _]
 exact wpAny_pure hq
end
def XO (K:qv)(C:Addr): Prop:=∃bm N nm qn bs hdct sn sub ab col dd k0 k1 k2 k3 k5,K.lookup C=some (excClassObj nm qn C N bs bm hdct sn sub ab col dd k0 k1 k2 k3 k5 "ValueError.__new__")/\Hs bmV bm
section
variable {X:Cx}
def I8:oV X (.builtin "ValueError.__init__") (λxs H Q=>∃a C dct rest,xs=V.ref a::rest/\H a=some (exM a (.ref C) dct)/\XO X.K C/\rest.length<=sizeLine/\Q .non (upd H a (exM a (.ref C) dct))):=by
 intro zk s σ H xs us Q I r h;let⟨a,C,dct,rest,rfl,ea,⟨bm,N,nm,qn,bs,hdct,sn,sub,ab,col,dd,k0,k1,k2,k3,k5,c1,c2⟩,z,q⟩:=h;let⟨w1,u1,rfl,a1,rv⟩:=Lk r;obtain rfl:w1=qh a:=a1;let⟨oe,vs,g1,g2,g3,g4,g5⟩:=(I.hok a _ ea).1;have kin:=I.kIn;have I0:=I;have z':u1.length<=sizeLine:=by rw[<-rv.length];exact z
 let⟨hp,g,dr,tk,os⟩:=s;refine wpAny_call (codeAny_call_builtin Qc.init.plain Qc.initEntry (IZ Qc c2 (kin _ _ c1) g1 g2 ?_));obtain⟨v0,h0⟩:∃v0,vs[0]?=some v0:=⟨_,abu (by have:=(qy.mp g5).1;lia)⟩;have g1':∀tp,(hp.push tp).get? a=some oe:=λtp=>qb _ g1;repeat (any_goals (first | assumption | with_reducible refine wpAny_field (g1' _) g4 h0 ?_ | with_reducible refine wpAny_setField (g1' _) g4 (by lia) ?_ | wp_step))
 have z0:0 < vs.size:=by have:=(qy.mp g5).1;lia
 rw[g4];dsimp only;rw[if_pos z0];refine wpAny_update' (g1' _) ?_;have lg:∀(Q':zg) (E':ze) (s':Shared),Q' () s'->wpAny (model X.prog X.w) X.A.in1 (match v0 with | qh a=>letGo [v0] | x=>pure ()) Q' E' s':=λQ' E' s' hq=>by
   cases v0<;>first | exact wpAny_letGo hq | exact wpAny_pure hq
 refine lg _ _ _ ?_;refine wpAny_pure ?_;show EP X zk σ Q .none _;have d3:=qL g4 (·.setIfInBounds 0 (qh hp.objs.size));have e3:=qC (qK (·.setIfInBounds 0 (qh hp.objs.size))) (g1' { cls:=.type "tuple",data:=.seq u1.toArray }) (qS d3);refine⟨.non,_,?_,rfl,q⟩;refine I0.write (x:=a) (e:=a) (by rw[ea];exact QU) (.inl rfl) (λb o nb e=>?_) ⟨_,e3⟩ (E8 e3 ((abL oe _).trans g2) ((xH oe _).trans g3) d3 ?_)
 · rw[qt _ _ (qX nb)]
   exact qb _ e
 · rw[Array.getElem?_setIfInBounds_ne (by decide)]
   exact g5
structure NB (K:qv)(C:Addr): Prop where
 sp:acU K (.ref C) "__getattribute__" = some (some (.builtin "type.__getattribute__"))
 fi:∃mc,W.readsIn K C mc=true/\W.findCls K (.ref C) mc "__init__" = some (.val (.builtin "ValueError.__init__"))
variable {C:Addr}{x:Str}{p pos apos:Pos}{e:Expr}{es:zx}{t:TA}
def GX {pl:zX}(hc:NB X.K C)(hg:Gl X x)(hm:X.mg x=some (.ref C))(ha:PA X (e::es) t)
   (hdb:(x==("__debug__" : Str))=false:=by decide)
   (hst:starEach (e::es) X.env=(false,eval e X.env)::starEach es X.env:=by rfl) (hpl:(backTo pos (starEach es X.env)).any (·.1)=false:=by rfl)
   (ht:eval (.Call (.Attribute (.Name x p) "__init__" apos) (e::es) [] pos) X.env=(do
     let ov <-eval (.Name x p) X.env
     standAt apos.atName
     let (f,first) <-holding [ov] (getMethod ov "__init__" pl)
     callWith pos f first (backTo pos (starEach (e::es) X.env)) (backToKw pos (keywordEach [] X.env))):=by rfl) :
   PE X (.Call (.Attribute (.Name x p) "__init__" apos) (e::es) [] pos) (tCB (λxs H Q=>∃a C dct rest,xs=V.ref a::rest/\H a=some (exM a (.ref C) dct)/\XO X.K C/\rest.length<=sizeLine/\Q .non (upd H a (exM a (.ref C) dct))) t):=by
 let⟨mc,h1,h2⟩:=hc.fi;intro zk s σ H Q I h;refine abF (pl:=pl) (lO I hg hm ?_ hdb) ht;refine W.method_cls I.kIn hc.sp (W.cls_value I.kIn h1 h2 rfl ?_);have I':ZZ X zk σ H { s with toks:=s.toks+1 }:=I.tok _;exact abU (ZQ (ha pos zk _ σ H _ I' h) λus s1 ⟨vs,H1,I1,r1,q1⟩=>I8 zk s1 σ H1 vs us Q I1 r1 q1) hst hpl
end
def I9:zi->Bool
 | []=>bmV==[]
 | v::r=>(v::r)==bmV || match v with
   | .ref _=>I9 r
   | _=>false
def vY:∀{l:zi},I9 l=true->Hs bmV l
 | [],e=>by rw[<-beq_iff_eq.mp e];exact λ_=>rfl
 | v::r,e=>by
   unfold I9 at e;rcases aeg.mp e with q | q
   · rw[beq_iff_eq.mp q];exact λ_=>rfl
   · split at q
     · intro X
       rw[Qi,vY q X];rfl
     · cases q
def Ek:∀{l:zi},I9 l=true->∀self:Value,refuseLoop self "__setattr__" l=pure ()
 | [],e=>by have:=beq_iff_eq.mp e;cases this
 | v::r,e=>by
   unfold I9 at e;rcases aeg.mp e with q | q
   · rw[beq_iff_eq.mp q];exact abA.passes
   · split at q
     · intro self
       rw[refuseLoop_ref];exact Ek q self
     · cases q
def XL (K:qv)(C:Addr): Prop:=∃bm N nm qn bs sn sub ab col dd k0 k1 k2 k3 k5,K.lookup C=some (excClassObj nm qn C N bs bm true sn sub ab col dd k0 k1 k2 k3 k5 "ValueError.__new__")/\I9 bm=true
section
variable {K:qv}{C f:Addr}{n:Str}
def yG.of (q:XL K C) (e:Qd K (.ref C) "__init__" = some (some (.ref f))) (hf:adx K (.ref f)=true):yG K C f:=by
 let⟨bm,N,nm,qn,bs,sn,sub,ab,col,dd,k0,k1,k2,k3,k5,lk,r⟩:=q;have hf:=beq_iff_eq.mp hf;let⟨o,ho,hc⟩:=qP.mp hf;exact⟨bm,N,nm,qn,bs,true,sn,sub,ab,col,dd,k0,k1,k2,k3,k5,lk,vY r,Ej e,o,ho,hc⟩
def sf.of (q:XL K C) (e1:Qd K (.ref C) "__setattr__" = some (some (.builtin "object.__setattr__"))) (e2:Qd K (.ref C) n=some none):sf K C n:=by
 let⟨bm,N,nm,qn,bs,sn,sub,ab,col,dd,k0,k1,k2,k3,k5,lk,r⟩:=q;exact⟨bm,N,nm,qn,bs,sn,sub,ab,col,dd,k0,k1,k2,k3,k5,_,lk,vY r,Ek r,Ej e1,Ej e2⟩
def vX.of (q:XL K C) (e1:Qd K (.ref C) "__getattribute__" = some (some (.builtin "BaseException.__getattribute__"))) (e2:Qd K (.ref C) "__getattr__" = some none) (e3:Qd K (.ref C) n=some none):vX K C n:=by
 let⟨bm,N,nm,qn,bs,sn,sub,ab,col,dd,k0,k1,k2,k3,k5,lk,r⟩:=q;exact⟨bm,N,nm,qn,bs,sn,sub,ab,col,dd,k0,k1,k2,k3,k5,_,lk,vY r,Ej e1,Ej e2,Ej e3⟩
def XO.of (q:XL K C): XO K C:=by
 let⟨bm,N,nm,qn,bs,sn,sub,ab,col,dd,k0,k1,k2,k3,k5,lk,r⟩:=q;exact⟨bm,N,nm,qn,bs,true,sn,sub,ab,col,dd,k0,k1,k2,k3,k5,lk,vY r⟩
end
def El (P:Program)(w:World)(K:qv)(mg:zf)(base:Heap)(C:Addr)(k:Nat)(ps:zq)(sp:Sp)(Zz:zu): Prop :=
 ∃f fd ds,lw P w K mg base (CXE P w) k f fd ps sp/\yG K C f/\Binds K fd ps ds/\Vals Zz ds
section
variable {P:Program}{w:World}{K:qv}{mg:zf}{base:Heap}{C:Addr}{qual:Str}{st:Stmt}{N ps:zq}{Zz:zu}{k:Nat}{sp:Sp}
end
section
variable {X:Cx}{E:zV}{x:Str}{C:Addr}{e₀:Expr}{es:zx}{t:TA}{np cpos pos:Pos}{k:Nat}{ps:zq}{sp:Sp}{Zz:zu}
def NC {P:Program}{w:World}{K:qv}{mg:zf}{base:Heap}{f:Addr}{fd:FuncData}{ds:zi}(F:lw P w K mg base (CXE P w) k f fd ps sp)(h:yG K C f)(hb:Binds K fd ps ds)(hd:Vals Zz ds): El P w K mg base C k ps sp Zz:=⟨f,fd,ds,F,h,hb,hd⟩
def tV (h:El X.prog X.w X.K X.mg X.base C k ps sp Zz) (hr:iH (k+1) X.A) (hc:X.calm=true) (hg:Gl X x) (hm:X.mg x=some (.ref C)) (hx:fX (CXE X.prog X.w) X E) (ha:PA X (e₀::es) t) (hdb:(x==("__debug__" : Str))=false:=by decide)
   (he:starEach (e₀::es) X.env=(false,eval e₀ X.env)::starEach es X.env:=by rfl) (hpl:(backTo cpos (starEach es X.env)).any (·.1)=false:=by rfl) :
   PS X (.Raise (some (.Call (.Name x np) (e₀::es) [] cpos)) none pos) (Ke C sp Zz E t):=by
 let⟨f,fd,ds,F,hi,hb,hd⟩:=h;exact Ls hi F hr hb hd hc hg hm hx ha hdb he hpl
end
end L2
namespace PySem
namespace F
end F
section
variable {prog:Program}{w:World}{A:Around}{E:ze}{s:Shared}
end
end PySem
namespace L2
open PySem PySem.Spec PyProof.Rows
section
variable {X:Cx}{tg:Expr}
end
section
variable {X:Cx}
end
section
variable {X:Cx}{suite:zS}{b₀:Stmt}{x n:Str}{np hpos:Pos}{D:Addr}{i:Nat}{ts:TS}{rest:List ExceptHandler}{tr:TH}
end
def GY (h:Heap)(a:Addr)(cls:Value)(dct:zo)(T:Addr)(mk:Value): Prop :=
 ∃oe vs oT ts,h.get? a=some oe/\oe.cls=cls/\oe.dict=dct/\oe.data=.fields vs/\vs[1]?=some (.ref T)/\T≠a/\h.get? T=some oT/\oT.data=.fields ts/\ts[3]?=some mk
section
variable {M:Model}{A:Around}{E:ze}{s:Shared}
def Bg {base:Heap}{env:Env}{outer:zC}{L a:Addr}{oe:Obj}{vs:zp}{hd:Value}{b:Bool}{Q:zg}
   (hfr:A.frames=some (env::outer)) (hl:s.heap.FunFrames base (env::outer)) (hf:env.frame=some L) (he:s.heap.get? a=some oe) (hdt:oe.data=.fields vs) (h1:1 < vs.size)
   (h:∀(h':Heap) (T:Addr),s.heap.get? T=none->T≠a->(∀b o,b≠a->b∉(env::outer).filterMap (·.frame)->s.heap.get? b=some o->h'.get? b=some o) ->
     (∀b o,b≠a->s.heap.get? b=some o->∃sl,h'.get? b=some { o with slots:=sl })->s.heap.objs.size<=T->GY h' a oe.cls oe.dict T (rawInt L)->Q () { s with heap:=h' }) :
   wpAny M A (do setField (.ref a) 1 (<-abw hd (<-frameOf env) .none (rawInt L) .none (<-entryPlaceOf L b))) Q E s:=by
 have na:a∉(env::outer).filterMap (·.frame):=λhm=>by
   let⟨_,o,ho,hn⟩:=hl.mem hm;rw[he] at ho;cases ho;exact hn vs hdt
 refine wpAny_bind (wpAny_frameOf_fun hfr hl hf λh₁ hs=>?_);refine wpAny_bind (wpAny_entryPlaceOf λpl hpl=>?_);unfold abw newFields;refine wpAny_bind (wpAny_newObj_type ?_ (hpl.sizeOk5 _ _ _ _ _));generalize hts:([hd,qh L,qD,rawInt L,qD]++(if pl.isEmpty then qq 6 qD else pl)).toArray=ts;have hsz:3 < ts.size:=by
   rw[<-hts];simp only [qo,qd,qJ,abE];lia
 have e1:h₁.get? a=some oe:=(hs.2.1 a na).trans he;have lt1:h₁.objs.size≠a:=adi (qj e1);have e2:(h₁.push { cls:=.type "traceback",dict:=none,data:=.fields ts }).get? a=some oe:=qb _ e1;refine wpAny_setField e2 hdt h1 ?_;have d3:=qL hdt (·.setIfInBounds 1 (qh h₁.objs.size));have e3:=qC (qK (·.setIfInBounds 1 (qh h₁.objs.size))) e2 (qS d3);have t3:((h₁.push { cls:=.type "traceback",dict:=none,data:=.fields ts }).update a (qK (·.setIfInBounds 1 (qh h₁.objs.size)))).get? h₁.objs.size=some { cls:=.type "traceback",dict:=none,data:=.fields ts }:=by
   rw[qt _ _ (qX lt1)];exact qp h₁ rfl
 have keep:∀b o,b≠a->h₁.get? b=some o->((h₁.push { cls:=.type "traceback",dict:=none,data:=.fields ts }).update a (qK (·.setIfInBounds 1 (qh h₁.objs.size)))).get? b=some o:=λb o nb e=>by
   rw[qt _ _ (qX nb)];exact qb _ e
 refine h _ h₁.objs.size ?_ lt1 (λb o nb nf e=>keep b o nb ((hs.2.1 b nf).trans e)) (λb o nb e=>?_) (by rw[hs.1];exact qe _) ?_
 · rw[hs.1]
   exact QL (qe _)
 · let⟨sl,q⟩:=hs.2.2 b o e
   exact⟨sl,keep b _ nb q⟩
 · exact⟨_,_,_,ts,e3,abL oe (·.setIfInBounds 1 (qh h₁.objs.size)),xH oe (·.setIfInBounds 1 (qh h₁.objs.size)),d3,by simp[h1],lt1,t3,rfl,by rw[<-hts];rfl⟩
def Lw {base:Heap}{env:Env}{outer:zC}{L a:Addr}{cls hd:Value}{dct:zo}{Q:zg}
   (hfr:A.frames=some (env::outer)) (hl:s.heap.FunFrames base (env::outer)) (hf:env.frame=some L) (hx:tY s.heap a cls dct hd)
   (h:∀(h':Heap) (T:Addr),s.heap.get? T=none->T≠a->(∀b o,b≠a->hd≠.ref b->b∉(env::outer).filterMap (·.frame)->s.heap.get? b=some o->h'.get? b=some o) ->
     (∀b o,b∈(env::outer).filterMap (·.frame)->s.heap.get? b=some o->∃sl,h'.get? b=some { o with slots:=sl })->s.heap.objs.size<=T->GY h' a cls dct T (rawInt L)->Q () { s with heap:=h' }) :
   wpAny M A (noteFrame (.ref a) env) Q E s:=by
 let⟨oe,vs,he,rfl,rfl,hdt,h1,hc⟩:=hx;have fr:∀b o,b∈(env::outer).filterMap (·.frame)->s.heap.get? b=some o->∀ws,o.data≠.fields ws:=λb o hb e=>by
   let⟨_,o',ho,hn⟩:=hl.mem hb;rw[e] at ho;cases ho;exact hn
 have na:∀b o,b∈(env::outer).filterMap (·.frame)->s.heap.get? b=some o->b≠a:=λb o hb e z=>by
   subst z;rw[e] at he;cases he;exact fr _ _ hb e vs hdt
 have z1:=(qy.mp h1).1;unfold noteFrame;simp only [hf];refine wpAny_bind (wpAny_field he hdt h1 ?_);rcases hc with rfl | ⟨T,oT,ts,rfl,hTa,hT,hTd,h3⟩
 · rw[if_neg (by decide)]
   refine Bg hfr hl hf he hdt z1 λh' T' n1 n2 k1 k2 sz fl=>h h' T' n1 n2 (λb o nb _ nf e=>k1 b o nb nf e) (λb o hb e=>k2 b o (na b o hb e) e) sz fl
 · rw[if_pos (show (qh T != qD)=true by simp)]
   refine wpAny_bind (wpAny_field hT hTd h3 ?_);rw[if_neg (show ¬((qD==rawInt L)=true) by simp[rawInt])];refine wpAny_bind (wpAny_setField hT hTd (qy.mp h3).1 ?_);have oth:∀b,b≠T->(s.heap.update T (qK (·.setIfInBounds 3 qD))).get? b=s.heap.get? b:=λb nb=>qt _ _ (qX nb);have fT:∀b o,s.heap.get? b=some o->(∀ws,o.data≠.fields ws)->b≠T:=λb o e hn z=>by
     rw[z,hT] at e;cases e;exact hn ts hTd
   refine Bg (s:={ s with heap:=s.heap.update T (qK (·.setIfInBounds 3 qD)) }) hfr (hl.of_keeps λb o e hn=>⟨o,(oth b (fT b o e hn)).trans e,rfl⟩) hf ((oth a (qX hTa)).trans he) hdt z1
     λh' T' n1 n2 k1 k2 sz fl=>h h' T' ?_ n2 (λb o nb nT nf e=>k1 b o nb nf ((oth b (λz=>nT (by rw[z]))).trans e)) (λb o hb e=>k2 b o (na b o hb e) ((oth b (fT b o e (fr b o hb e))).trans e)) (by have sz:(s.heap.update T (qK (·.setIfInBounds 3 qD))).objs.size<=T':=sz;rw[Heap.size_update] at sz;exact sz) fl
   cases q:s.heap.get? T' with
   | none=>rfl
   | some o =>
     by_cases z:T'=T
     · subst z
       have:=qC (qK (·.setIfInBounds 3 qD)) hT (qS (qL hTd _));rw[this] at n1;cases n1
     · have n1':(s.heap.update T (qK (·.setIfInBounds 3 qD))).get? T'=none:=n1
       rw[oth T' z,q] at n1';cases n1'
def ND {α:Type}{env:Env}{a T:Addr}{cls mk:Value}{dct:zo}{what:String}{Q:α->Shared->Prop}(hx:GY s.heap a cls dct T mk)
   (h:∀h' mk',(∀b o,b≠T->s.heap.get? b=some o->h'.get? b=some o)->GY h' a cls dct T mk'->E (.ref a) { s with heap:=h' }):wpAny M A (ady what (.ref a) env:Sem α) Q E s:=by
 let⟨oe,vs,oT,ts,he,rfl,rfl,hdt,h1,hTa,hT,hTd,h3⟩:=hx;unfold ady;refine wpAny_bind (wpAny_field he hdt h1 ?_);rw[if_neg (show ¬((qh T==qD)=true) by simp)];unfold setFlight;refine wpAny_bind (wpAny_bind (wpAny_field he hdt h1 ?_));rw[if_pos (show (qh T != qD)=true by simp)];have z3:=(qy.mp h3).1;generalize (env.frame.elim qD λf=>rawInt f)=mk';have oth:∀b,b≠T->(s.heap.update T (qK (·.setIfInBounds 3 mk'))).get? b=s.heap.get? b:=λb nb=>qt _ _ (qX nb);refine wpAny_setField hT hTd z3 (wpAny_throw (h _ mk' (λb o nb e=>(oth b nb).trans e) ⟨oe,vs,_,_,(oth a (qX hTa)).trans he,rfl,rfl,hdt,h1,hTa,qC _ hT (qS (qL hTd _)),qL hTd _,?_⟩));simp[z3]
def I_ {env:Env}{a T L:Addr}{cls:Value}{dct:zo}{Q:zg}(hf:env.frame=some L)(hx:GY s.heap a cls dct T (rawInt L))
   (h:∀h',(∀b o,b≠T->s.heap.get? b=some o->h'.get? b=some o)->tY h' a cls dct (.ref T)->Q () { s with heap:=h' }):wpAny M A (leaving env (.ref a)) Q E s:=by
 let⟨oe,vs,oT,ts,he,rfl,rfl,hdt,h1,hTa,hT,hTd,h3⟩:=hx;unfold leaving noteFrame;simp only [hf];refine wpAny_bind (wpAny_bind (wpAny_field he hdt h1 ?_));rw[if_pos (show (qh T != qD)=true by simp)];refine wpAny_bind (wpAny_field hT hTd h3 ?_);rw[if_pos (show (rawInt L==rawInt L)=true by simp)];refine wpAny_pure ?_;unfold setFlight;refine wpAny_bind (wpAny_field he hdt h1 ?_);rw[if_pos (show (qh T != qD)=true by simp)];have z3:=(qy.mp h3).1;have oth:∀b,b≠T->(s.heap.update T (qK (·.setIfInBounds 3 ((none:zo).elim qD λf=>rawInt f)))).get? b=s.heap.get? b:=λb nb=>qt _ _ (qX nb);refine wpAny_setField hT hTd z3 (h _ (λb o nb e=>(oth b nb).trans e) ⟨oe,vs,(oth a (qX hTa)).trans he,rfl,rfl,hdt,h1,.inr ⟨T,_,_,rfl,hTa,qC _ hT (qS (qL hTd _)),qL hTd _,?_⟩⟩);simp[z3]
def Ja {base:Heap}{env:Env}{outer:zC}{L a:Addr}{T0:Addr}{cls mk:Value}{dct:zo}{Q:zg}
   (hfr:A.frames=some (env::outer)) (hl:s.heap.FunFrames base (env::outer)) (hf:env.frame=some L) (hx:GY s.heap a cls dct T0 mk) (hmk:¬((mk==rawInt L)=true))
   (h:∀(h':Heap) (T:Addr),s.heap.get? T=none->T≠a->(∀b o,b≠a->b≠T0->b∉(env::outer).filterMap (·.frame)->s.heap.get? b=some o->h'.get? b=some o) ->
     (∀b o,b∈(env::outer).filterMap (·.frame)->s.heap.get? b=some o->∃sl,h'.get? b=some { o with slots:=sl })->tY h' a cls dct (.ref T)->Q () { s with heap:=h' }) :
   wpAny M A (leaving env (.ref a)) Q E s:=by
 let⟨oe,vs,oT,ts,he,rfl,rfl,hdt,h1,hTa,hT,hTd,h3⟩:=hx;have fr:∀b o,b∈(env::outer).filterMap (·.frame)->s.heap.get? b=some o->∀ws,o.data≠.fields ws:=λb o hb e=>by
   let⟨_,o',ho,hn⟩:=hl.mem hb;rw[e] at ho;cases ho;exact hn
 have na:∀b o,b∈(env::outer).filterMap (·.frame)->s.heap.get? b=some o->b≠a:=λb o hb e z=>by
   subst z;rw[e] at he;cases he;exact fr _ _ hb e vs hdt
 have z1:=(qy.mp h1).1;unfold leaving noteFrame;simp only [hf];refine wpAny_bind (wpAny_bind (wpAny_field he hdt h1 ?_));rw[if_pos (show (qh T0 != qD)=true by simp)];refine wpAny_bind (wpAny_field hT hTd h3 ?_);rw[if_neg hmk];refine wpAny_bind (wpAny_setField hT hTd (qy.mp h3).1 ?_);have oth:∀b,b≠T0->(s.heap.update T0 (qK (·.setIfInBounds 3 qD))).get? b=s.heap.get? b:=λb nb=>qt _ _ (qX nb);have fT:∀b o,s.heap.get? b=some o->(∀ws,o.data≠.fields ws)->b≠T0:=λb o e hn z=>by
   rw[z,hT] at e;cases e;exact hn ts hTd
 refine xI (s:={ s with heap:=s.heap.update T0 (qK (·.setIfInBounds 3 qD)) }) hfr (hl.of_keeps λb o e hn=>⟨o,(oth b (fT b o e hn)).trans e,rfl⟩) hf ((oth a (qX hTa)).trans he) hdt z1
   λh' T' n1 n2 k1 k2 fl=>h h' T' ?_ n2 (λb o nb nT nf e=>k1 b o nb nf ((oth b (λz=>nT z)).trans e)) (λb o hb e=>k2 b o (na b o hb e) ((oth b (fT b o e (fr b o hb e))).trans e)) fl
 cases q:s.heap.get? T' with
 | none=>rfl
 | some o =>
   by_cases z:T'=T0
   · subst z
     have:=qC (qK (·.setIfInBounds 3 qD)) hT (qS (qL hTd _));rw[this] at n1;cases n1
   · have n1':(s.heap.update T0 (qK (·.setIfInBounds 3 qD))).get? T'=none:=n1
     rw[oth T' z,q] at n1';cases n1'
end
section
variable {X:Cx}{zk:zh}{σ:St}{H:Hp}{s:Shared}{h':Heap}{a T:Addr}{cls hd:Value}{dct:zo}
def NF (I:ZZ X zk σ H s)(hex:X.ex=[])(hst:X.stack=X.env::X.outer)(ha:H a=none)(na:X.s₀.heap.get? a=none)(hT:∀T,hd=.ref T->H T=none/\X.s₀.heap.get? T=none)
   (nT:H T=none/\X.s₀.heap.get? T=none) (keep:∀b o,b≠a->hd≠.ref b->b∉frs X.stack->s.heap.get? b=some o->h'.get? b=some o)
   (slot:∀b o,b∈frs X.stack->s.heap.get? b=some o->∃sl,h'.get? b=some { o with slots:=sl }) (fl:tY h' a cls dct (.ref T)) :
   Un (frs X.outer) [] X.H₀ H X.s₀.heap h'/\HOk X.prog X.w H h'/\MO X.s₀.heap h' H a cls dct:=by
 have s0a:∀b o,X.s₀.heap.get? b=some o->b≠a/\hd≠.ref b:=λb o e=>⟨λz=>(by rw[z,na] at e;cases e),λz=>(by rw[(hT b z).2] at e;cases e)⟩;have s0L:∀b o,X.s₀.heap.get? b=some o->b∈frs X.stack->b∈frs X.outer:=λb o e hb=>by
   rcases qk.mp (I.mP b hb) with z | z
   · rw[z] at e
     exact absurd (qz (qj e) I.ok.above) (Qj _)
   · exact z
 have uN:∀b:Addr,b∉X.ex:=λb=>by rw[hex];simp
 refine⟨⟨λb o e n hb _=>?_,λb o e n hb _=>?_,λb o e n _=>I.base.free b o e n (uN b),λb o e _=>?_,I.base.tups,I.base.uM,I.base.vH⟩,E3 I keep ha λT z=>(hT T z).1,?_⟩
 · exact keep b o (s0a b o e).1 (s0a b o e).2 (λz=>hb (s0L b o e z)) (I.base.keep b o e n hb (uN b))
 · let⟨sl,e1⟩:=I.base.slot b o e n hb (uN b)
   let⟨sl',e2⟩:=slot b _ (by rw[hst];exact E2 hb) e1;exact⟨sl',e2⟩
 · let⟨o1,e1⟩:=I.base.there b o e (uN b)
   by_cases hb:b∈frs X.stack
   · let⟨sl,e2⟩:=slot b o1 hb e1
     exact⟨_,e2⟩
   · exact⟨_,keep b o1 (s0a b o e).1 (s0a b o e).2 hb e1⟩
 · exact⟨.ref T,fl,ha,na,λT' z=>by cases z;exact nT⟩
end
def AT (X:Cx)(E:XK): Prop:=∀(zk:zh) (σ:St) (H:Hp) (s:Shared) (a T:Addr) (cls mk:Value) (dct:zo),ZZ X zk σ H s->GY s.heap a cls dct T mk->H a=none->X.s₀.heap.get? a=none ->
 H T=none->X.s₀.heap.get? T=none->E cls dct H->X.xe (.ref a) s
section
variable {P:Program}{w:World}{K:qv}{mg:zf}{base:Heap}{N:zq}{qual:Str}{scope:Scope}{f:Addr}{cd:Value}{A:Around}{outer:zC}{s:Shared}{H:Hp}{E:XK}
def Lx:AT (lX (CXE P w) P w K mg base N qual scope f cd A outer s H E) E:=by
 intro zk σ H1 s1 a T cls mk dct I fl ha na hT nT q;show wpAny _ _ (leaving _ (.ref a)) _ _ s1;by_cases hm:(mk==rawInt s.heap.objs.size)=true
 · rw[beq_iff_eq.mp hm] at fl
   have hTd:∃oT ts,s1.heap.get? T=some oT/\oT.data=.fields ts:=by
     let⟨_,_,oT,ts,_,_,_,_,_,_,h1,h2,_⟩:=fl;exact⟨oT,ts,h1,h2⟩
   let⟨oT,ts,hTo,hTt⟩:=hTd;refine I_ (L:=s.heap.objs.size) rfl fl λh' k fl'=>?_;let⟨y1,y2,y3⟩:=NF (hd:=.ref T) I rfl rfl ha na (λT' z=>by cases z;exact⟨hT,nT⟩) ⟨hT,nT⟩ (λb o _ nb _ e=>k b o (λz=>nb (by rw[z])) e) (λb o hb e=>⟨o.slots,k b o (λz=>by
     let⟨_,o',ho,hn⟩:=I.stack.mem hb;rw[z,hTo] at ho;cases ho;exact hn ts hTt) e⟩) fl'
   exact⟨a,cls,dct,H1,rfl,I.os,I.bare,y1,y2,y3,q⟩
 · refine Ja (L:=s.heap.objs.size) (outer:=outer) I.ok.frames I.stack rfl fl hm λh' T2 n1 n2 k1 k2 fl'=>?_
   let⟨y1,y2,y3⟩:=JZ (hd:=.ref T) I rfl rfl ha na (λT' z=>by cases z;exact⟨hT,nT⟩) n1 (λb o nb nt nf e=>k1 b o nb (λz=>nt (by rw[z])) nf e) k2 fl';exact⟨a,cls,dct,H1,rfl,I.os,I.bare,y1,y2,y3,q⟩
end
def yY (X:Cx)(zk:zh)(σ:St)(C:Addr)(E:XK): Value->Shared->Prop:=λe s=>∃(a:Addr) (cls:Value) (dct:zo) (hd:Value) (H':Hp) (m:zf),e=.ref a/\ZZ X zk σ H' s/\tY s.heap a cls dct hd/\H' a=none/\X.s₀.heap.get? a=none ∧
 (∀T,hd=.ref T->H' T=none/\X.s₀.heap.get? T=none)/\(∀p∈X.pn++zk,p.1≠a/\hd≠.ref p.1)/\s.heap.Ns C m/\sk X zk H' C/\C≠a/\hd≠.ref C/\E cls dct H'
def i5 (X:Cx)(scope:Scope)(NN:zq)(C:Addr)(s:Shared)(H:Hp)(zk:zh)(fp:zj)(xe:ze): Cx:={ i_ X scope NN C s H zk fp with xe:=xe }
section
variable {X:Cx}{zk:zh}{σ:St}{C:Addr}{E:XK}
def NK {cenv:Env}{R:ze}(hex:X.ex=[])(hst:X.stack=X.env::X.outer)(hfr:X.env.frame=some X.env.locals)(hC:AT X E){e:Value}{s:Shared}(r:yY X zk σ C E e s)(hf:cenv.frame=X.env.frame)
   (hR:∀(s':Shared),(∃m,s'.heap.Ns C m/\∀h',abp C s'.heap h'->∀cenv:Env,cenv.locals=C->wpAny (model X.prog X.w) X.A (ady "comprehension.variables-let-go" e cenv:Sem Value) (λ_ _=>False) X.xe { s' with heap:=h' })->R e s') :
   notedBy (model X.prog X.w) X.A cenv R e s:=by
 let⟨a,cls,dct,hd,H',m,rfl,I,fl,ha,na,hT,hp,hn,fC,nCa,nCh,q⟩:=r;have e1:noteFrame (.ref a) cenv=noteFrame (.ref a) X.env:=by
   unfold noteFrame PySem.frameOf;rw[hf]
 unfold notedBy;rw[e1];refine Lw (outer:=X.outer) (by have:=I.ok.frames;rw[hst] at this;exact this) (by have:=I.stack;rw[hst] at this;exact this) hfr fl λh4 T n1 n2 k1 k2 sz fl4=>?_;have I4:ZZ X zk σ H' { s with heap:=h4,toks:=s.toks }:=I.flew ha na hT fl hp (λb o m1 m2 m3 e=>k1 b o m1 m2 (by rw[<-hst];exact m3) e) (λb o m1 e=>k2 b o (by rw[<-hst];exact m1) e);have nT:=Ba I n1;have nT0:=mF I hex n1;have fT:sk X zk H' T:=I.xB sz nT;refine hR _ ⟨m,?_,λh5 sb cenv' hl'=>?_⟩
 · have nF:C∉frs X.stack:=λz=>by
     rcases qk.mp (I.mP C z) with w | w
     · exact fC.2.1 w
     · exact fC.2.2.1 w
   let⟨o,es,ep,ho,r⟩:=hn;exact⟨o,es,ep,k1 C o nCa nCh (by rw[<-hst];exact nF) ho,r⟩
 · let⟨f0,f1,f2,f3,f4,f5⟩:=fC
   have I5:ZZ X zk σ H' { s with heap:=h5,toks:=s.toks }:=I4.turned (t':=s.toks) (λb o hb e=>(sb.2 b hb).trans e) f0 f1 f3 f4 f5;have nCT:T≠C:=λz=>by
     let⟨o,es,ep,ho,_⟩:=hn;rw[z,ho] at n1;cases n1
   have fl5:GY h5 a cls dct T (rawInt X.env.locals):=by
     let⟨oe,vs,oT,ts,he,c1,c2,hdt,g1,hTa,hT',hTd,g3⟩:=fl4;exact⟨oe,vs,oT,ts,(sb.2 a nCa.symm).trans he,c1,c2,hdt,g1,hTa,(sb.2 T nCT).trans hT',hTd,g3⟩
   refine ND fl5 λh6 mk k6 fl6=>?_;let⟨g0,g1,g2,g3,g4,g5⟩:=fT;exact hC zk σ H' _ a T cls mk dct (I5.turned (t':=s.toks) k6 g0 g1 g3 g4 g5) fl6 ha na nT nT0 q
end
section
variable {prog:Program}{w:World}{A:Around}{R:z7}{s:Shared}
def Jb {elt target iter:Expr}{ifs:zx}{scope:Scope}{pos:Pos}{it acc:Value}{env:Env}{EE:ze}(I:Nat->Shared->Prop)(hEE:∀x s,EE x s->notedBy (model prog w) A env (λx s=>R (.error x) s) x s)
   (turn:∀n s,I n s->wpAny (model prog w) A (pyNext it) (λr s₁=>match r with
     | none=>R (.ok .next) s₁
     | some v=>wpAny (model prog w) A (letOwnedTupleGo target it v) (λ_ s₂=>wpAny (model prog w) A (assign target env v) (λ_ s₃ =>
         wpAny (model prog w) A (forIn ifs true λc r=>if r=true then do let ok <-isTrue c env (eval c env);pure (QE ok) else pure (QE r)) (λok s₄ =>
           if ok=true then wpAny (model prog w) A (eval elt env) (λx s₅=>wpAny (model prog w) A (call (.builtin "list.append") [acc,x]) (λ_ s₆=>∃m,m < n/\I m s₆) EE s₅) EE s₄
           else ∃m,m < n/\I m s₄) EE s₃) EE s₂) EE s₁) EE s)
   (n:Nat) (h:I n s):codeAny (model prog w) A (.compLoop (.ListComp elt [⟨target,iter,ifs,0⟩] scope pos) 0 it acc env) R s:=by
 refine codeAny_loop rfl I (λn s hI=>?_) n h;show wpAny _ A ((compTurn (.ListComp elt [⟨target,iter,ifs,0⟩] scope pos) 0 it acc env).onRaise (λx=>do noteFrame x env;theTreesLotGoes x)) _ _ s;refine wpAny_noted ?_;rw[compTurn_list];have no:∀{α:Type} {t:Sem α} {Q:α->Shared->Prop} {s:Shared},wpAny (model prog w) A t Q EE s->wpAny (model prog w) A t Q (notedBy (model prog w) A env (λx s=>R (.error x) s)) s:=λ{α t Q s} z=>wpAny_mono z (λ_ _ q=>q) hEE;refine wpAny_bind (wpAny_standAt (wpAny_bind (no (wpAny_mono (turn n s hI) (λr s₁ h₁=>?_) λ_ _ z=>z))));cases r with
 | none=>exact wpAny_pure h₁
 | some v =>
   refine wpAny_bind (no (wpAny_mono h₁ (λ_ s₂ h₂=>?_) λ_ _ z=>z));refine wpAny_bind (no (wpAny_mono h₂ (λ_ s₃ h₃=>?_) λ_ _ z=>z));refine wpAny_bind (no (wpAny_mono h₃ (λok s₄ h₄=>?_) λ_ _ z=>z));cases ok with
   | false=>exact wpAny_pure ⟨rfl,h₄⟩
   | true=>exact wpAny_bind (wpAny_bind (no (wpAny_mono h₄ (λx s₅ h₅=>wpAny_bind (no (wpAny_mono h₅ (λ_ s₆ h₆=>wpAny_pure (wpAny_pure ⟨rfl,h₆⟩)) λ_ _ z=>z))) λ_ _ z=>z)))
end
section
variable {X:Cx}{E:XK}{scope:Scope}{xs N':zq}{target iter elt:Expr}{ifs:zx}{pos:Pos}{wi:TI}{g:TG}{tc:TT}{te:TE}
def GZ (hc:X.calm=true)(cok:n5 scope X.env.scope xs N' X.N)(hi:PI X target iter wi)
   (hex:X.ex=[]) (hst:X.stack=X.env::X.outer) (hfr:X.env.frame=some X.env.locals) (hC:AT X E)
   (hg:∀C s H zk fp xe,PG (i5 X scope (xs++N') C s H zk fp xe) target g) (ht:∀C s H zk fp xe,fX (CXE X.prog X.w) (i5 X scope (xs++N') C s H zk fp xe) (λ_=>E)->PTs (i5 X scope (xs++N') C s H zk fp xe) ifs tc)
   (he:∀C s H zk fp xe,fX (CXE X.prog X.w) (i5 X scope (xs++N') C s H zk fp xe) (λ_=>E)->PE (i5 X scope (xs++N') C s H zk fp xe) elt te)
   {zk:zh} {s:Shared} {σ:St} {H:Hp} {Q:VK} {RR:Value->Addr->Result->Shared->Prop} (I:ZZ X zk σ H s) (h:J2 xs.length wi g tc te σ H Q)
   (hRE:∀acc C e s',(∃m,s'.heap.Ns C m/\∀h',abp C s'.heap h'->∀cenv:Env,cenv.locals=C->wpAny (model X.prog X.w) X.A (ady "comprehension.variables-let-go" e cenv:Sem Value) (λ_ _=>False) X.xe { s' with heap:=h' })->RR acc C (.error e) s')
   (hRR:∀a C m H' s',ZZ X zk σ H' s'->sk X zk H' C->s'.heap.Ns C m->Q (.ref a) H'->RR (.ref a) C (.ok .next) s') :
   wpAny (model X.prog X.w) X.A (eval iter X.env) (λx s₁=>wpAny (model X.prog X.w) X.A (pyIter x) (λit s₂=>wpAny (model X.prog X.w) X.A (newList []) (λacc s₃ =>
     wpAny (model X.prog X.w) X.A (newFunctionEnv scope X.env.globals (o_ X.env.cells scope.names []) [] X.env.qual none .none (some X.env)) (λcenv s₄ =>
       codeAny (model X.prog X.w) X.A (.compStart (.ListComp elt [⟨target,iter,ifs,0⟩] scope pos) 0 it acc { cenv with scope:=relabel scope X.env }) (RR acc cenv.locals) s₄) X.xe s₃) X.xe s₂) X.xe s₁) X.xe s:=by
 refine ZQ (hi zk s σ H _ I h) λv s1 h1=>ZQ h1 λitv s2 h2=>?_;let⟨it,fp,tn,J,H2,e,I2,T,st2,f2,h3⟩:=h2;subst e;have ob2:∀b∈fp,∃o,s2.heap.get? b=some o:=λb hb=>(by let⟨o,q,_⟩:=T.obj _ _ st2 b hb;exact ⟨o,q⟩);have IQ:H2 s2.heap.objs.size=none:=I2.fresh;have I3:=I2.PF (its:=[]) (ys:=[]) (t':=s2.toks) .nil (qV _);refine wpAny_newObj_type (T := "list") ?_;let⟨W,n,w0,turn⟩:=h3 s2.heap.objs.size IQ;generalize hs3:({ s2 with heap:=s2.heap.push { cls:=.type "list",data:=.seq ([]:zi).toArray },toks:=s2.toks }:Shared)=s3 at I3;have M_:∀b o,s2.heap.get? b=some o->s3.heap.get? b=some o:=λb o q=>by rw[<-hs3];exact qb _ q
 have f3:∀b∈fp,sk X zk (upd H2 s2.heap.objs.size (.lst [])) b:=λb hb=>by
   let⟨o,q⟩:=ob2 b hb;let⟨q0,q1⟩:=f2 b hb;exact⟨by rw[ak (qH (qj q))];exact q0,q1⟩
 have ob3:∀b∈fp,∃o,s3.heap.get? b=some o:=λb hb=>(by let⟨o,q⟩:=ob2 b hb;exact ⟨o,M_ b o q⟩);have st3:tn 0 s3.heap:=T.keep _ _ _ st2 λb _ o q=>M_ b o q;refine wpAny_newFunctionEnv (λy hy z=>?_) (λy hy=>nomatch hy) (λh4 hns hsb=>?_) cok.kind
 · have:=Qy.mp cok.IM y hy
   rw[z] at this;simp at this
 have GJ:∀b o,s3.heap.get? b=some o->h4.get? b=some o:=λb o q=>(hsb.2 b (qH (qj q))).trans (qb _ q);have hh:=I3.ok.hd hc;have J4:=Bb (tk:=s3.toks+([]:zH).length) I3 cok f3 ob3 hns GJ;have J4:ZZ (i5 X scope (xs++N') s3.heap.objs.size s3 (upd H2 s2.heap.objs.size (.lst [])) zk fp (yY X zk σ s3.heap.objs.size E)) [] _ _ _:=ZZ.PQ (A':=X.A) (sI:=X.calm) J4 rfl (λ_=>hh) λp q=>q;have bk:∀{mQ:zh} {τ:St} {H':Hp} {s':Shared},ZZ (i5 X scope (xs++N') s3.heap.objs.size s3 (upd H2 s2.heap.objs.size (.lst [])) zk fp (yY X zk σ s3.heap.objs.size E)) mQ τ H' s'->ZZ X zk σ H' s':=λ{mQ τ H' s'} J =>
   comp_back (mQ:=mQ) (τ:=τ) I3 f3 (ZZ.Ug (X:=i_ X scope (xs++N') s3.heap.objs.size s3 (upd H2 s2.heap.objs.size (.lst [])) zk fp) (A':=X.A) (sI:=X.calm) J rfl (λ_=>hh) λp q=>q)
 have hP2:fX (CXE X.prog X.w) (i5 X scope (xs++N') s3.heap.objs.size s3 (upd H2 s2.heap.objs.size (.lst [])) zk fp (yY X zk σ s3.heap.objs.size E)) (λ_=>E):=by
   intro yE σ2 Ha sa e sb Ia hx;let⟨a,cls,dct,Hb,he,hos,hgn,un,hok,⟨hd,fl,ha,na,hT⟩,q⟩:=hx;have Ib:=Ia.call' hos un hok hgn (λb z=>absurd z (by simp));have Xa:=bk Ia;have Xb:=bk Ib;let⟨mb,hnb,_⟩:=Ib.loc;let⟨ma,⟨oa,_,_,hoa,_⟩,_⟩:=Ia.loc;have e1:=Ib.free;refine⟨a,cls,dct,hd,Hb,mb,he,Xb,fl,ha,mF Xa hex na,λT z=>⟨(hT T z).1,mF Xa hex (hT T z).2⟩,λp z=>?_,hnb,I3.xB (qe _) e1,λz=>?_,λz=>?_,q⟩
   · have e:=(Xa.pin p z).1
     exact⟨λw=>(by rw[w,na] at e;cases e),λw=>(by rw[(hT _ w).2] at e;cases e)⟩
   · have hoa:sa.heap.get? s3.heap.objs.size=some oa:=hoa
     rw[z,na] at hoa;cases hoa
   · have hoa:sa.heap.get? s3.heap.objs.size=some oa:=hoa
     rw[(hT _ z).2] at hoa;cases hoa
 have st4:tn 0 h4:=T.keep _ _ _ st3 λb _ o q=>GJ b o q;generalize hY:i5 X scope (xs++N') s3.heap.objs.size s3 (upd H2 s2.heap.objs.size (.lst [])) zk fp (yY X zk σ s3.heap.objs.size E)=Y at J4 hP2;have hP:Y.prog=X.prog:=by rw[<-hY];rfl
 have hw:Y.w=X.w:=by rw[<-hY];rfl
 have hK:Y.K=X.K:=by rw[<-hY];rfl
 have hcY:Y.calm=true:=by rw[<-hY];exact hc
 have stat:∀{H':Hp},(∀b∈fp,H' b=none)->∀b∈fp,sk Y [] H' b:=λ{H'} hn b hb=>by
   let⟨o,q⟩:=ob3 b hb;rw[<-hY];refine⟨hn b hb,qH (qj q),λz=>?_,.inl hb,λy c hy=>?_,λp hp=>?_⟩
   · rcases qk.mp (I3.mP b z) with w | w
     · exact(f3 b hb).2.1 w
     · exact(f3 b hb).2.2.1 w
   · have hx:=J4.ok.exf b (by rw[<-hY];exact hb)
     rw[<-hY] at hx;exact hx.2 y c hy
   · have hp':p∈X.pn++zk:=by simpa [i5,i_] using hp
     exact(f3 b hb).2.2.2.2.2 p hp'
 have loop:∀s5:Shared,ZZ Y [] (qq xs.length none++σ) (upd H2 s2.heap.objs.size (.lst [])) s5->tn 0 s5.heap ->
     codeAny (model X.prog X.w) X.A (.compLoop (.ListComp elt [⟨target,iter,ifs,0⟩] scope pos) 0 (.ref it) (.ref s2.heap.objs.size) Y.env) (RR (.ref s2.heap.objs.size) s3.heap.objs.size) s5:=by
   intro s5 J5 st5;refine Jb (EE:=yY X zk σ s3.heap.objs.size E) (λk s'=>∃(i:Nat) (ys:zu) (H':Hp) (τ:St),k+i=n/\τ.length=xs.length/\ZZ Y [] (τ++σ) H' s'/\tn i s'.heap/\(∀b∈fp,H' b=none)/\W i ys H') (λx sx rx=>NK (R:=λx s=>RR (.ref s2.heap.objs.size) s3.heap.objs.size (.error x) s) hex hst hfr hC rx (by rw[<-hY];rfl) λs' z=>hRE _ _ _ _ z) ?_ n
     ⟨0,[],_,qq xs.length none,rfl,qO ..,J5,st5,λb hb=>(f3 b hb).1,w0⟩
   rintro k s6 ⟨i,ys,H6,τ,hk,hτ,J6,st6,fr6,w6⟩;let⟨hacc,hlen,hcase⟩:=turn i ys H6 w6;rcases hcase with ⟨hin,stop,hq⟩ | ⟨hin,go,step⟩
   · refine ZQ (A:=X.A) (by have:=T.done Y hP hw hK hcY i [] s6 (τ++σ) H6 (yY X zk σ s3.heap.objs.size E) J6 (stat fr6) st6 stop;rw[<-hY] at this;exact this) λr s7 q7=>?_
     let⟨hr,J7⟩:=q7;subst hr;rw[hY] at J7;let⟨m7,hn7,_⟩:=J7.loc;have e1:Y.env.locals=s3.heap.objs.size:=by rw[<-hY];rfl
     rw[e1] at hn7;have J7':ZZ X zk σ H6 s7:=bk (by rw[hY];exact J7);refine hRR _ _ m7 H6 s7 J7' ?_ hn7 hq;have e2:=J7.free;rw[e1] at e2;exact I3.xB (qe _) e2
   · refine ZQ (A:=X.A) (by have:=T.item Y hP hw hK hcY i [] s6 (τ++σ) H6 (yY X zk σ s3.heap.objs.size E) J6 (stat fr6) st6 go;rw[<-hY] at this;exact this) λr s7 q7=>?_
     let⟨u,hr,q7⟩:=q7;subst hr;have hA:Y.A=X.A:=by rw[<-hY];rfl
     rw[hY] at q7;rw[hA] at q7;refine ZQ q7 λ_ s8 q8=>?_;let⟨x8,H8,J8,r8,y8,st8,fr8⟩:=q8;have J8':=J8.pinned (stat fr8) (T.obj _ _ st8);have g8:=hg s3.heap.objs.size s3 (upd H2 s2.heap.objs.size (.lst [])) zk fp (yY X zk σ s3.heap.objs.size E);have t8:=ht s3.heap.objs.size s3 (upd H2 s2.heap.objs.size (.lst [])) zk fp (yY X zk σ s3.heap.objs.size E) (by rw[hY];exact hP2);have e8:=he s3.heap.objs.size s3 (upd H2 s2.heap.objs.size (.lst [])) zk fp (yY X zk σ s3.heap.objs.size E) (by rw[hY];exact hP2);have a8:∀{Z:Cx},Z=Y->MtM Z "list.append" EV:=λ{Z} _=>mO;have hxe:Y.xe=yY X zk σ s3.heap.objs.size E:=by rw[<-hY];rfl
     rw[hY] at g8 t8 e8;have back:∀{τ2:St} {H9:Hp} {s9:Shared},ZZ Y ([]++xC fp s8.heap) τ2 H9 s9->ZZ Y [] τ2 H9 s9/\tn (i+1) s9.heap/\∀b∈fp,H9 b=none:=λ{τ2 H9 s9} J9=>by
       refine⟨J9.su,T.keep _ _ _ st8 λb hb o q=>(J9.pin (b,o) (qM _ (qM _ (lB hb q)))).1,λb hb=>?_⟩;let⟨o,q,d⟩:=T.obj _ _ st8 b hb;exact(J9.pin (b,o) (qM _ (qM _ (lB hb q)))).2.1
     have z1:=g8 _ s8 (τ++σ) H8 x8 u _ J8' r8 (step x8 H8 y8 τ hτ);rw[hP,hw,hA,hxe] at z1;refine ZQ z1 λ_ s9 q9=>?_;let⟨τ9,H9,J9,⟨τ',hτ',e9⟩,q9⟩:=q9;subst e9;have z2:=t8 _ s9 (τ'++σ) H9 _ J9 q9;rw[hP,hw,hA,hxe] at z2;refine ZQ z2 λb s10 q10=>?_;let⟨H10,J10,q10⟩:=q10;cases b with
     | false =>
       rw[if_neg qf] at q10 ⊢;let⟨b1,b2,b3⟩:=back J10;exact⟨k-1,by lia,i+1,ys,H10,τ',by lia,hτ',b1,b2,b3,q10⟩
     | true =>
       rw[if_pos rfl] at q10 ⊢;have z3:=e8 _ s10 (τ'++σ) H10 _ J10 q10;rw[hP,hw,hA,hxe] at z3;refine ZQ z3 λy s11 q11=>?_;let⟨v11,H11,J11,r11,IT,w11⟩:=q11;have z4:=a8 rfl _ s11 (τ'++σ) H11 (.ref s2.heap.objs.size) [v11] (.ref s2.heap.objs.size) [y] (λ_ H'=>W (i+1) (ys++[v11]) H') J11 rfl (.cons r11 .nil) ⟨_,ys,v11,rfl,rfl,IT,hlen,w11⟩;rw[hP,hw,hA,hxe] at z4;refine ZQ z4 λ_ s12 q12=>?_;let⟨_,H12,J12,_,w12⟩:=q12;let⟨b1,b2,b3⟩:=back J12;exact⟨k-1,by lia,i+1,ys++[v11],H12,τ',by lia,hτ',b1,b2,b3,w12⟩
 have Up:({ newEnv scope s3.heap.objs.size X.env.globals (o_ X.env.cells scope.names []) X.env.qual none .none (some X.env) X.env.builtins with scope:=relabel scope X.env }:Env)=Y.env:=by rw[<-hY];rfl
 have l4:=loop _ J4 st4;rw[<-Up] at l4;exact codeAny_compStart_list l4 (T.self _ 0 _ _ _ st4 l4)
def NM (hc:X.calm=true)(cok:n5 scope X.env.scope xs N' X.N)(hi:PI X target iter wi)
   (hex:X.ex=[]) (hst:X.stack=X.env::X.outer) (hfr:X.env.frame=some X.env.locals) (hC:AT X E)
   (hg:∀C s H zk fp xe,PG (i5 X scope (xs++N') C s H zk fp xe) target g) (ht:∀C s H zk fp xe,fX (CXE X.prog X.w) (i5 X scope (xs++N') C s H zk fp xe) (λ_=>E)->PTs (i5 X scope (xs++N') C s H zk fp xe) ifs tc)
   (he:∀C s H zk fp xe,fX (CXE X.prog X.w) (i5 X scope (xs++N') C s H zk fp xe) (λ_=>E)->PE (i5 X scope (xs++N') C s H zk fp xe) elt te)
   (hs:∀x,foldedSetIterable iter X.env x=pure x:=by intro _;rfl):PE X (.ListComp elt [⟨target,iter,ifs,0⟩] scope pos) (J2 xs.length wi g tc te):=by
 intro zk s σ H Q I h;rw[eval_ListComp];refine wpAny_comprehension_free (use:=none) rfl hs (J3 I cok) cok.kind cok.own (GZ hc cok hi hex hst hfr hC hg ht he I h (λacc C e s' z=>z) λa C m H' s' J fC hn q=>⟨m,hn,λh' hs'=>?_⟩);let⟨f0,f1,f2,f3,f4,f5⟩:=fC;exact⟨.ref a,H',J.turned (t':=s'.toks) (λb o hb e=>(hs'.2 b hb).trans e) f0 f1 f3 f4 f5,rfl,q⟩
end
section
variable {X:Cx}{tg:Expr}
end
end L2
namespace L2
open PySem PySem.W PySem.Spec PyProof.Rows
structure NeC (K:qv)(C:Addr): Prop where
 ne:Qd K (.ref C) "__ne__" = some (some (.builtin "object.__ne__"))
 eq:Qd K (.ref C) "__eq__" = some (some (.builtin "object.__eq__"))
 mo:QT K C (.type "object")=some true
section
variable {prog:Program}{w:World}{A:Around}{E:ze}{s:Shared}{K:qv}{x y C D:Addr}{ox oy:Obj}{od od':Option Obj}{name:Str}{id:String}
end
end L2
namespace L2
open PySem PySem.Spec PyProof.Rows
section
variable {X:Cx}{xs N':zq}{scope:Scope}{target iter elt:Expr}{ifs:zx}{pos:Pos}{tl:TE}{g:TG}{tc:TT}{te:TE}
end
section
variable {X:Cx}{e a b:Expr}{es:zx}{te ta tb:TE}{t:TA}{pos pos':Pos}
def Nvr (_:Hp): Prop:=False
def tNv:TS:=λ_ _ H=>[V.non].length<=sizeLine/\Nvr H
def uq {st:Stmt}: PS X st tNv:=λ_ _ _ _ _ _ h=>Qp h.2
def iH.m {j k:Nat}{A:Around}(r:iH k A)(h:j<=k:=by decide): iH j A:=r.mono h
def aq (ha:PE X e te)(hr:PA X es t)(h:notStar e=true:=by rfl): PA X (e::es) (JQ te t):=SM ha hr h
def ao (ha:PE X e te)(h:notStar e=true:=by rfl): PA X [e] (JQ te KR):=SM ha jx h
def dM (i:Nat){x:Str}(hN:X.N.Nodup)(he:PE X e te)(hi:X.N[i]?=some x:=by rfl)(hx:Loc X.env.scope x:=by first | exact acG rfl | exact aci rfl)(hs:swapsWith e (some (.Name x pos')) pos.line X.env=pure false:=by rfl)(hf:X.fn x=true\/X.env.scope.names.lookup x=some .local:=by first | exact acG rfl | exact aci rfl):
 PS X (.Assign [.Name x pos'] e pos) (TJ te (yz i)):=TK hN hi hx he hs hf
def hZ {r:R2}(hr:IxR X r)(ha:PE X a ta)(hb:PE X b tb)(hs:JV b:=by exact λ_ _=>rfl): PE X (.Subscript a b pos) (tOp r ta tb):=V0 hr ha hb hs
end
section
variable {K:qv}{h:Heap}{mg:zf}{x:Str}{C d:Addr}
def gT (cl:Zw K C) (ia:Qd K (.ref C) "__class__" = some (some (.builtin "object.__class__"))) (hn:acU K (.builtin "object.__class__") "__get__" = some (some (.builtin "getset_descriptor.__get__"))) (htk:W.takesIn K (.builtin "object.__class__")=some true) (im:QT K C (.type "object")=some true) {H:Hp} {x dx:Addr} {fs:zw} (e:H x=some (.ins C dx fs)):TyE K H (.ref x) (.ref C):=.of (.ins e cl ia hn htk im)
def gD {w:World} {des:Array DictEntry} {den:Nat} (ld:K.lookup d=some ⟨.type "dict",none,.dict des den,#[]⟩) (kd:W.KeysLit w.params des.toList) (sd:(d==sysModules)=false):TopD w.params K d:=⟨⟨_,_,ld,kd⟩,sd⟩
end
end L2
namespace L2
open PySem
def ex2 {α β:Sort _}{P:α->β->Prop}{a:α}{b:β}(h:P a b): ∃a b,P a b:=⟨a,b,h⟩
def ex3 {α β γ:Sort _}{P:α->β->γ->Prop}{a:α}{b:β}{c:γ}(h:P a b c): ∃a b c,P a b c:=⟨a,b,c,h⟩
def ex4 {α β γ δ:Sort _}{P:α->β->γ->δ->Prop}{a:α}{b:β}{c:γ}{d:δ}(h:P a b c d): ∃a b c d,P a b c d:=⟨a,b,c,d,h⟩
def ex6 {α β γ δ ε ζ:Sort _}{P:α->β->γ->δ->ε->ζ->Prop}{a:α}{b:β}{c:γ}{d:δ}{e:ε}{f:ζ}(h:P a b c d e f): ∃a b c d e f,P a b c d e f:=⟨a,b,c,d,e,f,h⟩
def xl {X:Cx}{b:zS}{D:Ends}{σ:St}{H:Hp}(h:let Y:=X;let D':=D;let σ':=σ;∃t,PSs Y b t/\t D' σ' H): ∃t,PSs X b t/\t D σ H:=h
def xo {X:Cx}{b:zS}{D:Ends}{σ:St}{H:Hp}(h:let Y:=X;∃t,PSs Y b t/\t D σ H): ∃t,PSs X b t/\t D σ H:=h
def sq {t u:TS}{D:Ends}{σ:St}{H:Hp}(h:let D':Ends:={ D with nx:=u D };let σ':=σ;t D' σ' H): iG t u D σ H:=h
def lc {vs ws:zu}{n:Nat}{B:Prop}(h:ws.length=n): vs=ws/\B->vs.length=n:=λe=>e.1 ▸ h
def ex9 {α β γ δ ε ζ η θ ι:Sort _}{P:α->β->γ->δ->ε->ζ->η->θ->ι->Prop}{a:α}{b:β}{c:γ}{d:δ}{e:ε}{f:ζ}{g:η}{i:θ}{j:ι}(h:P a b c d e f g i j): ∃a b c d e f g i j,P a b c d e f g i j:=⟨a,b,c,d,e,f,g,i,j,h⟩
end L2
namespace L2
abbrev Lv:=Nat->St->Hp->Prop
abbrev Cv:=Nat->List V->Hp->Prop
def j2 {α β:Sort _}{P:α->β->Prop}(a:α)(b:β)(h:P a b): ∃a b,P a b:=⟨a,b,h⟩
def j3 {α β γ:Sort _}{P:α->β->γ->Prop}(a:α)(b:β)(c:γ)(h:P a b c): ∃a b c,P a b c:=⟨a,b,c,h⟩
def j4 {α β γ δ:Sort _}{P:α->β->γ->δ->Prop}(a:α)(b:β)(c:γ)(d:δ)(h:P a b c d): ∃a b c d,P a b c d:=⟨a,b,c,d,h⟩
def j5 {α β γ δ ε:Sort _}{P:α->β->γ->δ->ε->Prop}(a:α)(b:β)(c:γ)(d:δ)(e:ε)(h:P a b c d e): ∃a b c d e,P a b c d e:=⟨a,b,c,d,e,h⟩
def j6 {α β γ δ ε ζ:Sort _}{P:α->β->γ->δ->ε->ζ->Prop}(a:α)(b:β)(c:γ)(d:δ)(e:ε)(f:ζ)(h:P a b c d e f): ∃a b c d e f,P a b c d e f:=⟨a,b,c,d,e,f,h⟩
def j7 {α β γ δ ε ζ η:Sort _}{P:α->β->γ->δ->ε->ζ->η->Prop}(a:α)(b:β)(c:γ)(d:δ)(e:ε)(f:ζ)(g:η)(h:P a b c d e f g): ∃a b c d e f g,P a b c d e f g:=⟨a,b,c,d,e,f,g,h⟩
def j8 {α β γ δ ε ζ η θ:Sort _}{P:α->β->γ->δ->ε->ζ->η->θ->Prop}(a:α)(b:β)(c:γ)(d:δ)(e:ε)(f:ζ)(g:η)(i:θ)(h:P a b c d e f g i): ∃a b c d e f g i,P a b c d e f g i:=⟨a,b,c,d,e,f,g,i,h⟩
end L2
namespace L2
open PySem PySem.Spec PyProof.Rows
def Ite (K:qv)(l:Addr): It :=
 ⟨λi H=>∃xs x,Zx K H l xs/\xs[i]?=some x,λi H v H'=>∃T,v=.ref T/\H T=none/\∀xs x,Zx K H l xs->xs[i]?=some x->H'=upd H T (.tup [.int i,x]),
  λi H=>∃xs,Zx K H l xs/\xs.length<=i⟩
def EAt (e it l:Addr)(i:Nat)(h:Heap): Prop:=(∃old,IsEnum h e it i old)/\h.IsListIter it l i
def Ly {P:Program}{w:World}{K:qv}{elts:zx}{kk}{pos:Pos}(e it l:Addr)(ne:e≠it):
   Turn P w K (.Tuple elts kk pos) (Ite K l) [e,it] e (EAt e it l) where
 mem:=by simp
 obj:=λi h st b hb=>by
   let⟨⟨old,he⟩,hi⟩:=st;simp only [qk,qU,or_false] at hb;rcases hb with rfl | rfl
   · exact⟨_,he,λv z=>by cases z⟩
   · exact IX hi
 keep:=λi h h' st k=>by
   let⟨⟨old,he⟩,hi⟩:=st;exact⟨⟨old,k e (by simp) _ he⟩,hi.at λo q=>k it (by simp) o q⟩
 item:=by
   walk_at "0c";let⟨xs,x,q,ex⟩:=hg;let⟨its,r,c,z⟩:=I.list q;let⟨⟨old,he⟩,hi⟩:=st;let⟨u,hu,ru⟩:=r.get ex;have nT:∀b∈[e,it],s.heap.objs.size≠b:=λb hb q=>by
     simp only [qk,qU,or_false] at hb;rcases hb with rfl | rfl
     · exact Qj _ (q ▸ qj he)
     · let⟨o,ho,_⟩:=hi;exact Qj _ (q ▸ qj ho)
   refine wpAny_pyNext_enum_item he hi c.isList (x:=u) (by simpa using hu) ne λh' a1 a2 a3 a4 hk=>?_;refine⟨_,rfl,wpAny_letOwnedTupleGo_enum (s:={ s with heap:=h',toks:=s.toks+1 }) a1 λh'' Yr sb=>?_⟩;have T'':h''.get? s.heap.objs.size=some { cls:=.type "tuple",data:=.seq #[.int i s.toks,u] }:=sb.extBut _ _ (nT e (by simp)) a3;have hfree:H s.heap.objs.size=none:=I.hok.fresh (qe _);have I2:ZZ X zk σ (upd H s.heap.objs.size (.tup [.int i,x])) { s with heap:=h'',toks:=s.toks+1 }:=by
     have Im:ZZ X zk σ (upd H s.heap.objs.size (.tup [.int i,x])) { s with heap:=s.heap.push { cls:=.type "tuple",data:=.seq #[.int i s.toks,u] } }:=I.laid (t':=s.toks) (λb o e=>qb _ e) (qe _)
       (show gN X.prog X.w _ _ _ (.tup [.int i,x]) from ⟨ck (by show 2<=1000;decide),[.int i s.toks,u],.cons ⟨_,rfl⟩ (.cons ru .nil),⟨_,qp _ rfl,rfl,_,rfl⟩⟩)
     refine ZZ.AO (s:={ s with heap:=s.heap.push { cls:=.type "tuple",data:=.seq #[.int i s.toks,u] } }) (t':=s.toks+1) (ch:=[e,it]) Im (λb o hb q=>?_) λb hb=>?_
     · rcases adW q with ⟨rfl,rfl⟩ | q
       · exact T''
       · simp only [qk,qU,or_false,not_or] at hb
         exact sb.extBut b o hb.1 (hk b o hb.1 hb.2 q)
     · let⟨f0,f1⟩:=hf b hb
       exact⟨by rw[ak (nT b hb).symm];exact f0,f1⟩
   refine⟨.ref s.heap.objs.size,_,I2,rfl,⟨_,rfl,hfree,λxs' x' e1 e3=>?_⟩,⟨⟨u,by have:=Yr;rw[show ((i:Int)+1)=((i+1:Nat):Int) by lia] at this;exact this⟩,a2.at λo q=>sb.extBut _ _ ne.symm q⟩,λb hb=>?_⟩
   · rw[I.vJ e1 q,ex] at e3
     cases e3;rfl
   · rw[ak (nT b hb).symm];exact(hf b hb).1
 done:=by
   walk_at "0c";let⟨xs,q,hl⟩:=hg;let⟨its,r,c,z⟩:=I.list q;let⟨⟨old,he⟩,hi⟩:=st;have e1:=r.length;exact wpAny_pyNext_enum_end (I.ok.hd hc) he hi c.isList (by rw[abO];simp;lia) λh' hk=>⟨rfl,I.AO (t':=s.toks) (ch:=[it]) (λb o hb q=>hk b o (λz=>hb (by simp[z])) q) λb hb=>hf b (by rw[qc.mp hb];simp)⟩
 self:=λ_ _ _ _ _ st h=>by let⟨⟨_,he⟩,_⟩:=st;exact wpAny_pyIter_enum he h
section
variable {X:Cx}{elts:zx}{kk:Nat}{tpos p pos:Pos}{e1:Expr}{t1:TE}
def Wn (K:qv)(t1:TE): TI:=λσ H R=>t1 σ H λx H1=>∃l xs,x=.ref l/\Zx K H1 l xs/\R (Ite K l) H1
def NP (hg:Gl X "enumerate") (hm:X.mg "enumerate" = none) (h1:PE X e1 t1) (hs:starEach [e1] X.env=[(false,eval e1 X.env)]:=by rfl) :
   PI X (.Tuple elts kk tpos) (.Call (.Name "enumerate" p) [e1] [] pos) (Wn X.K t1):=by
 intro zk s σ H R I h;refine Call_ (mR I hg hm PyProof.Rows.Boot.«enumerate» (qT (ZQ (tU h1 jx hs pos zk s σ H (λvs H1=>match vs with | [x]=>∃l xs,x=.ref l/\Zx X.K H1 l xs/\R (Ite X.K l) H1 | _=>False) I h) λus s1 ⟨vs,H1,I1,r1,q1⟩=>?_) hs rfl))
 match vs,q1 with
 | [x],q1 =>
   let⟨l,xs,rfl,hq,q⟩:=q1;let⟨u,rfl,ru⟩:=vals1 r1;cases ru;let⟨its,v1,c1,z1⟩:=I1.list hq;refine call_enumerate_list c1.isList λh' a1 a2 a3 kp=>?_;refine wpAny_pyIter_enum (s:={ s1 with heap:=h' }) a1 ?_;refine⟨s1.heap.objs.size+1,_,_,_,H1,rfl,I1.kept (t':=s1.toks) kp,Ly _ _ l (Nat.succ_ne_self _),⟨⟨_,a1⟩,a2⟩,λb hb=>?_,q⟩;have hle:s1.heap.objs.size<=b:=by
     simp only [qk,qU,or_false] at hb;rcases hb with rfl | rfl
     · exact Nat.le_add_right _ _
     · exact qe _
   exact I1.xB hle (I1.hok.fresh hle)
end
def NQ {K:qv}{a:Addr}{xs:zu}{g:TG}{tb:TS}{D:Ends}{σ:St}{H:Hp}(Pv:zG)(h0:Pv 0 σ H)(hl:∀i σ H,i<=xs.length->Pv i σ H->Zx K H a xs)
   (hs:∀i x σ H T,xs[i]?=some x->Pv i σ H->H T=none->g (.ref T) σ (upd H T (.tup [.int i,x])) λσ2 H2=>tb { D with nx:=Pv (i+1),ct:=Pv (i+1),bk:=D.nx } σ2 H2) (hd:∀σ H,Pv xs.length σ H->D.nx σ H) :
   ∃W:Nat->Nat->St->Hp->Prop,(∃m,W 0 m σ H)/\∀i m σ H,W i m σ H ->
     ((Ite K a).stop i H/\D.nx σ H)\/((Ite K a).go i H/\∃N:St->Hp->Prop,(∀σ' H',N σ' H'->∃m',m' < m/\W (i+1) m' σ' H')/\∀x H',(Ite K a).yld i H x H'->g x σ H' λσ2 H2=>tb { D with nx:=N,ct:=N,bk:=D.nx } σ2 H2):=by
 refine⟨λi m σ H=>m=xs.length-i/\i<=xs.length/\Pv i σ H,⟨xs.length,by simp,qV _,h0⟩,?_⟩;rintro i m σ H ⟨rfl,hi,p⟩;have q:=hl i σ H hi p;by_cases hlt:i < xs.length
 · have ex:xs[i]?=some xs[i]:=qi hlt
   refine .inr ⟨⟨xs,xs[i],q,ex⟩,Pv (i+1),λσ' H' p'=>⟨xs.length-(i+1),by lia,rfl,hlt,p'⟩,λx H' y=>?_⟩;let⟨T,rfl,hT,y⟩:=y;rw[y xs _ q ex];exact hs i _ σ _ T ex p hT
 · have e:i=xs.length:=by lia
   subst e;exact .inl ⟨⟨xs,q,qe _⟩,hd σ H p⟩
def Lz {M:Model}{A:Around}{E:ze}{s:Shared}{env:Env}{o i:Expr}{pos:Pos}{v:Value}{Q:zg}
   (h:wpAny M A (eval o env) (λov s₂=>wpAny M A (eval i env) (λiv s₃=>wpAny M A (setItem ov iv v) Q E s₃) E s₂) E s):wpAny M A (assign (.Subscript o i pos) env v) Q E s:=λΓ p hΓ=>by
 simp only [assign_Subscript,Sem.wp_bind',Sem.wp_holding,Sem.wp_cmd_standAt,Sem.wp_release,Sem.wp_pure'];exact Sem.wp_mono M Γ _ (λov p₂ s₂ h₂=>Sem.wp_mono M Γ _ (λiv _ s₃ h₃=>h₃ Γ _ hΓ) (λ_ _ _ h'=>h') _ _ (h₂ Γ p₂ hΓ)) (λ_ _ _ h'=>h') _ _ (h Γ _ hΓ)
def Wo (td ty:TE): TG:=λv σ H Q=>td σ H λx H2=>ty σ H2 λy H3=>∃a H4,x=.ref a/\sE H3 a y v H4/\Q σ H4
def nN {X:Cx}{pos:Pos}{o i:Expr}{td ty:TE}(hu:X.A.units+1 < cLine)(ho:PE X o td)(hi:PE X i ty): PG X (.Subscript o i pos) (Wo td ty):=by
 intro zk s σ H v u Q I r h;refine Lz (ZQ (ho zk s σ H _ I h) λw s2 ⟨x,H2,I2,rx,q2⟩=>ZQ (hi zk s2 σ H2 _ I2 q2) λiv s3 hz_=>?_);let⟨y,H3,I3,ry,a,H4,ex,g,q3⟩:=hz_;subst ex;obtain rfl:w=qh a:=rx;exact Ea hu I3 g ry r λs4 I4=>⟨σ,H4,I4,q3⟩
def KtL (K:qv)(C:Value): List Value->List Bool->Prop
 | d::ds,b::bs=>Qe K C d=some b/\KtL K C ds bs
 | [],[]=>True
 | _,_=>False
def KtL.c {K:qv}{C d:Value}{b:Bool}{ds:zi}{bs:List Bool}(h:Qe K C d=some b)(r:KtL K C ds bs): KtL K C (d::ds) (b::bs):=⟨h,r⟩
def KtL.n {K:qv}{C:Value}: KtL K C [] []:=trivial
class Gm where
 (w:World) (K:qv) (mg:zf)
class Gn extends Gm where
 (P:Program) (base:Heap)
section
variable {P:Program}{w:World}{K:qv}{mg:zf}{base:Heap}{C:Addr}{x m qual:Str}{st:Stmt}{ps:zq}{Zz:zu}{k:Nat}{sp:Sp}
def d8.okS (N:zq)(R:d8 K mg x st ps Zz)(S:mE N ps (cQ st))(len:∀vs H Q E,sp vs H Q E->vs.length=ps.length)
 (hbody:N.Nodup->∀(f:Addr) (cdv:Value) (A:Around) (outer:zC) (s:Shared) (H:Hp) (vs:zu) (Q:VK) (E:XK),iH k (A.deeper (envOfC x (cQ st) s.heap.objs.size f cdv))->sp vs H Q E ->
   ∃t,PSs (lX (CXE P w) P w K mg base N x (cQ st) f cdv A outer s H E) (dO st) t/\t { nx:=λ_ H'=>Q .non H',rt:=Q } (start N vs) H):ZY P w K mg base (k+1) x ps sp Zz:=R.ok S len (hbody S.nd)
def cN.okS (N:zq)(R:cN K C m qual st ps Zz)(S:mE N ps (cQ st))(len:∀vs H Q E,sp vs H Q E->vs.length=ps.length)
 (hbody:N.Nodup->∀(f:Addr) (cdv:Value) (A:Around) (outer:zC) (s:Shared) (H:Hp) (vs:zu) (Q:VK) (E:XK),iH k (A.deeper (envOfC qual (cQ st) s.heap.objs.size f cdv))->sp vs H Q E ->
   ∃t,PSs (lX (CXE P w) P w K mg base N qual (cQ st) f cdv A outer s H E) (dO st) t/\t { nx:=λ_ H'=>Q .non H',rt:=Q } (start N vs) H):cR P w K mg base C (k+1) m ps sp Zz:=R.ok S len (hbody S.nd)
def jE.okS (N:zq)(R:jE K C qual st ps Zz)(S:mE N ps (cQ st))(len:∀vs H Q E,sp vs H Q E->vs.length=ps.length)
 (hbody:N.Nodup->∀(f:Addr) (cdv:Value) (A:Around) (outer:zC) (s:Shared) (H:Hp) (vs:zu) (Q:VK) (E:XK),iH k (A.deeper (envOfC qual (cQ st) s.heap.objs.size f cdv))->sp vs H Q E ->
   ∃t,PSs (lX (CXE P w) P w K mg base N qual (cQ st) f cdv A outer s H E) (dO st) t/\t { nx:=λ_ H'=>Q .non H',rt:=Q } (start N vs) H):jw P w K mg base C (k+1) ps sp Zz:=R.ok S len (hbody S.nd)
end
section
variable {X:Cx}{C:Addr}{k:Nat}{ps:zq}{sp:Sp}{Zz:zu}{E:zV}{x m f:Str}{p pos apos cpos np:Pos}{e o:Expr}{es:zx}{ta:TE}{t:TA}
def pf (h:ZY X.prog X.w X.K X.mg X.base k x ps sp Zz) (ha:PA X (e::es) t) (hr:iH k X.A:=by walk_at "hm") (hg:Gl X x:=by rfl) (hx:fX (CXE X.prog X.w) X E:=by exact iJ)
 (hdb:(x==("__debug__" : Str))=false:=by decide) (he:starEach (e::es) X.env=(false,eval e X.env)::starEach es X.env:=by rfl) (hpl:(backTo pos (starEach es X.env)).any (·.1)=false:=by rfl) :
 PE X (.Call (.Name x p) (e::es) [] pos) (E4 sp Zz E t):=SJ h hr hg hx ha hdb he hpl
def pm {pl:zX} (he:PE X o ta) (h:cR X.prog X.w X.K X.mg X.base C k m ps sp Zz) (ha:PA X (e::es) t) (c:Zw X.K C:=by walk_at "tc") (hr:iH k X.A:=by walk_at "hm") (hx:fX (CXE X.prog X.w) X E:=by exact iJ)
 (hst:starEach (e::es) X.env=(false,eval e X.env)::starEach es X.env:=by rfl) (hpl:(backTo pos (starEach es X.env)).any (·.1)=false:=by rfl)
 (ht:eval (.Call (.Attribute o m apos) (e::es) [] pos) X.env=(do
   let ov <-eval o X.env
   standAt apos.atName
   let (f,first) <-holding [ov] (getMethod ov m pl)
   callWith pos f first (backTo pos (starEach (e::es) X.env)) (backToKw pos (keywordEach [] X.env))):=by rfl) :
 PE X (.Call (.Attribute o m apos) (e::es) [] pos) (xJ C m sp Zz E ta t):=SK he c h hr hx ha hst hpl ht
def pm0 {pl:zX} (he:PE X o ta) (h:cR X.prog X.w X.K X.mg X.base C k m ps sp Zz) (c:Zw X.K C:=by walk_at "tc") (hr:iH k X.A:=by walk_at "hm") (hx:fX (CXE X.prog X.w) X E:=by exact iJ)
 (ht:eval (.Call (.Attribute o m apos) [] [] pos) X.env=(do
   let ov <-eval o X.env
   standAt apos.atName
   let (f,first) <-holding [ov] (getMethod ov m pl)
   callWith pos f first (backTo pos (starEach [] X.env)) (backToKw pos (keywordEach [] X.env))):=by rfl) :
 PE X (.Call (.Attribute o m apos) [] [] pos) (xJ C m sp Zz E ta KR):=Uq he c h hr hx ht
def pk (h:jw X.prog X.w X.K X.mg X.base C k ps sp Zz) (ha:PA X (e::es) t) (hr:iH (k+1) X.A:=by walk_at "hm") (hg:Gl X x:=by rfl) (hm:X.mg x=some (.ref C):=by walk_at "tm") (hx:fX (CXE X.prog X.w) X E:=by exact iJ)
 (hdb:(x==("__debug__" : Str))=false:=by decide) (he:starEach (e::es) X.env=(false,eval e X.env)::starEach es X.env:=by rfl) (hpl:(backTo pos (starEach es X.env)).any (·.1)=false:=by rfl) :
 PE X (.Call (.Name x p) (e::es) [] pos) (E5 C sp Zz E t):=J_ h hr hg hm hx ha hdb he hpl
def pxr (ha:PA X (e::es) t) (hg:Gl X x:=by rfl) (hm:X.mg x=some (.ref C):=by walk_at "tm") (hC:sH X.K C:=by walk_at "tx") (hc:X.calm=true:=by rfl) (hx:fX (CXE X.prog X.w) X E:=by exact iJ) (hdb:(x==("__debug__" : Str))=false:=by decide)
 (he:starEach (e::es) X.env=(false,eval e X.env)::starEach es X.env:=by rfl) (hpl:(backTo cpos (starEach es X.env)).any (·.1)=false:=by rfl) :
 PS X (.Raise (some (.Call (.Name x np) (e::es) [] cpos)) none pos) (MT C E t):=MU hC hc hg hm hx ha hdb he hpl
def gn (i:Nat){x:Str}(hN:X.N.Nodup)(hi:X.N[i]?=some x:=by rfl)(hx:Loc X.env.scope x:=by first | exact acG rfl | exact aci rfl)(hf:X.fn x=true\/X.env.scope.names.lookup x=some .local:=by first | exact .inl rfl | exact .inr rfl | assumption): PG X (.Name x pos) (yz i):=pH hN hi hx hf
def fl (he:PE X e ta)(hb:attributeBase e f X.env (eval e X.env)=eval e X.env:=by rfl): PE X (.Attribute e f pos) (TV X.K ta f):=MF he hb
def ce {a b:Expr}{tb:TE}{op:CmpOp}{r:R2}(ho:OpR X (compareOp op) r)(ha:PE X a ta)(hb:PE X b tb)(hm:behindInMarks op b=false:=by first | exact My _ | with_unfolding_all rfl): PE X (.Compare a [op] [b] pos) (tOp r ta tb):=Pw ho ha hb hm
def ct {a b:Expr}{tb:TE}{op:CmpOp}{r:R2}(ho:OpR X (compareOp op) r)(ha:PE X a ta)(hb:PE X b tb)(hm:behindInMarks op b=false:=by first | exact My _ | with_unfolding_all rfl): PT X (.Compare a [op] [b] pos) (MA (tOp r ta tb)):=Px ho ha hb hm
def fo {tg iter:Expr}{body:zS}{wi:TI}{g:TG}{tb:TS}(hi:PI X tg iter wi)(hg:PG X tg g)(hb:PSs X body tb)(hp:PassesOwn (model X.prog X.w) X.A X.env X.xe:=by exact J0)(hc:X.calm=true:=by rfl)(hs:∀x,foldedSetIterable iter X.env x=pure x:=by intro _;rfl): PS X (.For tg iter body [] pos) (VU wi g tb):=TN hp hc hi hg hb hs
def isi (ha:PA X (e::es) t) (hg:Gl X "isinstance" := by rfl) (hm:X.mg "isinstance" = none:=by walk_at "tb") (he:starEach (e::es) X.env=(false,eval e X.env)::starEach es X.env:=by rfl) (hpl:(backTo pos (starEach es X.env)).any (·.1)=false:=by rfl):PE X (.Call (.Name "isinstance" p) (e::es) [] pos) (tCB (λxs H Q=>∃x c t b,xs=[x,c]/\IL c=true/\TyE X.K H x t/\Qe X.K t (Uo c)=some b/\Q (.bl b) H) t):=mU GD hg hm Boot.«isinstance» ha (by decide) (by decide) he hpl
def ln (ha:PA X (e::es) t) (hg:Gl X "len" := by rfl) (hm:X.mg "len" = none:=by walk_at "tb") (he:starEach (e::es) X.env=(false,eval e X.env)::starEach es X.env:=by rfl) (hpl:(backTo pos (starEach es X.env)).any (·.1)=false:=by rfl):PE X (.Call (.Name "len" p) (e::es) [] pos) (tCB (λxs H Q=>∃p ys,xs=[.ref p]/\(Zx X.K H p ys\/SqT X.K H p ys)/\Q (.int ys.length) H) t):=mU EL hg hm adY ha (by decide) (by decide) he hpl
end
def ln2 {α:Type}{l:List α}(h:l.length=2): ∃a b,l=[a,b]:=by
 let⟨a,l,rfl⟩:=List.exists_cons_of_length_pos (l:=l) (by lia);let⟨b,rfl⟩:=abe.mp (acy h);exact⟨a,b,rfl⟩
end L2
local macro_rules | `(tactic| walk_at "lk") => `(tactic| first | exact L2.f9 | (apply L2.dX; (first | done | decide +kernel); walk_at "lk") | exact rfl)
local macro_rules | `(tactic| walk_at "hp") => `(tactic| first | assumption | exact L2.ah | (apply L2.fc; (first | done | assumption); walk_at "hp") | (apply L2.f7; (first | done | assumption); walk_at "hp"))
local macro_rules | `(tactic| walk_at "ty") => `(tactic| first | assumption | exact L2.TyE.of (L2.aw.int _) | exact L2.TyE.of (L2.aw.bl _) | exact L2.TyE.of L2.aw.non | exact L2.TyE.of (L2.aw.str _) | (apply L2.TyE.of; apply L2.aw.lst; walk_at "hp") | (apply L2.TyE.of; apply L2.aw.tup; walk_at "hp") | (apply L2.TyE.of; apply L2.aw.dK; walk_at "hp"))
local macro_rules | `(tactic| walk_at "cl") => `(tactic| first | ((with_reducible show L2.Zw _ _); walk_at "tc") | ((with_reducible show L2.bK _ _ _); walk_at "tn") | ((with_reducible show PySem.W.kitOne _ _ _ = _); walk_at "tk") | (with_reducible assumption) | (with_reducible show (_ : Int) ≤ _; omega) | (with_reducible show (_ : Int) < _; omega) | (with_reducible show (_ : Nat) ≤ _; omega) | (with_reducible show (_ : Nat) < _; omega) | exact rfl | assumption | (with_reducible apply L2.Zx.of; walk_at "hp") | (with_reducible apply L2.SqT.of; walk_at "hp") | walk_at "hp" | ((with_reducible apply Or.inl); assumption) | ((with_reducible apply Or.inr); assumption) | (with_reducible apply Or.inl; with_reducible apply L2.Zx.of; walk_at "hp") | (with_reducible apply Or.inr; with_reducible apply L2.SqT.of; walk_at "hp") | (apply Or.inl; refine And.intro rfl ?_; apply Exists.intro; apply L2.Zx.of; walk_at "hp") | walk_at "lk" | walk_at "ty" | exact L2.cY _ _ | exact L2.fb _ | exact L2.cO | exact L2.ck (Nat.le_of_ble_eq_true rfl) | (show List.length _ < _; exact Nat.le_of_ble_eq_true rfl) | omega | (apply Exists.intro; with_reducible apply L2.Zx.of; walk_at "hp") | (apply Exists.intro; with_reducible apply L2.SqT.of; walk_at "hp") | (apply Or.inr; refine ⟨?_,?_⟩ <;> omega) | (apply Or.inl; refine ⟨?_,?_⟩ <;> omega) | decide | (show (0 : Int) < _; first | decide | omega | assumption) | (refine ⟨?_,?_⟩ <;> decide) | (refine ⟨?_,?_,?_⟩ <;> decide) )
local macro_rules | `(tactic| walk_at "e1") => `(tactic| ((fail_if_success (refine L2.exW ?_ ?_)); (fail_if_success (refine L2.iQ ?_ ?_)); (fail_if_success (refine L2.exN ?_ ?_)); (fail_if_success (refine L2.exD ?_ ?_)); apply Exists.intro))
local macro_rules | `(tactic| walk_at "eg") => `(tactic| fail_if_success (any_goals (with_reducible first | show L2.Iv0 | show L2.Iv1 | show L2.Iv2 | show PySem.PyData)))
local macro_rules | `(tactic| walk_at "ex") => `(tactic| first | (apply L2.ex9; walk_at "eg") | (apply L2.ex6; walk_at "eg") | (apply L2.ex4; walk_at "eg") | (apply L2.ex3; walk_at "eg") | (apply L2.ex2; walk_at "eg") | walk_at "e1")
local macro_rules | `(tactic| walk_at "sq") => `(tactic| (refine L2.sq ?_; intro _ _))
local macro_rules | `(tactic| walk_at "sr") => `(tactic| repeat walk_at "sq")
local macro_rules | `(tactic| walk_at "i1") => `(tactic| ((try walk_at "sq"); first | (apply And.intro; (walk_at "cl")) | walk_at "e1"))
local macro_rules | `(tactic| walk_at "i3") => `(tactic| first | walk_at "sq" | (apply And.intro; (walk_at "cl")) | walk_at "e1")
local macro_rules | `(tactic| walk_at "i2") => `(tactic| first | walk_at "sq" | (apply And.intro; (walk_at "cl")) | walk_at "ex")
local macro_rules | `(tactic| walk_at "go") => `(tactic| repeat walk_at "i2")
local macro_rules | `(tactic| walk_at "l1") => `(tactic| first | (refine L2.lc ?_; exact rfl) | (refine L2.o9 ?_; intro _ _ _ _ _ _ _ _ _; walk_at "l1") | (refine L2.o6 ?_; intro _ _ _ _ _ _; walk_at "l1") | (refine L2.o4 ?_; intro _ _ _ _; walk_at "l1") | (refine L2.o2 ?_; intro _ _; walk_at "l1") | (refine L2.o1 ?_; intro _; walk_at "l1") | exact fun e => congrArg List.length e)
local macro_rules | `(tactic| walk_at "l0") => `(tactic| (intro _ _ _ _; walk_at "l1"))
local macro_rules | `(tactic| walk_at "c3") => `(tactic| first | exact L2.eZ (by assumption) | (with_reducible refine L2.eZ ?_) | (with_reducible refine L2.iB ?_) | (refine L2.dI (fun _ => ?_) (fun z => absurd (by omega) z)) | (refine L2.dI (fun z => absurd z (by omega)) (fun _ => ?_)) | (refine L2.eT (fun z => absurd (by omega) z) (fun _ => ?_)) | (refine L2.eT (fun _ => ?_) (fun z => absurd z (by omega))) | (refine L2.dF (fun z => absurd (by omega) z) (fun _ => ?_)) | (refine L2.dF (fun _ => ?_) (fun z => absurd z (by omega))) | (refine L2.d6 (fun z => absurd z (by omega)) (fun _ => ?_)) | (refine L2.d6 (fun _ => ?_) (fun z => absurd (by omega) z)))
local macro_rules | `(tactic| walk_at "gg") => `(tactic| repeat (first | walk_at "i2" | walk_at "c3"))
seal L2.iG L2.PA L2.PE L2.PS L2.PSs L2.PT L2.PG L2.PI
namespace K42
open PySem L2 Gm Gn
abbrev Sc (n:zq)(k:Nat)(s:Stmt): Prop:=mE n (n.take k) (cQ s)
def top (i:Nat): Stmt:=PySem.Challenge.pw_leafframe_k42_refused_in_order.main.body.getD i (.Pass ⟨0,0,0,0⟩)
abbrev cS (i j:Nat): Stmt:=inClass (top i) j
abbrev my:Stmt:=top 115
def rS:Sc ["self","count","number"] 2 (cS 32 1):=by walk_at "sc"
def ur:Sc ["self","words","count","number"] 3 (cS 37 3):=by walk_at "sc"
def xR:Sc ["self","rights"] 2 (cS 22 0):=by walk_at "sc"
def G4:Sc ["self","deed"] 2 (cS 22 1):=by walk_at "sc"
def vZ:Sc ["self","page"] 2 (cS 14 0):=by walk_at "sc"
def v7:Sc ["self","task","address","deed"] 4 (cS 15 0):=by walk_at "sc"
def uV:Sc ["self","shape","frames","slots","near"] 5 (cS 67 0):=by walk_at "sc"
def Bh:Sc ["_law_script","_law_memory","_law_task","_law_cell","_law_way"] 1 my:=by walk_at "sc"
structure Adr where
 (fG pe d7 eI ki jC iL eO fH iu lC iM gA pP cP fK lD dG dN fL dH iY fJ eJ fN ic gJ eW hJ eR fq eK nO jk:Addr)
abbrev v9 (a:Adr): List Value:=[.ref a.fH,.ref a.eI,.ref a.eO,.ref a.iu,.ref a.iM,.ref a.gA,.ref a.d7,.ref a.iL,.ref a.cP,.ref a.fK,.ref a.jC,.ref a.lC,.ref a.ki,.type "ValueError",.ref a.pP]
structure TxA [Gm](a:Adr): Prop where
 d9:Zw K a.lD
 cU:Zw K a.dG
 dY:Zw K a.dN
 fh:Zw K a.fL
 cZ:Zw K a.dH
 d_:Zw K a.iY
 cJ:Zw K a.fJ
 dk:Zw K a.eJ
 ef:Zw K a.fN
 eh:Zw K a.ic
 dm:Zw K a.gJ
 cK:Zw K a.eW
 dZ:Zw K a.hJ
 dq:Zw K a.eR
 cL:Zw K a.fq
 du:Zw K a.eK
 aQ:bK K a.fJ "kept"
 aR:bK K a.dG "frame"
 bv:bK K a.dG "name"
 bw:bK K a.dG "part"
 aC:bK K a.dG "rights"
 bx:bK K a.dG "slot"
 aS:bK K a.iY "marked"
 az:bK K a.iY "standing"
 bz:bK K a.dN "frame"
 bU:bK K a.dN "name"
 bV:bK K a.dN "part"
 aL:bK K a.dN "rights"
 bW:bK K a.dN "slot"
 aT:bK K a.lD "rights"
 aU:bK K a.fq "near"
 aV:bK K a.fq "pool"
 aG:bK K a.fq "shape"
 aA:bK K a.fq "shares"
 aB:bK K a.fq "spaces"
 aH:bK K a.fq "walks"
 aW:bK K a.dH "frame"
 bA:bK K a.dH "name"
 bB:bK K a.dH "part"
 aE:bK K a.dH "rights"
 bC:bK K a.dH "slot"
 bD:bK K a.ic "lines"
 bX:bK K a.ic "many"
 bY:bK K a.fL "frame"
 cB:bK K a.fL "name"
 cC:bK K a.fL "part"
 bf:bK K a.fL "rights"
 cD:bK K a.fL "slot"
 au:bK K a.fN "frame_store"
 bZ:bK K a.fN "hand"
 aX:bK K a.fN "length"
 av:bK K a.fN "slot_store"
 b0:bK K a.eK "low"
 aI:bK K a.eK "widths"
 aJ:bK K a.gJ "leaves"
 bE:bK K a.gJ "uses"
 aY:bK K a.eW "kept"
 aZ:bK K a.eR "shape"
 bF:bK K a.eR "task"
 bG:bK K a.eR "tree"
 ay:bK K a.eJ "contents"
 aK:bK K a.eJ "length"
 a_:bK K a.eJ "tally"
 bH:bK K a.hJ "shape"
 cE:bK K a.hJ "top"
 bS:sH K a.fG
 bJ:mg "LeafError" = some (.ref a.fG)
 cM:mg "NoShape" = some (.ref a.pe)
 b_:sH K a.d7
 bQ:mg "NoAddress" = some (.ref a.d7)
 cf:sH K a.eI
 bR:mg "NoStretch" = some (.ref a.eI)
 cz:mg "NoNumber" = some (.ref a.ki)
 fD:sH K a.jC
 fj:mg "Full" = some (.ref a.jC)
 dB:sH K a.iL
 c7:mg "NoWord" = some (.ref a.iL)
 cF:sH K a.eO
 cA:mg "NoRights" = some (.ref a.eO)
 dC:sH K a.fH
 c8:mg "NoTask" = some (.ref a.fH)
 dD:sH K a.iu
 c9:mg "NoName" = some (.ref a.iu)
 cI:mg "NoShare" = some (.ref a.lC)
 dE:sH K a.iM
 db:mg "Unlike" = some (.ref a.iM)
 dS:mg "Taken" = some (.ref a.gA)
 d4:mg "Fault" = some (.ref a.pP)
 cq:mg "Unmapped" = some (.ref a.cP)
 cV:mg "Barred" = some (.ref a.fK)
 eU:mg "Leaf" = some (.ref a.lD)
 dP:mg "Fresh" = some (.ref a.dG)
 eM:mg "Held" = some (.ref a.dN)
 fU:mg "Out" = some (.ref a.fL)
 dJ:mg "Named" = some (.ref a.dH)
 fw:mg "Hand" = some (.ref a.iY)
 dw:mg "Counts" = some (.ref a.fJ)
 eo:mg "Store" = some (.ref a.eJ)
 fz:mg "Pool" = some (.ref a.fN)
 fA:mg "Near" = some (.ref a.ic)
 eD:mg "Share" = some (.ref a.gJ)
 di:mg "Shares" = some (.ref a.eW)
 fB:mg "Tree" = some (.ref a.hJ)
 eE:mg "Space" = some (.ref a.eR)
 dA:mg "Memory" = some (.ref a.fq)
 eF:mg "Shape" = some (.ref a.eK)
 sK:XL K a.cP
 mz:sf K a.cP "address"
 ph:sf K a.cP "deed"
 pj:sf K a.cP "task"
 tZ:vX K a.cP "address"
 xS:vX K a.cP "deed"
 xT:vX K a.cP "task"
 G5:XL K a.gA
 CM:sf K a.gA "page"
 CN:vX K a.gA "page"
 Em:XL K a.fK
 wa:sf K a.fK "address"
 Bi:sf K a.fK "deed"
 Bj:sf K a.fK "task"
 wc:vX K a.fK "address"
 Bk:vX K a.fK "deed"
 Bl:vX K a.fK "task"
 wd:NB K a.fG
 dj:mg "NEEDED" = some (.ref a.jk)
 jk:TopD w.params K a.jk
 d5:mg "SIZES" = some (.ref a.nO)
 bp:mg "ValueError" = none
 fk:mg "bool" = none
 bT:mg "enumerate" = none
 gb:mg "int" = none
 bI:mg "isinstance" = none
 fY:mg "len" = none
 eN:mg "list" = none
 dQ:mg "range" = none
 cu:mg "reversed" = none
 cW:mg "sorted" = none
 gi:mg "sum" = none
 dU:mg "tuple" = none
 fZ:mg "zip" = none
 Rf:XIs K a.gA
 Jc:XIs K a.cP
 NR:XIs K a.fK
 G6:XIs K a.d7
 G7:XIs K a.eI
 Jd:XIs K a.eO
 NS:XIs K a.fH
 NT:XIs K a.iL
 NU:XIs K a.iu
 NV:XIs K a.iM
 UA:XIs K a.jC
 isk:IsK K
 NW:∀{H:Hp} {x dx:Addr} {fs:zw},H x=some (.ins a.dG dx fs)->TyE K H (.ref x) (.ref a.dG)
 aM:Qe K (.ref a.dG) (.ref a.dG)=some true
 bg:Qe K (.ref a.dG) (.ref a.dN)=some false
 bL:Qe K (.ref a.dG) (.ref a.fL)=some false
 aN:Qe K (.ref a.dG) (.ref a.dH)=some false
 Rg:∀{H:Hp} {x dx:Addr} {fs:zw},H x=some (.ins a.dN dx fs)->TyE K H (.ref x) (.ref a.dN)
 bh:Qe K (.ref a.dN) (.ref a.dG)=some false
 bM:Qe K (.ref a.dN) (.ref a.dN)=some true
 cw:Qe K (.ref a.dN) (.ref a.fL)=some false
 bj:Qe K (.ref a.dN) (.ref a.dH)=some false
 UB:∀{H:Hp} {x dx:Addr} {fs:zw},H x=some (.ins a.fL dx fs)->TyE K H (.ref x) (.ref a.fL)
 bN:Qe K (.ref a.fL) (.ref a.dG)=some false
 cy:Qe K (.ref a.fL) (.ref a.dN)=some false
 cH:Qe K (.ref a.fL) (.ref a.fL)=some true
 bO:Qe K (.ref a.fL) (.ref a.dH)=some false
 NX:∀{H:Hp} {x dx:Addr} {fs:zw},H x=some (.ins a.dH dx fs)->TyE K H (.ref x) (.ref a.dH)
 aO:Qe K (.ref a.dH) (.ref a.dG)=some false
 bo:Qe K (.ref a.dH) (.ref a.dN)=some false
 bP:Qe K (.ref a.dH) (.ref a.fL)=some false
 aP:Qe K (.ref a.dH) (.ref a.dH)=some true
 LA:KtL K (.ref a.fH) (v9 a) [true,false,false,false,false,false,false,false,false,false,false,false,false,true,false]
 E9:KtL K (.ref a.eI) (v9 a) [false,true,false,false,false,false,false,false,false,false,false,false,false,true,false]
 G8:KtL K (.ref a.eO) (v9 a) [false,false,true,false,false,false,false,false,false,false,false,false,false,true,false]
 LC:KtL K (.ref a.iu) (v9 a) [false,false,false,true,false,false,false,false,false,false,false,false,false,true,false]
 LD:KtL K (.ref a.iM) (v9 a) [false,false,false,false,true,false,false,false,false,false,false,false,false,true,false]
 NY:KtL K (.ref a.gA) (v9 a) [false,false,false,false,false,true,false,false,false,false,false,false,false,true,false]
 E_:KtL K (.ref a.d7) (v9 a) [false,false,false,false,false,false,true,false,false,false,false,false,false,true,false]
 LI:KtL K (.ref a.iL) (v9 a) [false,false,false,false,false,false,false,true,false,false,false,false,false,true,false]
 G9:KtL K (.ref a.cP) (v9 a) [false,false,false,false,false,false,false,false,true,false,false,false,false,true,true]
 LJ:KtL K (.ref a.fK) (v9 a) [false,false,false,false,false,false,false,false,false,true,false,false,false,true,true]
 Rh:KtL K (.ref a.jC) (v9 a) [false,false,false,false,false,false,false,false,false,false,true,false,false,true,false]
 NZ:QT K a.fH (.ref a.fG)=some true
 G_:QT K a.eI (.ref a.fG)=some true
 Je:QT K a.eO (.ref a.fG)=some true
 N0:QT K a.iu (.ref a.fG)=some true
 N4:QT K a.iM (.ref a.fG)=some true
 Ri:QT K a.gA (.ref a.fG)=some true
 Hc:QT K a.d7 (.ref a.fG)=some true
 N5:QT K a.iL (.ref a.fG)=some true
 Jf:QT K a.cP (.ref a.fG)=some true
 N6:QT K a.fK (.ref a.fG)=some true
 UC:QT K a.jC (.ref a.fG)=some true
 Wp:NeC K a.dG
 XW:NeC K a.dN
 Ys:NeC K a.fL
 Wq:NeC K a.dH
 N7:Qv K a.dG (.ref a.dG)=true
 Ph:Qv K a.dG (.ref a.dN)=true
 Rj:Qv K a.dG (.ref a.fL)=true
 N8:Qv K a.dG (.ref a.dH)=true
 Pk:Qv K a.dN (.ref a.dG)=true
 Rk:Qv K a.dN (.ref a.dN)=true
 SQ:Qv K a.dN (.ref a.fL)=true
 Pl:Qv K a.dN (.ref a.dH)=true
 Rl:Qv K a.fL (.ref a.dG)=true
 SR:Qv K a.fL (.ref a.dN)=true
 UD:Qv K a.fL (.ref a.fL)=true
 Rn:Qv K a.fL (.ref a.dH)=true
 N9:Qv K a.dH (.ref a.dG)=true
 Pm:Qv K a.dH (.ref a.dN)=true
 Ro:Qv K a.dH (.ref a.fL)=true
 N_:Qv K a.dH (.ref a.dH)=true
 CO:d8 K mg "check_shape" (top 96) ["widths","low"] []
 Bm:d8 K mg "check_inside" (top 97) ["number","bound"] []
 xU:jE K a.eK "Shape.__init__" (cS 98 0) ["self","widths","low"] []
 CP:cN K a.eK "pages" "Shape.pages" (cS 98 1) ["self"] []
 Fb:cN K a.eK "size" "Shape.size" (cS 98 2) ["self"] []
 t_:cN K a.eK "part_widths" "Shape.part_widths" (cS 98 3) ["self"] []
 sg:cN K a.eK "check_address" "Shape.check_address" (cS 98 4) ["self","address"] []
 Hd:cN K a.eK "cut" "Shape.cut" (cS 98 5) ["self","address"] []
 uW:cN K a.eK "address_of" "Shape.address_of" (cS 98 9) ["self","page","place"] []
 yZ:cN K a.eK "page_of" "Shape.page_of" (cS 98 7) ["self","address"] []
 xV:cN K a.eK "place_of" "Shape.place_of" (cS 98 8) ["self","address"] []
 y0:cN K a.eK "stretch" "Shape.stretch" (cS 98 10) ["self","first","many"] []
 wg:jE K a.fJ "Counts.__init__" (cS 32 0) ["self","many"] []
 He:cN K a.fJ "of" "Counts.of" (cS 32 5) ["self","number"] []
 sL:cN K a.fJ "check_taken" "Counts.check_taken" (cS 32 6) ["self","number"] []
 CQ:cN K a.fJ "more" "Counts.more" (cS 32 2) ["self","number"] []
 CT:cN K a.fJ "less" "Counts.less" (cS 32 3) ["self","number"] []
 Oa:cN K a.fJ "freed" "Counts.freed" (cS 32 4) ["self","number"] []
 CU:cN K a.fJ "free" "Counts.free" (cS 32 8) ["self"] []
 LK:d8 K mg "is_word" (top 35) ["thing"] []
 Fc:d8 K mg "check_word" (top 36) ["thing"] []
 xW:jE K a.eJ "Store.__init__" (cS 37 0) ["self","many","size"] []
 ua:cN K a.eJ "check_words" "Store.check_words" (cS 37 1) ["self","words"] []
 uc:cN K a.eJ "check_place" "Store.check_place" (cS 37 2) ["self","number","place"] []
 CV:cN K a.eJ "words" "Store.words" (cS 37 4) ["self","number"] []
 Fd:cN K a.eJ "word" "Store.word" (cS 37 5) ["self","number","place"] []
 Hf:cN K a.eJ "put" "Store.put" (cS 37 6) ["self","number","place","word"] []
 CW:cN K a.eJ "count" "Store.count" (cS 37 7) ["self","number"] []
 Fe:cN K a.eJ "more" "Store.more" (cS 37 8) ["self","number"] []
 Ff:cN K a.eJ "less" "Store.less" (cS 37 9) ["self","number"] []
 Fg:cN K a.eJ "gone" "Store.gone" (cS 37 10) ["self","number"] []
 Fh:cN K a.eJ "free" "Store.free" (cS 37 12) ["self"] []
 y4:jE K a.iY "Hand.__init__" (cS 29 0) ["self","many"] []
 Hg:cN K a.iY "mark" "Hand.mark" (cS 29 1) ["self","frame"] []
 CY:cN K a.iY "unmark" "Hand.unmark" (cS 29 2) ["self","frame"] []
 Rp:cN K a.iY "go_on" "Hand.go_on" (cS 29 3) ["self"] []
 CZ:cN K a.iY "chosen" "Hand.chosen" (cS 29 4) ["self"] []
 Bn:d8 K mg "check_rights" (top 20) ["rights"] []
 UE:d8 K mg "lets" (top 21) ["rights","deed"] []
 y6:cN K a.dG "righted" "Fresh.righted" (cS 23 1) ["self","rights"] []
 y7:jE K a.dN "Held.__init__" (cS 24 0) ["self","rights","frame"] []
 Bo:cN K a.dN "righted" "Held.righted" (cS 24 2) ["self","rights"] []
 Bp:jE K a.fL "Out.__init__" (cS 25 0) ["self","rights","slot"] []
 C0:cN K a.fL "righted" "Out.righted" (cS 25 2) ["self","rights"] []
 xX:jE K a.dH "Named.__init__" (cS 26 0) ["self","rights","name","part"] []
 y9:cN K a.dH "righted" "Named.righted" (cS 26 2) ["self","rights"] []
 y_:jE K a.fN "Pool.__init__" (cS 40 0) ["self","frames","slots","size"] []
 Hh:cN K a.fN "room" "Pool.room" (cS 40 14) ["self"] []
 Bq:cN K a.fN "put_out" "Pool.put_out" (cS 40 3) ["self"] []
 wj:cN K a.fN "brought_in" "Pool.brought_in" (cS 40 4) ["self","words","count"] []
 Hi:cN K a.fN "made" "Pool.made" (cS 40 1) ["self","words"] []
 Br:cN K a.fN "fetched" "Pool.fetched" (cS 40 2) ["self","slot"] []
 Hj:cN K a.fN "word" "Pool.word" (cS 40 5) ["self","frame","place"] []
 Jg:cN K a.fN "put" "Pool.put" (cS 40 6) ["self","frame","place","word"] []
 Hk:cN K a.fN "more" "Pool.more" (cS 40 7) ["self","leaf"] []
 Hl:cN K a.fN "less" "Pool.less" (cS 40 8) ["self","leaf"] []
 Fi:cN K a.fN "words" "Pool.words" (cS 40 9) ["self","leaf"] []
 Fj:cN K a.fN "count" "Pool.count" (cS 40 10) ["self","leaf"] []
 Aa:jE K a.ic "Near.__init__" (cS 53 0) ["self","many"] []
 xY:cN K a.ic "place_for" "Near.place_for" (cS 53 1) ["self","task","page"] []
 Fk:cN K a.ic "found" "Near.found" (cS 53 2) ["self","task","page"] []
 Hm:cN K a.ic "note" "Near.note" (cS 53 3) ["self","task","page","frame","rights"] []
 C2:cN K a.ic "forget" "Near.forget" (cS 53 4) ["self","task","page"] []
 uX:cN K a.ic "forget_task" "Near.forget_task" (cS 53 5) ["self","task"] []
 ud:cN K a.ic "forget_frame" "Near.forget_frame" (cS 53 6) ["self","frame"] []
 Jh:d8 K mg "moved_by" (top 39) ["leaf","moves"] []
 xZ:d8 K mg "one_level_down" (top 61) ["nodes","width"] []
 Rq:d8 K mg "prune" (top 62) ["path","indexes"] []
 Ab:jE K a.hJ "Tree.__init__" (cS 63 0) ["self","shape"] []
 Bv:cN K a.hJ "indexes" "Tree.indexes" (cS 63 1) ["self","page"] []
 Bw:cN K a.hJ "path_to" "Tree.path_to" (cS 63 2) ["self","indexes"] []
 Hn:cN K a.hJ "leaf" "Tree.leaf" (cS 63 3) ["self","page"] []
 Ji:cN K a.hJ "put" "Tree.put" (cS 63 4) ["self","page","leaf"] []
 Ho:cN K a.hJ "drop" "Tree.drop" (cS 63 5) ["self","page"] []
 Hq:cN K a.hJ "rows" "Tree.rows" (cS 63 6) ["self"] []
 x0:jE K a.eR "Space.__init__" (cS 65 0) ["self","shape","task"] []
 Fl:cN K a.eR "leaf" "Space.leaf" (cS 65 6) ["self","page"] []
 Hr:cN K a.eR "put" "Space.put" (cS 65 7) ["self","page","leaf"] []
 Fn:cN K a.eR "rows" "Space.rows" (cS 65 8) ["self"] []
 sM:cN K a.eR "check_mapped" "Space.check_mapped" (cS 65 4) ["self","pages","deed"] []
 Ht:cN K a.eR "lay" "Space.lay" (cS 65 1) ["self","first","leaves"] []
 Fo:cN K a.eR "lift" "Space.lift" (cS 65 2) ["self","first","many"] []
 By:cN K a.eR "change" "Space.change" (cS 65 3) ["self","first","many","rights"] []
 Fp:cN K a.eR "seek" "Space.seek" (cS 65 5) ["self","address","deed"] []
 Fq:cN K a.eR "like" "Space.like" (cS 65 10) ["self","task"] []
 Fs:d8 K mg "check_name" (top 57) ["name"] []
 x5:jE K a.gJ "Share.__init__" (cS 58 0) ["self","many"] []
 wn:jE K a.eW "Shares.__init__" (cS 59 0) ["self"] []
 C3:cN K a.eW "fits" "Shares.fits" (cS 59 1) ["self","name","many"] []
 Bz:cN K a.eW "share" "Shares.share" (cS 59 3) ["self","name"] []
 Ft:cN K a.eW "use" "Shares.use" (cS 59 2) ["self","name","many"] []
 Il:cN K a.eW "share_with" "Shares.share_with" (cS 59 4) ["self","name","part"] []
 C5:cN K a.eW "more" "Shares.more" (cS 59 5) ["self","name"] []
 C6:cN K a.eW "less" "Shares.less" (cS 59 6) ["self","name"] []
 C7:cN K a.eW "leaf" "Shares.leaf" (cS 59 7) ["self","name","part"] []
 Fu:cN K a.eW "put" "Shares.put" (cS 59 8) ["self","name","part","leaf"] []
 Ob:cN K a.eW "parts" "Shares.parts" (cS 59 9) ["self","name"] []
 C8:cN K a.eW "rows" "Shares.rows" (cS 59 10) ["self"] []
 wo:d8 K mg "least_free_task" (top 68) ["memory"] []
 Fv:d8 K mg "begin_task" (top 69) ["memory"] []
 Jj:d8 K mg "space_of" (top 70) ["memory","task"] []
 Fw:d8 K mg "live_tasks" (top 71) ["memory"] []
 Hu:d8 K mg "room_left" (top 72) ["memory"] []
 Jk:d8 K mg "walks_of" (top 73) ["memory"] []
 BD:d8 K mg "content_leaf" (top 42) ["memory","leaf"] []
 x6:d8 K mg "forget_content" (top 43) ["memory","leaf"] []
 BE:d8 K mg "content_more" (top 44) ["memory","leaf"] []
 BF:d8 K mg "content_less" (top 45) ["memory","leaf"] []
 Fx:d8 K mg "count_more" (top 46) ["memory","leaf"] []
 Fy:d8 K mg "count_less" (top 47) ["memory","leaf"] []
 Hv:d8 K mg "move_task" (top 49) ["space","moves"] []
 Fz:d8 K mg "move_share" (top 50) ["shares","name","moves"] []
 C9:d8 K mg "move_leaves" (top 48) ["memory","moves"] []
 BG:d8 K mg "forget_pages" (top 75) ["memory","task","first","many"] []
 Hw:d8 K mg "map_pages" (top 76) ["memory","task","first","many","rights"] []
 C_:d8 K mg "unmap_pages" (top 77) ["memory","task","first","many"] []
 Dc:d8 K mg "share_pages" (top 79) ["memory","task","name","first","many","rights"] []
 Ac:d8 K mg "change_rights" (top 78) ["memory","task","first","many","rights"] []
 FA:d8 K mg "near_frame" (top 84) ["memory","task","address","deed"] []
 FC:d8 K mg "note_frame" (top 85) ["memory","task","page","leaf","frame"] []
 FD:d8 K mg "brought_in" (top 87) ["memory","content"] []
 FE:d8 K mg "read_found" (top 86) ["memory","task","page","place","leaf"] []
 Hx:d8 K mg "read_word" (top 82) ["memory","task","address"] []
 uf:d8 K mg "needs_new_content" (top 89) ["memory","leaf","content"] []
 Dd:d8 K mg "new_content" (top 90) ["memory","content","place","word"] []
 wq:d8 K mg "written_content" (top 88) ["memory","place","leaf","word"] []
 De:d8 K mg "put_content" (top 91) ["memory","task","page","leaf","content"] []
 FG:d8 K mg "write_word" (top 83) ["memory","task","address","word"] []
 Hy:d8 K mg "fork_task" (top 100) ["memory","task"] []
 Jl:d8 K mg "end_task" (top 101) ["memory","task"] []
 BH:d8 K mg "_law_cell_at" (top 103) ["_law_script","_law_k"] []
 FH:d8 K mg "_law_kinds" (top 104) ["_law_e"] []
 Df:d8 K mg "_law_called" (top 105) ["_law_memory","_law_way","_law_a"] []
 FI:d8 K mg "_law_found" (top 106) ["_law_memory","_law_way","_law_a"] []
 wx:d8 K mg "_law_stretch_of" (top 107) ["_law_a","_law_way","_law_cell","_law_bad_here"] []
 BI:d8 K mg "_law_page_of" (top 108) ["_law_way","_law_bad_here"] []
 x9:d8 K mg "_law_arguments" (top 109) ["_law_way","_law_cell","_law_bad_here"] []
 FJ:d8 K mg "_law_order" (top 110) ["_law_way"] []
 Jm:d8 K mg "_law_due" (top 111) ["_law_way","_law_a","_law_bad_here"] []
 Dg:d8 K mg "_law_undone" (top 112) ["_law_memory","_law_way"] []
 Jn:d8 K mg "_law_bad" (top 113) ["_law_way","_law_cell"] []
 FK:d8 K mg "_law_right" (top 114) ["_law_memory","_law_way","_law_cell","_law_number"] []
structure Zq [Gm](a:Adr): Prop extends TxA a where
 n8:∃t,qY K a.jk "read" = some (some (.int 1 t))
 mY:∃t,qY K a.jk "write" = some (some (.int 2 t))
 n9:∃t,mg "MOST_FRAMES" = some (.int 64 t)
 mZ:∃t,mg "MOST_NUMBERS" = some (.int 64 t)
 pQ:∃t,mg "MOST_WORDS" = some (.int 64 t)
 Rt:∀H,SqT K H a.nO [.int 0,.int 1,.int 2,.int 4,.int 8,.int 16,.int 32,.int 64]
 m4:∃t,mg "MOST_LETTERS" = some (.int 8 t)
 n_:∃t,mg "BOTH_RIGHTS" = some (.int 3 t)
 pR:∃t,mg "READ_ALONE" = some (.int 1 t)
 pS:∃t,mg "MOST_WIDTH" = some (.int 24 t)
 uY:∃t,mg "MOST_LOW" = some (.int 6 t)
 pT:∃t,mg "MOST_PAGES" = some (.int 64 t)
def eQ {H H':Hp}{q:Addr}{o:HO}(hq:H q=none)(hh:upd H q o=H'): Zy H H'/\H' q=some o:=by subst hh;exact⟨cT hq,ah⟩
def Oc {H H':Hp}{y dy:Addr}{o o1 o2:HO}(hy:H y=none)(hdy:H dy=none)(hh:upd (upd (upd H dy o1) y o2) y o=H'): Zy H H'/\H' y=some o:=by
 subst hh;refine⟨λb u e=>?_,ah⟩;rw[ak (aj e hy),ak (aj e hy),ak (aj e hdy)];exact e
structure Bx (p:Prop): Prop where
 o:p
def Bx.el {p G:Prop}(k:p->G): Bx p->G:=λh=>k h.o
structure Good (ns:zm)(low:Int): Prop where
 len:ns.length=2\/ns.length=3
 all:∀x∈ns,1<=x/\x<=24
 LL:0<=low
 LN:low<=6
def pgs (ns:zm): Int:=2^ns.sum.toNat
def plc (low:Int): Int:=2^low.toNat
def two_pos (k:Nat): (0:Int) < 2^k:=aeM (by decide)
def uZ {a b:Nat}(h:a<=b): (2:Int)^a<=2^b:=by exact_mod_cast Nat.pow_le_pow_right (by decide:0 < 2) h
def Jo:∀{ns:zm},(∀x∈ns,1<=x/\x<=24)->(ns.length:Int)<=ns.sum/\ns.sum<=24*ns.length
 | [],_=>by simp
 | n::r,h=>by
   have h1:=h n qG;have h2:=Jo (ns:=r) λx hx=>h x (qB _ hx);rw[ael,qJ];lia
def Good.sum {ns:zm}{low:Int}(g:Good ns low): 2<=ns.sum/\ns.sum<=72:=by
 have h:=Jo g.all;have:=g.len;lia
def Good.sz {ns:zm}{low:Int}(g:Good ns low): (0 < pgs ns/\pgs ns<=2^72)/\0 < plc low/\plc low<=64 :=
 ⟨⟨two_pos _,uZ (by have:=g.sum;lia)⟩,two_pos _,uZ (b:=6) (by have:=g.LN;lia)⟩
def u_ (C:Addr)(H:Hp)(p:Addr)(ns:zm)(low:Int): Prop:=∃dx t,H p=some (.ins C dx [("widths",.ref t),("low",.int low)])/\H t=some (.tup (ns.map V.int))
def u_.same {C:Addr}{H H':Hp}{p:Addr}{ns:zm}{low:Int}(S:u_ C H p ns low)(sm:Zy H H'): u_ C H' p ns low :=
 by let⟨dx,t,h1,h2⟩:=S;exact ⟨dx,t,sm _ _ h1,sm _ _ h2⟩
def FL:Sp:=λvs H Q _=>∃p ns low,vs=[.ref p,.int low]/\H p=some (.lst (ns.map V.int))/\Good ns low/\∀H',Zy H H'->Q .non H'
def Od (a:Adr): Sp:=λvs H Q _=>∃p w dx ns low,vs=[.ref p,.ref w,.int low]/\H p=some (.ins a.eK dx [])/\H w=some (.lst (ns.map V.int))/\Good ns low/\∀H',u_ a.eK H' p ns low->(∀b o,H b=some o->b≠p->H' b=some o)->Q .non H'
abbrev ShG (a:Adr)(H:Hp)(p:Addr)(ns:zm)(low:Int): Prop:=u_ a.eK H p ns low/\Good ns low
def Ru (a:Adr): Sp:=λvs H Q _=>∃p ns low,vs=[.ref p]/\ShG a H p ns low/\Q (.int (pgs ns)) H
def UG (a:Adr): Sp:=λvs H Q _=>∃p ns low,vs=[.ref p]/\ShG a H p ns low/\Q (.int (plc low)) H
def Oe (a:Adr): Sp:=λvs H Q E=>∃n b:Int,vs=[.int n,.int b]/\(0<=n/\n < b->Q .non H)/\(¬(0<=n/\n < b)->E (.ref a.d7) none H)
abbrev InA (ns:zm)(low n:Int): Prop:=0<=n/\n < pgs ns*plc low
abbrev InP (ns:zm)(n:Int): Prop:=0<=n/\n < pgs ns
def UH (a:Adr): Sp:=λvs H Q E=>∃p ns low n,vs=[.ref p,.int n]/\ShG a H p ns low/\(InA ns low n->Q .non H)/\(¬InA ns low n->E (.ref a.d7) none H)
def Og (a:Adr): Sp:=λvs H Q E=>∃p ns low n,vs=[.ref p,.int n]/\ShG a H p ns low/\(InA ns low n->Q (.int (n / plc low)) H)/\(¬InA ns low n->E (.ref a.d7) none H)
def LO (a:Adr): Sp:=λvs H Q E=>∃p ns low n,vs=[.ref p,.int n]/\ShG a H p ns low/\(InA ns low n->Q (.int (n%plc low)) H)/\(¬InA ns low n->E (.ref a.d7) none H)
def Oh (a:Adr): Sp:=λvs H Q E=>∃p ns low n m,vs=[.ref p,.int n,.int m]/\ShG a H p ns low/\(InP ns n/\0<=m/\m < plc low->Q (.int (n*plc low+m)) H)/\(¬(InP ns n/\0<=m/\m < plc low)->E (.ref a.d7) none H)
def fO (ns:zm)(first many:Int): Prop:=(1<=many/\many<=64)/\0<=first/\first+many<=pgs ns
def LQ (a:Adr): Sp:=λvs H Q E=>∃p ns low n m,vs=[.ref p,.int n,.int m]/\ShG a H p ns low ∧
 (fO ns n m->∀q H',Zy H H'->H' q=some (.lst ((lA n m.toNat).map V.int))->H q=none->Q (.ref q) H')/\(¬fO ns n m->E (.ref a.eI) none H)
def Rv (a:Adr): Sp:=λvs H Q _=>∃p ns low,vs=[.ref p]/\ShG a H p ns low/\∀t H',Zy H H'->H' t=some (.tup ((ns++[low]).map V.int))->Q (.ref t) H'
def Wr (a:Adr): Sp:=λvs H Q E=>∃p ns low n,vs=[.ref p,.int n]/\ShG a H p ns low ∧
 (InA ns low n->∀t H',Zy H H'->H' t=some (.tup ((parts (ns++[low]) n).map V.int))->Q (.ref t) H')/\(¬InA ns low n->E (.ref a.d7) none H)
def Yt {n:Nat}(h:n=2\/n=3): inV (.int n) [V.int 2,V.int 3]=true:=by
 rw[show [V.int 2,V.int 3]=([2,3]:zm).map V.int from rfl,Bc];exact decide_eq_true (by simp;lia)
def Good.ws {ns:zm}{low:Int}(g:Good ns low): ∀w∈ns++[low],0<=w/\w<=24:=λw hw=>by
 have h0:=g.LL;have h6:=g.LN;rcases q_.mp hw with h | h
 · have:=g.all w h;lia
 · rw[qc.mp h];lia
section
variable [Gn]{a:Adr}{Zz:zu}
abbrev uv (a:Adr): Prop:=ZY P w K mg base 1 "check_shape" ["widths","low"] (FL) []
def BJ (T:Zq a): uv a:=by
 exists T.CO,["widths","low","width"];rintro⟨p,ns,low,rfl,hp,g,k⟩;left;refine⟨_,(ae (cG (ct vP (ln (ao (pv 0))) (fM (aq ai (ao ai)))) (af uq) bb)
     (ae (fo (gP (pv 0)) (gn 2 nD)
     (af (cG (jh (i9 jR jR ai (pv 2) (kO (by rfl) T.pS))) (af uq) bb)))
     (af (cG (jh (i9 jR jR ai (pv 1) (kO (by rfl) T.uY))) (af uq) bb)))),?_⟩
 have l2:((ns.map V.int).length=2\/(ns.map V.int).length=3):=by rw[qa];exact g.len
 have g0:=g.LL;have g6:=g.LN;ext;intro t ht;have sm:=cT (u:=.tup [V.int 2,V.int 3]) ht;generalize hh:upd H t _=H1 at sm;have e1:H1 t=some (.tup [V.int 2,V.int 3]):=by rw[<-hh];exact ah
 have hp1:=sm _ _ hp;ext;rw[Yt l2];ext;refine iq (xs:=ns.map V.int) (λi σ H'=>(∃v,σ=[some (.ref p),some (.int low),v])/\H'=H1) ⟨⟨none,rfl⟩,rfl⟩ (λi σ H' _ z=>by rw[z.2];exact Zx.of hp1) ?_ ?_
 · rintro i v σ H' hi ⟨⟨w,rfl⟩,rfl⟩
   let⟨x,rfl,hx⟩:=g_ hi;have b:=g.all x (qw hx);ext;exact⟨⟨_,rfl⟩,rfl⟩
 · rintro σ H' ⟨⟨w,rfl⟩,rfl⟩
   ext;exact k _ sm
abbrev pq (a:Adr): Prop:=jw P w K mg base a.eK 2 ["self","widths","low"] (Od a) []
def wy (T:Zq a)(og:uv a): pq a:=by
 exists T.xU,["self","widths","low"];rintro⟨p,w',dx,ns,low,rfl,hp,hw,g,k⟩;left;refine⟨_,(ae (aF (pf og (aq (pv 1) (ao (pv 2)))))
     (ae (fR (pv 0) (kA CG (by rfl) T.dU PyProof.Rows.Boot.«tuple» (ao (pv 1))) rfl)
     (af (fR (pv 0) (pv 2) rfl)))),?_⟩
 ext;intro H1 sm;have hp1:=sm _ _ hp;have hw1:=sm _ _ hw;ext;refine .inl ⟨Zx.of hw1,λt ht=>?_⟩;have npt:=aj hp1 ht;ext;rw[iK,jg (by exfalso),iK];refine k _ ⟨dx,t,ah,by rw[ak npt.symm,ak npt.symm];exact ah⟩ λb o hb nb=>?_;rw[ak nb,ak nb];exact cT ht _ _ (sm _ _ hb)
abbrev lP (a:Adr): Prop:=cR P w K mg base a.eK 1 "pages" ["self"] (Ru a) []
def BK (T:Zq a): lP a:=by
 exists T.CP,["self"];rintro⟨p,ns,low,rfl,S,k⟩;left;refine⟨_,(af (bq (dL Iv ai (mU (K_ rfl) (by rfl) T.gi PyProof.Rows.Boot.«sum» (ao (fl (pv 0))))))),?_⟩;let⟨⟨dx,t,h1,h2⟩,g⟩:=S;have hs:=g.sum;have cp:Mr 1 ns.sum:=⟨by lia,by lia,by decide⟩;unfold pgs at k;rw[<-acV (2^_)] at k;ext;exact k
abbrev kQ (a:Adr): Prop:=cR P w K mg base a.eK 1 "size" ["self"] (UG a) []
def Dh (T:Zq a): kQ a:=by
 exists T.Fb,["self"];rintro⟨p,ns,low,rfl,S,k⟩;left;refine⟨_,(af (bq (dL Iv ai (fl (pv 0))))),?_⟩;let⟨⟨dx,t,h1,h2⟩,g⟩:=S;have h6:=g.LN;have h0:=g.LL;have cp:Mr 1 low:=⟨by lia,by lia,by decide⟩;unfold plc at k;rw[<-acV (2^_)] at k;ext;exact k
abbrev m5 (a:Adr): Prop:=ZY P w K mg base 1 "check_inside" ["number","bound"] (Oe a) []
def Ad (T:Zq a): m5 a:=by
 exists T.Bm,["number","bound"];rintro⟨n,b,rfl,k1,k2⟩;left;refine⟨_,(af (cG (jh (i9 jR AZ ai (pv 0) (pv 1))) (af (pxr (ao aD))) bb)),?_⟩;ext;refine dI (λc0=>?_) (λc0=>?_)
 · ext
   exact eT (λc1=>⟨cO,k2 λz=>c1 z.2⟩) λc1=>k1 ⟨c0,c1⟩
 · ext
   exact k2 λz=>c0 z.1
abbrev iP (a:Adr): Prop:=cR P w K mg base a.eK 2 "check_address" ["self","address"] (UH a) []
def pU (T:Zq a)(iN:m5 a)(hX:lP a)(gE:kQ a): iP a:=by
 exists T.sg,["self","address"];rintro⟨p,ns,low,n,rfl,S,k1,k2⟩;left;refine⟨_,(af (aF (pf iN (aq (pv 1) (ao (dL EH (pm0 (pv 0) hX) (pm0 (pv 0) gE))))))),?_⟩;let⟨dx,t,h1,h2⟩:=id S.1;let⟨z1,z2⟩:=S.2.sz;have cm:Mt (pgs ns) (plc low):=.inr (by lia);ext;exact k2
abbrev lZ (a:Adr): Prop:=cR P w K mg base a.eK 3 "page_of" ["self","address"] (Og a) []
def yb (T:Zq a)(eY:iP a): lZ a:=by
 exists T.yZ,["self","address"];rintro⟨p,ns,low,n,rfl,S,k1,k2⟩;left;refine⟨_,(ae (aF (pm (pv 0) eY (ao (pv 1))))
     (af (bq (dL Mu (pv 1) (fl (pv 0)))))),?_⟩
 let⟨dx,t,h1,h2⟩:=id S.1;have h0:=S.2.LL;ext;refine⟨λc=>?_,k2⟩;ext;exact k1 c
abbrev jF (a:Adr): Prop:=cR P w K mg base a.eK 3 "place_of" ["self","address"] (LO a) []
def wz (T:Zq a)(eY:iP a)(gE:kQ a): jF a:=by
 exists T.xV,["self","address"];rintro⟨p,ns,low,n,rfl,S,k1,k2⟩;left;refine⟨_,(ae (aF (pm (pv 0) eY (ao (pv 1))))
     (af (bq (dL AY (pv 1) (dL ji (pm0 (pv 0) gE) ai))))),?_⟩
 let⟨dx,t,h1,h2⟩:=id S.1;ext;refine⟨λc=>?_,k2⟩;ext;have:=k1 c;unfold plc at this;rw[<-W.kbt_mask] at this;exact this
abbrev km (a:Adr): Prop:=cR P w K mg base a.eK 2 "address_of" ["self","page","place"] (Oh a) []
def ug (T:Zq a)(iN:m5 a)(hX:lP a)(gE:kQ a): km a:=by
 exists T.uW,["self","page","place"];rintro⟨p,ns,low,n,m,rfl,S,k1,k2⟩;left;refine⟨_,(ae (aF (pf iN (aq (pv 1) (ao (pm0 (pv 0) hX)))))
     (ae (aF (pf iN (aq (pv 2) (ao (pm0 (pv 0) gE)))))
     (af (bq (dL SD (dL Kc (pv 1) (fl (pv 0))) (pv 2)))))),?_⟩
 let⟨dx,t,h1,h2⟩:=id S.1;have h0:=S.2.LL;have h6:=S.2.LN;have z:=S.2.sz;ext;refine⟨λc=>?_,λc=>k2 λz=>c z.1⟩;ext;refine⟨λc2=>?_,λc2=>k2 λz=>c2 z.2⟩;have big:n.natAbs < 2^1000:=Uu c.1 (by lia);ext;refine⟨⟨h0,by lia,big⟩,?_⟩;ext;have:=k1 ⟨c,c2⟩;unfold plc at this;rw[<-GO c.1 c2.1 c2.2] at this;exact this
abbrev ig (a:Adr): Prop:=cR P w K mg base a.eK 2 "stretch" ["self","first","many"] (LQ a) []
def yd (T:Zq a)(hX:lP a): ig a:=by
 exists T.y0,["self","first","many"];rintro⟨p,ns,low,n,m,rfl,S,k1,k2⟩;left;refine⟨_,(ae (cG (jh (i9 jR jR ai (pv 2) (kO (by rfl) T.pT))) (af (pxr (ao aD))) bb)
     (ae (cG (jh (i9 jR jR ai (pv 1) (dL ji (pm0 (pv 0) hX) (pv 2)))) (af (pxr (ao aD))) bb)
     (af (bq (kA (CJ rfl) (by rfl) T.eN PyProof.Rows.Boot.«list» (ao (Lc (by rfl) T.dQ (aq (pv 1) (ao (dL kL (pv 1) (pv 2))))))))))),?_⟩
 let⟨dx,t,h1,h2⟩:=id S.1;have z:=S.2.sz;by_cases st:fO ns n m
 · let⟨⟨a1,a2⟩,a3,a4⟩:=id st
   ext;intro r hr';have er:upd H r (.rng n (n+m)) r=some (.rng n (n+m)):=ah;ext;intro q hq;have e:(n+m-n).toNat=m.toNat:=by lia
   rw[e];exact k1 st q _ ((cT hr').trans (cT hq)) ah ((cT hr').free hq)
 · have k2:=k2 st
   unfold fO at st;ext;refine dI (λc0=>?_) (λc0=>?_)
   · ext
     refine eT (λc1=>⟨cO,k2⟩) (λc1=>?_);ext;refine dI (λc2=>?_) (λc2=>?_)
     · ext
       exact k2
     · ext
       exact k2
   · ext
     exact k2
abbrev mB (a:Adr): Prop:=cR P w K mg base a.eK 1 "part_widths" ["self"] (Rv a) []
def sN (T:Zq a): mB a:=by
 exists T.t_,["self"];rintro⟨p,ns,low,rfl,S,k⟩;left;refine⟨_,(af (bq (dL PC (fl (pv 0)) (fM (ao (fl (pv 0))))))),?_⟩;let⟨⟨dx,t,h1,h2⟩,g⟩:=S;have hlen:=g.len;ext;intro q hq;have h2q:=cT (u:=.tup [V.int low]) hq _ _ h2;have ne0:ns.map V.int≠[]:=λz=>by have:=congrArg Qg z;rw[qa] at this;simp at this;rw[this] at hlen;simp at hlen
 refine⟨t,q,_,_,rfl,rfl,SqT.of h2q,SqT.of ah,λz=>absurd z ne0,by rw[qa,sizeLine_eq];show ns.length+1<=_;lia,λz=>(nomatch z),λ_ r hr'=>?_⟩;refine k r _ ((cT hq).trans (cT hr')) ?_;rw[ah,qu];rfl
abbrev yH (a:Adr): Prop:=cR P w K mg base a.eK 3 "cut" ["self","address"] (Wr a) []
def FN (T:Zq a)(eY:iP a)(jU:mB a): yH a:=by
 exists T.Hd,["self","address","rest","parts","width"];rintro⟨p,ns,low,n,rfl,S,k1,k2⟩;left;refine⟨_,(ae (aF (pm (pv 0) eY (ao (pv 1))))
     (ae (dM 2 nD (pv 1))
     (ae (dM 3 nD (eS jx))
     (ae (fo (P8 (by rfl) T.cu (pm0 (pv 0) jU)) (gn 4 nD)
     (ae (aF (D6 Qz Q4 Q5 mO (pv 3) (ao (dL AY (pv 2) (dL ji (dL Iv ai (pv 4)) ai)))))
     (af (dM 2 nD (dL Mu (pv 2) (pv 4))))))
     (af (bq (E7 rfl (by rfl) T.dU (by rfl) T.cu (pv 3)))))))),?_⟩
 let⟨dx,t0,h1,h2⟩:=id S.1;have hws:=S.2.ws;have hlen:=S.2.len;ext;refine⟨λc=>?_,k2⟩;ext;intro q hq;generalize hh:upd _ q _=H1;let⟨s1,e1⟩:=eQ hq hh;clear hh;have S1:ShG a H1 p ns low:=⟨S.1.same s1,S.2⟩;have h11:=s1 _ _ h1;ext;intro t H2 s2 ht;have q2:=s2 _ _ e1;ext;generalize hW:ns++[low]=ws at hws ht k1;have wl:ws.length<=4:=by rw[<-hW,qd];show ns.length+1<=4;lia
 let Iv1:L2.Lv:=λi σ H'=>Bx (∃rest ps v,σ=[some (.ref p),some (.int n),some (.int rest),some (.ref q),v]/\H' q=some (.lst (ps.map V.int))/\(∀b o,H2 b=some o->b≠q->H' b=some o)/\ps.length=i/\0<=rest/\CH ws.reverse n=ps++CH (ws.reverse.drop i) rest)
 refine Nm (xs:=ws.map V.int) Iv1
   ⟨L2.j3 n [] none ⟨rfl,q2,λb o hb _=>hb,rfl,c.1,rfl⟩⟩ (λi σ H' _ z=>?_) ?_ ?_
 · let⟨_,_,_,_,_,fr,_⟩:=z.o
   exact SqT.of (fr _ _ ht (L2.i7 ht q2 nofun))
 · intro i v σ H' hi;refine Bx.el ?_;rintro⟨rest,ps,u,rfl,hq',fr,hp,r0,e⟩
   rw[<-List.map_reverse] at hi;let⟨w',rfl,hw⟩:=g_ hi;have wb:=hws w' (List.mem_reverse.mp (qw hw));let⟨hlt,he⟩:=qg.mp hw;rw[QR] at hlt;have sl:(ps.map V.int).length < sizeLine:=by rw[qa,sizeLine_eq];lia
   have cp:Mr 1 w':=⟨by lia,by lia,by decide⟩;ext;refine⟨L2.j3 (rest / 2^w'.toNat) (ps++[rest%2^w'.toNat]) _ ⟨rfl,?_,λb o hb nb=>?_,by rw[qd,hp];rfl,IU r0,?_⟩⟩
   · rw[ah,qu,acV,<-W.kbt_mask];rfl
   · rw[ak nb];exact fr b o hb nb
   · rw[e,List.drop_eq_getElem_cons (by rw[QR];exact hlt),he,CH,acS];rfl
 · intro σ H';refine Bx.el ?_;rintro⟨rest,ps,v,rfl,hq',fr,hp,r0,e⟩
   rw[qa,List.drop_eq_nil_of_le (by rw[QR];exact qe _)] at e;ext;intro r hr';have sm:Zy H H':=λb o hb=>fr b o (s2 _ _ (s1 _ _ hb)) (aj hb hq);refine k1 c r _ (sm.trans (cT hr')) ?_;rw[ah,<-List.map_reverse];unfold parts;rw[e];simp[CH]
end
inductive Pj where
 | mem | fr | sl | hd | nr | ss | sd | sp (t:Int) | so (s:Str) | lo (s:Str)
 deriving DecidableEq
abbrev Pt:=Option (Nat×Pj)
abbrev Lab:=Addr->Option Pt
abbrev pt (k:Nat)(j:Pj): Pt:=some (k,j)
def v0 (O:Lab)(H:Hp): Hp:=λb=>if O b=none then H b else none
def vw (O:Lab)(i:Pt)(H:Hp): Hp:=λb=>if O b=none\/O b=some i then H b else none
def Lv (O:Lab)(H:Hp): Prop:=∀b,O b≠none->∃u,H b=some u
abbrev zP:=Pt->Prop
structure Go (P:zP)(O:Lab)(H:Hp)(O':Lab)(H':Hp): Prop where
 lv:Lv O' H'
 st:∀b u,H b=some u->(∀i,O b=some i->¬P i)->H' b=some u/\O' b=O b
 al:∀b u,H b=some u->∃v,H' b=some v
abbrev Go1 (i:Pt):= Go (·=i)
def lab (O:Lab)(b:Addr)(i:Pt): Lab:=λc=>if c=b then some i else O c
section
variable {P P':zP}{O O' O2:Lab}{H H' H2:Hp}{i j:Pt}{b:Addr}{u o:HO}
def Hz (e:vw O i H b=some u): H b=some u/\(O b=none\/O b=some i):=by
 unfold vw at e;split at e
 · next h=>exact⟨e,h⟩
 · cases e
def HE (e:H b=some u)(h:O b=none\/O b=some i): vw O i H b=some u:=by unfold vw;rw[if_pos h];exact e
def fQ (e:v0 O H b=some u): H b=some u/\O b=none:=by
 unfold v0 at e;split at e
 · next h=>exact⟨e,h⟩
 · cases e
def gG (e:H b=some u)(h:O b=none): v0 O H b=some u:=by unfold v0;rw[if_pos h];exact e
def v0H:Zy (v0 O H) H:=λ_ _ e=>(fQ e).1
def v0S (s:Zy H H'): Zy (v0 O H) (v0 O H'):=λ_ _ e=>gG (s _ _ (fQ e).1) (fQ e).2
def Lv.no (L:Lv O H)(h:H b=none): O b=none:=qW λn=>by let⟨u,e⟩:=L b n;rw[h] at e;cases e
def Lv.same (L:Lv O H)(s:Zy H H'): Lv O H':=λb n=>(L b n).imp λ_ e=>s _ _ e
def Go.same (L:Lv O H)(s:Zy H H'): Go P O H O H':=⟨L.same s,λ_ _ e _=>⟨s _ _ e,rfl⟩,λ_ u e=>⟨u,s _ _ e⟩⟩
def Go.trans (g:Go P O H O' H')(k:Go P O' H' O2 H2): Go P O H O2 H2:=⟨k.lv,λb u e n=>by
 let⟨e1,e2⟩:=g.st b u e n;let⟨f1,f2⟩:=k.st b u e1 (by rw[e2];exact n);exact⟨f1,f2.trans e2⟩,λb u e=>by let⟨v,q⟩:=g.al b u e;exact k.al b v q⟩
def Go.mono (g:Go P O H O' H')(h:∀i,P i->P' i): Go P' O H O' H':=⟨g.lv,λb u e n=>g.st b u e λi z q=>n i z (h i q),g.al⟩
def Go.lb (g:Go P O H O' H')(L:Lv O H)(h:O b=some i)(n:¬P i): O' b=some i:=by
 let⟨u,e⟩:=L b (by rw[h];exact nofun);exact(g.st b u e λj z q=>n (by rw[<-qI (z.symm.trans h)];exact q)).2.trans h
def px (e:H b=some u)(c:Addr): ∃v,upd H c o b=some v:=by
 by_cases z:b=c
 · exact⟨o,by rw[z];exact ah⟩
 · exact⟨u,by rw[ak z];exact e⟩
def Go.put (L:Lv O H)(h:O b=some i)(p:P i): Go P O H O (upd H b o):=⟨λc n=>by let⟨_,e⟩:=L c n;exact px e b,λc u e n=>⟨by rw[ak λz=>n i (by rw[z];exact h) p];exact e,rfl⟩,λ_ _ e=>px e b⟩
def gK {c:Addr}(h:c≠b): lab O b i c=O c:=if_neg h
def Go.new (L:Lv O H)(h:H b=none): Go P O H (lab O b i) (upd H b o):=⟨λc n=>by
 by_cases z:c=b
 · exact⟨o,by rw[z];exact ah⟩
 · rw[gK z] at n;let⟨u,e⟩:=L c n;exact px e b,λc u e n=>by
 have z:=aj e h;exact⟨by rw[ak z];exact e,gK z⟩,λ_ _ e=>px e b⟩
def Go.vw (g:Go P O H O' H')(h:¬P j): Zy (vw O j H) (vw O' j H'):=λb u e=>by
 let⟨e1,e2⟩:=Hz e;let⟨s1,s2⟩:=g.st b u e1 (λi z q=>e2.elim (λy=>by rw[y] at z;cases z) λy=>h (by rw[<-qI (z.symm.trans y)];exact q));exact HE s1 (by rw[s2];exact e2)
def Go.v0 (g:Go P O H O' H'): Zy (v0 O H) (v0 O' H'):=λb u e=>by
 let⟨e1,e2⟩:=fQ e;let⟨s1,s2⟩:=g.st b u e1 (λi z=>by rw[e2] at z;cases z);exact gG s1 (s2.trans e2)
def va (h:O b=some i): vw O i (upd H b o)=upd (vw O i H) b o:=funext λc=>by
 by_cases z:c=b
 · rw[z,ah];exact HE ah (.inr h)
 · unfold vw;rw[ak z,ak z]
def UI (L:Lv O H)(h:H b=none): vw (lab O b i) i (upd H b o)=upd (vw O i H) b o:=funext λc=>by
 by_cases z:c=b
 · rw[z,ah];exact HE ah (.inr (if_pos rfl))
 · unfold vw lab;rw[if_neg z,ak z,ak z]
def Kg (h:H b=none): vw O i H b=none:=by unfold vw;split;exact h;rfl
end
def Go.kp {P:zP}{O O':Lab}{H H':Hp}{b:Addr}{i:Pt}{u:HO}(g:Go P O H O' H')(h:O b=some i)(n:¬P i)(e:H b=some u): H' b=some u/\O' b=some i:=by
 let⟨e1,e2⟩:=g.st b u e λj z q=>n (by rw[<-qI (z.symm.trans h)];exact q);exact⟨e1,e2.trans h⟩
abbrev Rm:=Int->Option (Int×List Int)
def cnt:Option (Int×List Int)->Int
 | none=>0 | some x=>x.1
def tal (n:Nat)(C:Rm): List Int:=(abG n).map λi:Nat=>cnt (C i)
abbrev zN:=Option (Int×List Int)
def gL (C:Rm)(j:Int)(o:zN): Rm:=λi=>if i=j then o else C i
def Kh (n:Nat)(C:Rm): ((tal n C).map V.int).length=n:=by unfold tal;rw[qa,qa,Qf]
def BL {n:Nat}{C:Rm}{j:Int}(h0:0<=j)(h1:j < n): atI ((tal n C).map V.int) j=some (.int (cnt (C j))):=by
 let⟨k,rfl⟩:=abb h0;refine pJ ?_;unfold tal;rw[qx,qx,acv (by lia)];rfl
def Rw {n:Nat}{C:Rm}{j:Int}{o:zN}(h0:0<=j): ((tal n C).map V.int).set j.toNat (.int (cnt o))=(tal n (gL C j o)).map V.int:=by
 refine List.ext_getElem? λk=>?_;unfold tal;rw[List.getElem?_set,qa,qa,Qf,qx,qx,qx,qx];by_cases c:k < n
 · rw[acv c]
   by_cases z:j.toNat=k
   · rw[if_pos z,if_pos (by lia)]
     show _=some (V.int (cnt (gL C j o (k:Int))));unfold gL;rw[if_pos (by lia)]
   · rw[if_neg z]
     show _=some (V.int (cnt (gL C j o (k:Int))));unfold gL;rw[if_neg (by lia)];rfl
 · rw[abj (by rw[Qf];lia)]
   split
   · split<;>first | lia | rfl
   · rfl
def tW {z_:zv}{k:Key}{v v0:V}(h:fE z_ k=some v0): (putK z_ k v).map (·.1)=z_.map (·.1):=by
 unfold putK;have e:(z_.any λkv=>decide (kv.1=k))=true:=by rw[lT,h];rfl
 rw[if_pos e,adw];refine aeh λp _=>?_;show (if p.1=k then (p.1,v) else p).1=p.1;split<;>rfl
def ye {p:Key×V}{r:zv}{j:Key}: fE (p::r) j=if p.1=j then some p.2 else fE r j:=by
 unfold fE;by_cases z:p.1=j
 · rw[List.find?_cons_of_pos (by simpa using z),if_pos z];rfl
 · rw[List.find?_cons_of_neg (by simpa using z),if_neg z]
def kr (z_:zv)(k j:Key): fE (h_ z_ k) j=if j=k then none else fE z_ j:=by
 induction z_ with
 | nil=>unfold fE h_;simp
 | cons p r ih =>
   rw[ye];by_cases e:p.1=k
   · rw[xF e,ih]
     by_cases q:j=k
     · rw[if_pos q,if_pos q]
     · rw[if_neg q,if_neg q,if_neg λz=>q (z.symm.trans e)]
   · rw[xG e,ye,ih]
     by_cases z:p.1=j
     · rw[if_pos z,if_pos z,if_neg λw=>e (z.trans w)]
     · rw[if_neg z,if_neg z]
def ja:∀{z_:zv} {ks:zm} {k:Int},jZ z_ ks->(k∈ks↔(fE z_ (.inl k)).isSome=true)
 | [],[],k,_=>by unfold fE;simp
 | [],_::_,_,h=>by cases h
 | _::_,[],_,h=>by cases h
 | p::r,j::ks,k,h=>by
   have h':=aek h;have hp:p.1=.inl j:=h'.1;rw[ye,hp,qk,ja (k:=k) h'.2];by_cases e:j=k
   · rw[if_pos (by rw[e])];simp[e]
   · rw[if_neg λz=>e (QC z)];simp[qX e]
def sO {z_:zv}{ks:zm}(h:jZ z_ ks)(nd:(z_.map (·.1)).Nodup): ks.Nodup:=by
 rw[h] at nd;exact(abl.mp nd).imp λh z=>h (by rw[z])
def pV {k:Int}: ∀{z_:zv} {ks:zm},jZ z_ ks->jZ (h_ z_ (.inl k)) (ks.filter λj=>decide (j≠k))
 | [],[],_=>rfl
 | [],k'::ks,h=>by cases h
 | p::r,[],h=>by cases h
 | p::r,j::ks,h=>by
   have h':=aek h;have ih:=pV (k:=k) h'.2;have hp:p.1=.inl j:=h'.1;by_cases e:j=k
   · rw[xF (by rw[hp,e]),List.filter_cons_of_neg (by simpa using e)];exact ih
   · rw[xG (λw=>e (QC (hp.symm.trans w))),List.filter_cons_of_pos (by simpa using e)]
     unfold jZ at ih ⊢;rw[Qb,Qb,ih,hp]
abbrev zM:=Int->Option Addr
def Td (H:Hp)(d:Addr)(f:zM): Prop:=∃z_ ks,H d=some (.dK z_)/\jZ z_ ks/\(z_.map (·.1)).Nodup/\∀i:Int,fE z_ (.inl i)=(f i).map V.ref
section
variable {H H':Hp}{d x:Addr}{f g:zM}{i:Int}{z_:zv}{ks:zm}
def Td.to (T:Td H d f)(h:H' d=H d)(e:∀j,g j=f j): Td H' d g:=by let⟨z_,ks,q1,q2,q3,q4⟩:=T;exact ⟨z_,ks,h.trans q1,q2,q3,λj=>by rw[e];exact q4 j⟩
def Td.put (h:Td H d f)(q:H d=some (.dK z_))(e:H' d=some (.dK (putK z_ (.inl i) (.ref x)))): Td H' d λj=>if j=i then some x else f j:=by
 let⟨HF,ks,q1,q2,q3,q4⟩:=h;rw[q] at q1;cases q1;have v:∀j:Int,fE (putK z_ (.inl i) (.ref x)) (.inl j)=(if j=i then some x else f j).map V.ref:=λj=>by
   rw[jA];by_cases c:j=i
   · rw[if_pos (by rw[c]),if_pos c];rfl
   · rw[if_neg (λz=>c (QC z)),if_neg c];exact q4 j
 cases c:fE z_ (.inl i) with
 | none=>exact⟨_,ks++[i],e,by unfold jZ;rw[sD _ c,qu,qu,q2];rfl,E1 _ q3 c,v⟩
 | some w=>exact⟨_,ks,e,by unfold jZ;rw[tW c];exact q2,by rw[tW c];exact q3,v⟩
def Td.drop (h:Td H d f)(q:H d=some (.dK z_))(e:H' d=some (.dK (h_ z_ (.inl i)))): Td H' d λj=>if j=i then none else f j:=by
 let⟨HF,ks,q1,q2,q3,q4⟩:=h;rw[q] at q1;cases q1;exact⟨_,_,e,pV q2,sG q3,λj=>by
   show _=(if j=i then none else f j).map V.ref;rw[kr];by_cases c:j=i
   · rw[if_pos (by rw[c]),if_pos c];rfl
   · rw[if_neg (λz=>c (QC z)),if_neg c];exact q4 j⟩
end
abbrev Ix:=List Int
abbrev zB:=Ix->Option Addr
structure Tr (O:Lab)(H:Hp)(i:Pt)(n:Nat)(nd:zB): Prop where
 tb:∀π d,π.length < n->nd π=some d->O d=some i/\Td H d λj=>nd (π++[j])
 inj:∀π ρ d,π.length < n->ρ.length < n->nd π=some d->nd ρ=some d->π=ρ
 up:∀π j x,nd (π++[j])=some x->∃d,nd π=some d
 lg:∀π x,nd π=some x->π.length<=n
def jc (nd:zB)(ι:Ix)(v:zo): Ix->Option Addr:=λρ=>if ρ=ι then v else nd ρ
def Ki {π ρ:Ix}{i j:Int}(h:¬(π=ρ/\i=j)): π++[i]≠ρ++[j]:=λz=>by
 have:=abW z rfl;exact h ⟨this.1,by simpa using this.2⟩
def md {π ρ:Ix}(h:π.length≠ρ.length): π≠ρ:=λz=>h (by rw[z])
section
variable {O O':Lab}{H H':Hp}{i:Pt}{n:Nat}{nd:zB}{π:Ix}{d:Addr}{j:Int}{v:zo}{P:zP}
def Tr.oth (S:Tr O H i n nd)(L:Lv O H)(g:Go P O H O' H')(h:¬P i): Tr O' H' i n nd:=⟨λπ d l e=>by
 let⟨o,T⟩:=S.tb π d l e;let⟨z_,ks,q1,q⟩:=id T;let⟨e1,e2⟩:=g.kp o h q1;exact⟨e2,T.to (e1.trans q1.symm) λ_=>rfl⟩,S.inj,S.up,S.lg⟩
def Tr.set (S:Tr O H i n nd)(hl:π.length < n)(hd:nd π=some d)(T:Td H' d λk=>if k=j then v else nd (π++[k]))(kp:∀b,O b=some i->O' b=some i/\(b≠d->H' b=H b))(no:∀k,nd (π++[j]++[k])=none)
   (nw:∀e,v=some e->π.length+1 < n->O e=none/\O' e=some i/\Td H' e λ_=>none):Tr O' H' i n (jc nd (π++[j]) v):=by
 have l1:(π++[j]).length=π.length+1:=by simp
 have old:∀{ρ e},jc nd (π++[j]) v ρ=some e->ρ≠π++[j]->nd ρ=some e:=λh c=>by rwa [jc,if_neg c] at h
 have new:∀{e},jc nd (π++[j]) v (π++[j])=some e->v=some e:=λh=>by rwa [jc,if_pos rfl] at h
 have np:jc nd (π++[j]) v π=some d:=by rw[jc,if_neg (md (by lia))];exact hd
 refine⟨λρ e h1 h2=>?_,λρ τ e h1 h2 h3 h4=>?_,λρ k x h=>?_,λρ x h=>?_⟩
 · by_cases c:ρ=π++[j]
   · subst c
     let⟨_,q2,q3⟩:=nw e (new h2) (by lia);refine⟨q2,q3.to rfl λk=>?_⟩;rw[jc,if_neg (md (by simp)),no k]
   · have h5:=old h2 c
     by_cases c2:ρ=π
     · subst c2
       rw[hd] at h5;cases h5;refine⟨(kp _ (S.tb ρ d hl hd).1).1,T.to rfl λk=>?_⟩;unfold jc;by_cases c3:k=j
       · rw[c3,if_pos rfl,if_pos rfl]
       · rw[if_neg (Ki λw=>c3 w.2),if_neg c3]
     · let⟨q1,q2⟩:=S.tb ρ e h1 h5
       let⟨q3,q4⟩:=kp _ q1;exact⟨q3,q2.to (q4 λz=>c2 (S.inj ρ π d h1 hl (by rw[<-z];exact h5) hd)) λk=>by rw[jc,if_neg (Ki λw=>c2 w.1)]⟩
 · have key:∀{ρ},ρ.length < n->nd ρ=some e->jc nd (π++[j]) v (π++[j])=some e->π.length+1 < n->False:=λh1 h3 h4 l=>by
     have:=(S.tb _ e h1 h3).1;rw[(nw e (new h4) l).1] at this;cases this
   by_cases c1:ρ=π++[j]<;>by_cases c2:τ=π++[j]
   · rw[c1,c2]
   · subst c1;exact(key h2 (old h4 c2) h3 (by lia)).elim
   · subst c2;exact(key h1 (old h3 c1) h4 (by lia)).elim
   · exact S.inj ρ τ e h1 h2 (old h3 c1) (old h4 c2)
 · by_cases c:ρ++[k]=π++[j]
   · rw[(abW c rfl).1];exact⟨d,np⟩
   · have h:=old h c
     let⟨e,q⟩:=S.up ρ k x h;exact⟨e,by rw[jc,if_neg λz=>by rw[z,no k] at h;cases h];exact q⟩
 · by_cases c:ρ=π++[j]
   · rw[c,l1];exact hl
   · exact S.lg ρ x (old h c)
def Tr.above (S:Tr O H i n nd)(h:nd π=none)(j:Int): nd (π++[j])=none:=by
 cases e:nd (π++[j]) with
 | none=>rfl
 | some x=>let⟨d,q⟩:=S.up π j x e;rw[h] at q;cases q
def Tr.end (S:Tr O H i n nd)(h:n<=π.length)(j:Int): nd (π++[j])=none:=by
 cases e:nd (π++[j]) with
 | none=>rfl
 | some x=>have:=S.lg _ x e;rw[qd] at this;simp at this;lia
def Tr.pre (S:Tr O H i n nd){x:Addr}: ∀(m:Nat) {ι:Ix},nd (ι.take m)=some x->∀j,j<=m->∃d,nd (ι.take j)=some d:=by
 intro m
 induction m generalizing x with
 | zero=>intro ι h j hj;rw[Nat.le_zero.mp hj];exact⟨x,h⟩
 | succ m ih =>
   intro ι h j hj;by_cases c:j=m+1
   · rw[c];exact⟨x,h⟩
   · cases e:ι[m]? with
     | none =>
       rw[qQ,e] at h;exact ih (by simpa using h) j (by lia)
     | some k =>
       rw[qQ,e] at h;let⟨d,q⟩:=S.up _ _ _ h;exact ih q j (by lia)
end
def HG:∀{ws ps:zm} (j:Nat),Fit ws ps->Fit (ws.take j) (ps.take j)
 | [],[],j,_=>by rw[List.take_nil];exact trivial
 | _::_,_::_,0,_=>trivial
 | _::_,_::_,j+1,h=>⟨h.1,HG j h.2⟩
 | [],_::_,_,h=>h.elim
 | _::_,[],_,h=>h.elim
def kE (ns:zm)(n:Int): (parts ns n).length=ns.length:=kP ..
def Oi (ws:zm)(h:1<=ws.length): yU (ws.map V.int) none (some (-1))=(ws.take (ws.length-1)).map V.int:=by
 unfold yU;rw[HT.MG,qa,List.drop_zero,List.map_take];have e:HT.sIx ws.length ws.length (some (-1))=ws.length-1:=by
   show (if (-1:Int) < 0 then ((-1:Int)+(ws.length:Int)).toNat else min (-1:Int).toNat ws.length)=_;rw[if_pos (by decide)];lia
 rw[e,Nat.sub_zero]
def yf (ws:zm)(x:Int): yU ((ws++[x]).map V.int) none (some (-1))=ws.map V.int:=by
 rw[Oi _ (by rw[qd];show 1<=ws.length+1;lia),qd];show ((ws++[x]).take (ws.length+1-1)).map V.int=_;rw[Nat.add_sub_cancel,acp rfl]
def BM {xs:zu}{n:Nat}(h:xs.length=n+1)(z:HT.sIx xs.length 0 none=0/\HT.sIx xs.length xs.length (some (-1))=xs.length): False:=by
 have z:=z.2;rw[h] at z;have e:HT.sIx (n+1) (n+1) (some (-1))=n:=by
   show (if (-1:Int) < 0 then ((-1:Int)+(((n+1:Nat)):Int)).toNat else min (-1:Int).toNat (n+1))=_;rw[if_pos (by decide)];lia
 rw[e] at z;lia
def tX (xs:zu)(y:V): atI (xs++[y]) (-1)=some y:=by
 have l:(xs++[y]).length=xs.length+1:=by rw[qd];rfl
 unfold atI ixN;rw[if_neg (by decide),l,if_pos (by lia),show ((-1:Int)+((xs.length+1:Nat):Int)).toNat=xs.length by lia];show (xs++[y])[xs.length]?=_;rw[qF (qe _),QK];rfl
structure TrX (a:Adr)(O:Lab)(H:Hp)(i:Pt)(p:Addr)(ns:zm)(low:Int)(L:zm)(nd:zB): Prop where
 lv:Lv O H
 gd:Good ns low
 ob:∃dx sh top,v0 O H p=some (.ins a.hJ dx [("shape",.ref sh),("top",.ref top)])/\u_ a.eK (v0 O H) sh ns low/\nd []=some top
 tr:Tr O H i ns.length nd
 fu:∀π d,nd π=some d->π≠[]->π.length < ns.length->∃j x,nd (π++[j])=some x
 cv:∀π x,π.length=ns.length->nd π=some x->∃m∈L,InP ns m/\parts ns m=π
 l64:L.length < 64
section
variable {a:Adr}{O O':Lab}{H H':Hp}{i:Pt}{p:Addr}{ns L:zm}{low:Int}{nd:zB}{P:zP}
def TrX.oth (S:TrX a O H i p ns low L nd)(g:Go P O H O' H')(h:¬P i): TrX a O' H' i p ns low L nd :=
 { S with lv:=g.lv,ob:=by let⟨dx,sh,top,h1,h2,h3⟩:=S.ob;exact ⟨dx,sh,top,g.v0 _ _ h1,h2.same g.v0,h3⟩,tr:=S.tr.oth S.lv g h }
def TrX.same (S:TrX a O H i p ns low L nd)(s:Zy H H'): TrX a O H' i p ns low L nd:=S.oth (P:=λ_=>False) (.same S.lv s) id
def TrX.ext (S:TrX a O H i p ns low L nd): ∀(k:Nat) {π:Ix} {x:Addr},nd π=some x->π≠[]->π.length+k=ns.length->∃m∈L,InP ns m/\(parts ns m).take π.length=π:=by
 intro k
 induction k with
 | zero=>intro π x h _ hl;let⟨m,h1,h2,h3⟩:=S.cv π x (by lia) h;exact⟨m,h1,h2,by rw[h3,qN]⟩
 | succ k ih =>
   intro π x h hn hl;let⟨j,y,e⟩:=S.fu π x h hn (by lia);let⟨m,h1,h2,h3⟩:=ih e (by simp) (by rw[qd];simp;lia);refine⟨m,h1,h2,?_⟩;have e2:=congrArg (List.take π.length) h3;rw[List.take_take,qd,acp rfl,acq (by lia)] at e2;exact e2
def TrX.fit (S:TrX a O H i p ns low L nd){π:Ix}{x:Addr}(h:nd π=some x): Fit (ns.take π.length) π:=by
 by_cases c:π=[]
 · rw[c];exact trivial
 · let⟨m,_,_,e⟩:=S.ext (ns.length-π.length) h c (by have:=S.tr.lg π x h;lia)
   have:=HG π.length (Lb ns m);rwa [e] at this
def Kj {α β:Type}[DecidableEq β](f:α->β): ∀{ms:List α} {L:List β},ms.Nodup->(∀a∈ms,∀b∈ms,f a=f b->a=b)->(∀a∈ms,f a∈L)->ms.length<=L.length
 | [],_,_,_,_=>qV _
 | a::ms,L,h1,h2,h3=>by
   let⟨p1,p2⟩:=Qs.mp h1;have m:=h3 a qG;have ih:=Kj f (L:=L.erase (f a)) p2 (λx hx y hy=>h2 x (qB _ hx) y (qB _ hy)) (λx hx=>by
     refine(adZ λz=>p1 ?_).mpr (h3 x (qB _ hx));rw[<-h2 x (qB _ hx) a qG z];exact hx)
   rw[acY m] at ih;have:=adz m;rw[qJ];lia
def TrX.few (S:TrX a O H i p ns low L nd){α:Type}{ms:List α}{k:Nat}(f:α->Ix)(h1:ms.Nodup)(h2:∀a∈ms,∀b∈ms,f a=f b->a=b)(h3:∀a∈ms,(f a).length=k/\∃x,nd (f a)=some x)(hk:1<=k): ms.length < 64:=by
 have:=Kj f (L:=L.map λm=>(parts ns m).take k) h1 h2 λa ha=>by
   let⟨l,x,e⟩:=h3 a ha;let⟨m,t1,_,t2⟩:=S.ext (ns.length-k) e (λz=>by rw[z] at l;simp at l;lia) (by have:=S.tr.lg _ x e;lia);exact Qa.mpr ⟨m,t1,by rw[<-l];exact t2⟩
 rw[qa] at this;have:=S.l64;lia
def TrX.keys (S:TrX a O H i p ns low L nd){π:Ix}{z_:zv}{ks:zm}(ik:jZ z_ ks)(nk:(z_.map (·.1)).Nodup)(h:∀j:Int,(fE z_ (.inl j)).isSome=true->∃x,nd (π++[j])=some x): z_.length < 64:=by
 have:=S.few (k:=π.length+1) (λj=>π++[j]) (sO ik nk) (λb _ c _ e=>by have:=(abW e rfl).2;simpa using this) (λj hj=>⟨by simp,h j ((ja ik).mp hj)⟩) (by lia);have e:z_.length=ks.length:=by have:=congrArg Qg ik;simpa using this
 lia
end
def ndV:zo->V
 | some x=>.ref x
 | none=>.non
abbrev At1 (ns:zm)(n:Int)(v:zo)(nd nd':zB): Prop:=∀m,InP ns m->nd' (parts ns m)=if m=n then v else nd (parts ns m)
def Ws (a:Adr): Sp:=λvs H Q E=>∃O i p ns low L nd n,vs=[.ref p,.int n]/\TrX a O H i p ns low L nd/\(InP ns n->∀t H',Zy H H'->H' t=some (.tup ((parts ns n).map V.int))->H t=none->Q (.ref t) H')/\(¬InP ns n->E (.ref a.d7) none H)
def Rx (a:Adr): Sp:=λvs H Q E=>∃O i p ns low L nd n,vs=[.ref p,.int n]/\TrX a O H i p ns low L nd/\InP ns n/\∀H',Zy H H'->Q (ndV (nd (parts ns n))) H'
def UJ (a:Adr): Sp:=λvs H Q _=>∃O i p ns low L nd n x,vs=[.ref p,.int n,.ref x]/\TrX a O H i p ns low L nd/\InP ns n/\n∈L/\∀nd' O' H',TrX a O' H' i p ns low L nd'->At1 ns n (some x) nd nd'->Go1 i O H O' H'->Q .non H'
def Ry (a:Adr): Sp:=λvs H Q _=>∃O p sh dx ns low L,vs=[.ref p,.ref sh]/\Lv O H/\O p=none/\H p=some (.ins a.hJ dx [])/\u_ a.eK (v0 O H) sh ns low/\Good ns low/\L.length < 64 ∧
 ∀H',(∀i,∃O' nd,TrX a O' H' i p ns low L nd/\(∀m,nd (parts ns m)=none)/\(∀b u,H b=some u->b≠p->H' b=some u/\O' b=O b)/\O' p=none)->Q .non H'
def Kk {ns:zm}{low n m:Int}(g:Good ns low)(hn:InP ns n)(hm:InP ns m)(e:parts ns n=parts ns m): n=m:=by
 have nn:∀x∈ns,0<=x:=λx hx=>by have:=g.all x hx;lia
 rw[<-pO ns nn hn.1 hn.2,<-pO ns nn hm.1 hm.2,e]
section
variable [Gn]{a:Adr}{Zz:zu}
abbrev kR (a:Adr): Prop:=cR P w K mg base a.hJ 4 "indexes" ["self","page"] (Ws a) []
def Ae (T:Zq a)(sP:yH a)(hU:km a): kR a:=by
 exists T.Bv,["self","page"];rintro⟨O,i,p,ns,low,L,nd,n,rfl,S,k1,k2⟩;left;refine⟨_,(af (bq (oX A5 (pm (fl (pv 0)) sP (ao (pm (fl (pv 0)) hU (aq (pv 1) (ao ai))))) vM (pI (nK kN ai))))),?_⟩;let⟨dx,sh,top,h1,h2,h3⟩:=S.ob;have h1:=v0H _ _ h1;have h2:ShG a H sh ns low:=⟨h2.same v0H,S.gd⟩;let⟨dxs,ts,hs,_⟩:=id h2.1;let⟨z1,z2⟩:=S.gd.sz;ext;refine⟨λc=>?_,λc=>k2 λz=>c ⟨z,by decide,z2.1⟩⟩;have inn:InA ns low (n*plc low+0):=by
   rw[adu];exact⟨adT c.1.1 (abr z2.1),Int.mul_lt_mul_of_pos_right c.1.2 z2.1⟩
 ext;refine⟨λ_ t H1 s1 ht=>?_,λz=>absurd inn z⟩;rw[pN,adu,show n*plc low / 2^low.toNat=n from Int.mul_ediv_cancel n (adt z2.1)] at ht;ext;refine⟨λz=>(BM (by rw[qa,qd];rfl) z).elim,λq hq=>?_⟩;rw[yf];exact k1 c.1 q _ (s1.trans (cT hq)) ah (s1.free hq)
end
section
variable [Gn]{a:Adr}{Zz:zu}
abbrev rT (a:Adr): Prop:=jw P w K mg base a.hJ 1 ["self","shape"] (Ry a) []
def yg (T:Zq a): rT a:=by
 exists T.Ab,["self","shape"];rintro⟨O,p,sh,dx,ns,low,L,rfl,lv,op,hp,S,g,l64,k⟩;left;refine⟨_,(ae (fR (pv 0) (pv 1) rfl)
     (af (fR (pv 0) oZ rfl))),?_⟩
 ext;intro d hd;have hdp:d≠p:=λz=>by rw[z,ah] at hd;cases hd
 have hd0:H d=none:=by rwa [ak hdp] at hd
 ext;rw[iK,jg (by exfalso),iK];generalize hh:upd _ p (HO.ins _ _ [(_,V.ref sh),(_,V.ref d)])=H1;have e1:H1 p=some (.ins a.hJ dx [("shape",.ref sh),("top",.ref d)]):=by rw[<-hh];exact ah
 have e2:H1 d=some (.dK []):=by rw[<-hh,ak hdp];exact ah
 have kq:∀b u,H b=some u->b≠p->H1 b=some u:=λb u e nb=>by rw[<-hh,ak nb,ak (aj e hd0),ak nb];exact e
 clear hh;refine k H1 λi=>?_;have kp:∀b u,H b=some u->b≠p->H1 b=some u/\lab O d i b=O b:=λb u e nb=>⟨kq b u e nb,gK (aj e hd0)⟩;have nsh:∀{b u},v0 O H b=some u->u≠.ins a.hJ dx []->v0 (lab O d i) H1 b=some u:=λ{b u} e n=>by
   let⟨q1,q2⟩:=fQ e;let⟨q3,q4⟩:=kp b u q1 λz=>n (by rw[z,hp] at q1;cases q1;rfl);exact gG q3 (q4.trans q2)
 have al:∀b u,H b=some u->∃v,H1 b=some v:=λb u e=>by
   by_cases c:b=p
   · rw[c];exact⟨_,e1⟩
   · exact⟨u,(kp b u e c).1⟩
 have lv1:Lv (lab O d i) H1:=λb n=>by
   by_cases c:b=d
   · rw[c];exact⟨_,e2⟩
   · rw[gK c] at n;let⟨u,e⟩:=lv b n;exact al b u e
 have op1:lab O d i p=none:=(gK (qX hdp)).trans op;have nn:∀{π:Ix} {x:Addr},(if π=[] then some d else none:zo)=some x->π=[]:=λ{π x} h=>by
   by_cases c:π=[]
   · exact c
   · rw[if_neg c] at h;cases h
 have gl:=g.len;have ne0:∀(π:Ix) j,π++[j]≠[]:=λπ j=>by simp
 let⟨dxs,ts,q1,q2⟩:=S;refine⟨_,λπ=>if π=[] then some d else none,⟨lv1,g,⟨dx,sh,d,gG e1 op1,⟨dxs,ts,nsh q1 (λz=>by injection z with _ _ z;cases z),nsh q2 nofun⟩,if_pos rfl⟩,⟨λπ e h1 h2=>?_,λπ ρ e _ _ h3 h4=>by rw[nn h3,nn h4],λπ j x h=>absurd (nn h) (ne0 π j),λπ x h=>by rw[nn h];exact qV _⟩,λπ e h n=>absurd (nn h) n,λπ x h1 h2=>by rw[nn h2] at h1;have h1:0=ns.length:=h1;lia,l64⟩,(λm=>if_neg λz=>by have:=congrArg Qg z;rw[kE] at this;have this:ns.length=0:=this;lia),kp,op1⟩;have h2:=h2;have z:=nn h2;subst z;cases h2;exact⟨if_pos rfl,[],[],e2,rfl,aaX,λj=>by dsimp only;rw[if_neg (ne0 _ j)];rfl⟩
abbrev yI (a:Adr): Prop:=cR P w K mg base a.hJ 5 "leaf" ["self","page"] (Rx a) []
def FO (T:Zq a)(gQ:kR a): yI a:=by
 exists T.Hn,["self","page","node","index"];rintro⟨O,i,p,ns,low,L,nd,n,rfl,S,c,k⟩;left;refine⟨_,(ae (dM 2 nD (fl (pv 0)))
     (ae (fo (EG (pm (pv 0) gQ (ao (pv 1)))) (gn 3 nD)
     (ae (cG (ct (pc hr.u1) (pv 3) (pv 2)) (af (bq jS)) bb)
     (af (dM 2 nD (fF hr.u1 (pv 2) (pv 3) (λ_ _=>rfl))))))
     (af (bq (pv 2))))),?_⟩
 let⟨dx,sh,top,h1,h2,h3⟩:=S.ob;have h1:=v0H _ _ h1;ext;refine⟨λ_ t H1 s1 ht _=>?_,λz=>absurd c z⟩;have I1:=S.tr;have S1:=S.same s1;have pl:=kE ns n;ext
 let Iv1:L2.Lv:=λj σ H'=>Bx ((∃x v,σ=[some (.ref p),some (.int n),some (.ref x),v]/\nd ((parts ns n).take j)=some x)/\H'=H1)
 refine AG (xs:=(parts ns n).map V.int) Iv1 ⟨⟨top,_,rfl,by rw[abo];exact h3⟩,rfl⟩ (λi σ H' _ z=>by rw[z.o.2];exact SqT.of ht) ?_ ?_
 · rintro j v σ H' hi ⟨⟨x,v3,rfl,hx⟩,rfl⟩
   let⟨ix,rfl,hix⟩:=g_ hi;have il:j < (parts ns n).length:=(qg.mp hix).1;have tk:(parts ns n).take (j+1)=(parts ns n).take j++[ix]:=by rw[qQ,hix];rfl
   let⟨_,z_,ks,q1,q2,q3,q4⟩:=S1.tr.tb _ x (by rw[qA];lia) hx;dsimp only at q4;have gg:=kg.k (k:=Qn ix) q1;rw[q4 ix,<-tk] at gg;cases e:nd ((parts ns n).take (j+1)) with
   | none =>
     rw[e] at gg;ext;have nn:nd (parts ns n)=none:=by
       cases e2:nd (parts ns n) with
       | none=>rfl
       | some y =>
         let⟨d,q⟩:=S.tr.pre _ (by rw[qN];exact e2) (j+1) il;rw[e] at q;cases q
     have:=k _ s1;rw[nn] at this;exact this
   | some y =>
     rw[e] at gg;ext;exact⟨⟨⟨y,_,rfl,e⟩,rfl⟩⟩
 · rintro σ H' ⟨⟨x,v3,rfl,hx⟩,rfl⟩
   rw[qa,qN] at hx;ext;have:=k _ s1;rw[hx] at this;exact this
abbrev BO (a:Adr): Prop:=cR P w K mg base a.hJ 5 "put" ["self","page","leaf"] (UJ a) []
def HH (T:Zq a)(gQ:kR a): BO a:=by
 exists T.Ji,["self","page","leaf","indexes","table","index"];rintro⟨O,i,p,ns,low,L,nd,n,x,rfl,S,c,nL,k⟩;left;refine⟨_,(ae (dM 3 nD (pm (pv 0) gQ (ao (pv 1))))
     (ae (dM 4 nD (fl (pv 0)))
     (ae (fo (EG (oX A5 (pv 3) vM (pI (nK kN ai)))) (gn 5 nD)
     (af (dM 4 nD (yW (pv 4) (pv 5) oZ ⟨rfl,rfl,rfl,rfl⟩))))
     (af (j_ hr.u1 (pv 4) (hZ iI (pv 3) (nK kN ai)) (pv 2) rfl))))),?_⟩
 let⟨dx,sh,top,h1,h2,h3⟩:=S.ob;have h1:=v0H _ _ h1;ext;refine⟨λ_ t H1 s1 ht hn=>?_,λz=>absurd c z⟩;have S1:=S.same s1;have t1:v0 O H1 t=some (.tup ((parts ns n).map V.int)):=gG ht (S.lv.no hn);have h11:=s1 _ _ h1;have gl:=S.gd.len;obtain⟨κ,z,ek⟩:∃κ z,parts ns n=κ++[z]:=by
   have ne:parts ns n≠[]:=md (by rw[kE];show ns.length≠0;lia);exact⟨_,_,(Qt ne).symm⟩
 have kl:κ.length+1=ns.length:=by rw[<-kE ns n,ek,qd];rfl
 rw[ek] at ht t1;ext;refine⟨λz=>(BM (by rw[qa,qd];rfl) z).elim,λq hq=>?_⟩;rw[yf];generalize hh:upd H1 q _=H2;let⟨s2,e2⟩:=eQ hq hh;clear hh;have q2:v0 O H2 q=some (.tup (κ.map V.int)):=gG e2 (S1.lv.no hq);have S2:=S1.same s2;have t2:=v0S s2 _ _ t1;have h12:=s2 _ _ h11;ext
 let Iv1:L2.Lv:=λj σ H'=>Bx (∃nd' O' d v,σ=[some (.ref p),some (.int n),some (.ref x),some (.ref t),some (.ref d),v]/\Tr O' H' i ns.length nd'/\nd' (κ.take j)=some d/\(∀π x,nd π=some x->nd' π=some x)/\(∀π x,nd' π=some x->nd π=some x\/∃l,l<=j/\π=κ.take l)/\Go1 i O H2 O' H')
 refine AG (xs:=κ.map V.int) Iv1 ⟨L2.j4 nd O top _ ⟨rfl,S2.tr,by rw[abo];exact h3,λ_ _ e=>e,λ_ _ e=>.inl e,.same S2.lv (.refl _)⟩⟩ (λj σ H' _ w=>?_) ?_ ?_
 · let⟨_,_,_,_,_,_,_,_,_,g⟩:=w.o
   exact SqT.of (fQ (g.v0 _ _ q2)).1
 · intro j v σ H3 hi;refine Bx.el ?_;rintro⟨nd',O',d,v5,rfl,R3,hd,old,nw,g3⟩
   let⟨ix,rfl,hix⟩:=g_ hi;have jl:j < κ.length:=(qg.mp hix).1;have tk:κ.take (j+1)=κ.take j++[ix]:=by rw[qQ,hix];rfl
   have lj:(κ.take j).length=j:=by rw[qA];lia
   let⟨od,T3⟩:=R3.tb _ d (by lia) hd;let⟨z_,ks,q1,ik,nk,q4⟩:=id T3;dsimp only at q4;have zz:z_.length < sizeLine:=by
     have:=S.keys (π:=κ.take j) ik nk λm hm=>by
       rw[q4] at hm;cases e:nd' (κ.take j++[m]) with
       | none=>rw[e] at hm;cases hm
       | some y=>exact(nw _ y e).elim (λw=>⟨y,w⟩) λ⟨l,l1,l2⟩=>by have:=congrArg Qg l2;rw[qd,lj,qA] at this;simp at this;lia
     rw[sizeLine_eq];lia
   have id1:IsD H3 d:=.inl ⟨z_,Rd.of q1⟩;have kn:V.int ix=kV (Qn ix:Key):=rfl;ext;intro e he;have q1':=cT (u:=.dK []) he _ _ q1;ext;refine⟨λv hv=>?_,λhn=>?_⟩
   · rw[q4 ix,<-tk] at hv
     cases e':nd' (κ.take (j+1)) with
     | none=>rw[e'] at hv;cases hv
     | some y =>
       rw[e'] at hv;cases hv;have gs:Go1 i O' H3 O' (upd H3 e (.dK [])):=.same g3.lv (cT he);refine⟨L2.j4 nd' O' y _ ⟨rfl,⟨λπ d l h=>?_,R3.inj,R3.up,R3.lg⟩,e',old,λπ x h=>(nw π x h).imp id λ⟨l,l1,l2⟩=>⟨l,by lia,l2⟩,g3.trans gs⟩⟩;let⟨o,T⟩:=R3.tb π d l h;let⟨_,_,w,_⟩:=id T;exact⟨o,T.to (ak (aj w he)) λ_=>rfl⟩
   · rw[q4 ix,<-tk] at hn
     have hn':nd' (κ.take (j+1))=none:=by
       cases e':nd' (κ.take (j+1)) with
       | none=>rfl
       | some y=>rw[e'] at hn;cases hn
     have ned:d≠e:=aj q1 he;have oe:O' e=none:=g3.lv.no he;have T4:Td (upd (upd H3 e (.dK [])) d (.dK (putK z_ (.inl ix) (.ref e)))) d λk=>if k=ix then some e else nd' (κ.take j++[k]):=T3.put q1 ah
     have R4:=R3.set (O':=lab O' e i) (by lia) hd T4 (λb ob=>⟨(gK λw=>by rw[w,oe] at ob;cases ob).trans ob,λnb=>by rw[ak nb,ak λw=>by rw[w,oe] at ob;cases ob]⟩) (λm=>R3.above (by rw[<-tk];exact hn') m) λe' w _=>by
       cases w;exact⟨oe,if_pos rfl,[],[],by rw[ak (qX ned)];exact ah,rfl,aaX,λ_=>rfl⟩
     rw[<-tk] at R4;refine⟨L2.j4 _ (lab O' e i) e _ ⟨rfl,R4,if_pos rfl,λπ y w=>?_,λπ y w=>?_,g3.trans ((Go.new g3.lv he).trans (.put (λb n=>?_) ((gK ned).trans od) rfl))⟩⟩
     · have q:=old π y w
       rw[jc,if_neg λz=>by rw[z,hn'] at q;cases q];exact q
     · unfold jc at w
       by_cases c2:π=κ.take (j+1)
       · exact .inr ⟨j+1,qe _,c2⟩
       · rw[if_neg c2] at w
         exact(nw π y w).imp id λ⟨l,l1,l2⟩=>⟨l,by lia,l2⟩
     · exact(Go.new (P:=λ_=>True) g3.lv he).lv b n
 · intro σ H3;refine Bx.el ?_;rintro⟨nd',O',d,v5,rfl,R3,hd,old,nw,g3⟩
   rw[qa,qN] at hd;rw[qa] at nw;let⟨od,T3⟩:=R3.tb κ d (by lia) hd;let⟨z_,ks,q1,ik,nk,q4⟩:=id T3;dsimp only at q4;have zz:z_.length < sizeLine:=by
     have:=S.keys (π:=κ) ik nk λm hm=>by
       rw[q4] at hm;cases e:nd' (κ++[m]) with
       | none=>rw[e] at hm;cases hm
       | some y=>exact(nw _ y e).elim (λw=>⟨y,w⟩) λ⟨l,l1,l2⟩=>by have:=congrArg Qg l2;rw[qd,qA] at this;simp at this;lia
     rw[sizeLine_eq];lia
   have ht3:=(fQ (g3.v0 _ _ t2)).1;rw[qu] at ht3;have al:=tX (κ.map V.int) (.int z);have dp:=sE.k (k:=Qn z) (v:=V.ref x) q1 zz;ext;have T4:Td (upd H3 d (.dK (putK z_ (.inl z) (.ref x)))) d λk=>if k=z then some x else nd' (κ++[k]):=T3.put q1 ah
   have R4:=R3.set (O':=O') (by lia) hd T4 (λb ob=>⟨ob,λnb=>ak nb⟩) (λm=>R3.end (by rw[qd];show ns.length<=κ.length+1;lia) m) (λe w l=>by lia);rw[<-ek] at R4;have g4:Go1 i O H O' (upd H3 d (.dK (putK z_ (.inl z) (.ref x)))):=((Go.same S.lv (s1.trans s2)).trans g3).trans (.put g3.lv od rfl);have pl:=kE ns n;refine k (jc nd' (parts ns n) (some x)) O' _ ⟨g4.lv,S.gd,by let⟨dx,sh,top,h1,h2,h3⟩:=S.ob;exact ⟨dx,sh,top,g4.v0 _ _ h1,h2.same g4.v0,by rw[jc,if_neg (md (by rw[pl];show 0≠ns.length;lia))];exact old _ _ h3⟩,R4,λπ e w1 w2 w3=>?_,λπ y w1 w2=>?_,S.l64⟩ (λm hm=>?_) g4
   · rw[jc,if_neg (md (by lia))] at w1
     rcases nw π e w1 with w | ⟨l,l1,rfl⟩
     · let⟨j,y,w⟩:=S.fu π e w w2 w3
       by_cases c3:π++[j]=parts ns n
       · exact⟨j,x,if_pos c3⟩
       · exact⟨j,y,(if_neg c3).trans (old _ _ w)⟩
     · by_cases c3:l=κ.length
       · exact⟨z,x,by rw[c3,qN,<-ek];exact if_pos rfl⟩
       · have ll:l < κ.length:=by lia
         let⟨y,hy⟩:=R3.pre κ.length (by rw[qN];exact hd) (l+1) ll;rw[qQ,qi ll] at hy;exact⟨κ[l],y,(if_neg (md (by rw[pl,qd,qA];simp;lia))).trans hy⟩
   · unfold jc at w2
     by_cases c3:π=parts ns n
     · exact⟨n,nL,c,c3.symm⟩
     · rw[if_neg c3] at w2
       exact(nw π y w2).elim (S.cv π y w1) λ⟨l,l1,l2⟩=>by rw[l2,qA] at w1;lia
   · unfold jc
     by_cases c3:m=n
     · rw[c3,if_pos rfl,if_pos rfl]
     · rw[if_neg (λz=>c3 (Kk S.gd hm c z)),if_neg c3]
       cases e:nd (parts ns m) with
       | some y=>exact old _ _ e
       | none =>
         cases e':nd' (parts ns m) with
         | none=>rfl
         | some y =>
           rcases nw _ y e' with w | ⟨l,l1,l2⟩
           · rw[e] at w;cases w
           · have:=congrArg Qg l2;rw[kE,qA] at this;lia
end
def LR {ns:zm}(s:ns.Pairwise (·<=·))(nd:ns.Nodup): ns.Pairwise (· < ·):=List.Pairwise.imp₂ (λa b h1 (h2:a≠b)=>by lia) s nd
abbrev Rs:=List (Int×Addr)
def BP (R:Rs): Prop:=R.Pairwise λa b=>a.1 < b.1
structure RAt (H:Hp)(q:Addr)(ts:zj)(R:Rs): Prop where
 l:H q=some (.lst (ts.map V.ref))
 n:ts.length=R.length
 t:∀(i:Nat) (t:Addr) (r:Int×Addr),ts[i]?=some t->R[i]?=some r->H t=some (.tup [.int r.1,.ref r.2])
def RAt.snoc {H:Hp}{b u y:Addr}{m:Int}{ts:zj}{R:Rs}(A:RAt H b ts R)(hu:H u=none): RAt (upd (upd H u (.tup [.int m,.ref y])) b (.lst (ts.map V.ref++[.ref u]))) b (ts++[u]) (R++[(m,y)]):=by
 have ub:u≠b:=λz=>by rw[z,A.l] at hu;cases hu
 refine⟨by rw[ah,qu];rfl,by rw[qd,qd,A.n];rfl,λi t r e1 e2=>?_⟩;by_cases c:i < ts.length
 · rw[qR c] at e1
   rw[qR (by rw[<-A.n];exact c)] at e2;have h:=A.t i t r e1 e2;rw[ak (λz=>by rw[z,A.l] at h;cases h),ak (aj h hu)];exact h
 · have il:=(qg.mp e1).1
   rw[qd] at il;have ei:i=ts.length:=by simp at il;lia
   rw[qF (by lia),ei,QK] at e1;rw[qF (by rw[<-A.n];lia),ei,<-A.n,QK] at e2;cases e1;cases e2;rw[ak ub];exact ah
def BP.ints {R:Rs}(r:BP R): (R.map (·.1)).Nodup:=(abl.mpr r).imp λh=>Int.ne_of_lt h
def RAt.same {H H':Hp}{q:Addr}{ts:zj}{R:Rs}(A:RAt H q ts R)(s:Zy H H'): RAt H' q ts R:=⟨s _ _ A.l,A.n,λi t r e1 e2=>s _ _ (A.t i t r e1 e2)⟩
def sQ {H H':Hp}{q:Addr}(s:Zy H H')(h:H' q=none): H q=none:=s.free h
def Below (R:Rs)(ch:Int->Int->Option Addr)(w:Int)(m:Int)(y:Addr): Prop:=∃k x j,(k,x)∈R/\ch k j=some y/\m=k*2^w.toNat+j
def Tb1 (H:Hp)(x:Addr)(ch:zM)(w:Int): Prop:=∃z_ ks,H x=some (.dK z_)/\jZ z_ ks/\ks.length < 64/\ks.Nodup/\(∀i:Int,fE z_ (.inl i)=(ch i).map V.ref)/\∀i y,ch i=some y->0<=i/\i < 2^w.toNat
def Rz:Sp:=λvs H Q _=>∃q w ts R ch,vs=[.ref q,.int w]/\RAt H q ts R/\0<=w/\w<=24/\BP R/\(∀k x,(k,x)∈R->0<=k/\k<=2^80/\Tb1 H x (ch k) w)/\(∀R':Rs,BP R'->(∀m y,(m,y)∈R'->Below R ch w m y)->R'.length < 64) ∧
 ∀q' ts' R' H',RAt H' q' ts' R'->BP R'->(∀m y,(m,y)∈R'↔Below R ch w m y)->Zy H H'->H q'=none->(∀t∈ts',H t=none)->Q (.ref q') H'
section
variable [Gn]{a:Adr}{Zz:zu}
abbrev pz (a:Adr): Prop:=ZY P w K mg base 1 "one_level_down" ["nodes","width"] (Rz) []
def wA (T:Zq a): pz a:=by
 exists T.xZ,["nodes","width","below","number","table","index"];rintro⟨q,w,ts,R,ch,rfl,S,w0,w1,rs,tb,bd,k⟩;left;refine⟨_,(ae (dM 2 nD (eS jx))
     (ae (fo (gP (pv 0)) (kK (n:=2) rfl (eV (gn 3 nD) (eV (gn 4 nD) jv)))
     (af (fo (gP (mU (vT hr.hd) (by rfl) T.cW PyProof.Rows.Boot.«sorted» (ao (pv 4)))) (gn 5 nD)
     (af (aF (D6 Qz Q4 Q5 mO (pv 2) (ao (fM (aq (dL SD (dL Kc (pv 3) (pv 1)) (pv 5)) (ao (fF hr.u1 (pv 4) (pv 5) (λ_ _=>rfl))))))))))))
     (af (bq (pv 2))))),?_⟩
 ext;intro b hb;generalize hh:upd _ b _=H1;let⟨s1,e1⟩:=eQ hb hh;clear hh;have S1l:=s1 _ _ S.l;have pw:(0:Int) < 2^w.toNat:=two_pos _;ext
 let Iv1:L2.Lv:=λi σ H'=>Bx (∃ts' R' v1 v2 v3,σ=[some (.ref q),some (.int w),some (.ref b),v1,v2,v3]/\RAt H' b ts' R'/\BP R'/\(∀m y,(m,y)∈R'↔Below (R.take i) ch w m y)/\Zy H H'/\∀t∈ts',H t=none)
 refine iq (xs:=ts.map V.ref) Iv1 ⟨L2.j5 [] [] _ _ _ ⟨rfl,⟨e1,rfl,λi t r e=>(by cases e)⟩,aeD,λm y=>⟨λz=>(by cases z),λ⟨_,_,_,z,_⟩=>(by cases z)⟩,s1,λ_ h=>(nomatch h)⟩⟩ (λi σ H' _ z=>?_) ?_ ?_
 · let⟨_,_,_,_,_,_,_,_,_,s,_⟩:=z.o
   exact Zx.of (s _ _ S.l)
 · intro i v σ H2 hi;refine Bx.el ?_;rintro⟨ts',R',v1,v2,v3,rfl,A,ri,me,s2,nt⟩
   rw[qx] at hi;let⟨t,ht,rfl⟩:=qP.mp hi;have il:i < ts.length:=(qg.mp ht).1;obtain⟨⟨n,x⟩,hr⟩:∃r,R[i]?=some r:=⟨_,qi (by rw[<-S.n];exact il)⟩;have htt:=s2 _ _ (S.t i t _ ht hr);let⟨n0,n1,z_,ks,hx,ik,k64,knd,vk,kb⟩:=tb n x (qw hr);have hx2:=s2 _ _ hx;ext;intro q1 js hq1 pm srt;have jl:=pm.length_eq;have jr:=LR srt (pm.nodup_iff.mpr knd);generalize hh:upd H2 q1 _=H3;let⟨s3,e3⟩:=eQ hq1 hh;clear hh;have nbq:q1≠b:=λz=>by rw[z,A.l] at hq1;cases hq1
   have bl:=bd R' ri λm y h=>(by let⟨k,x,j,z,r⟩:=(me m y).mp h;exact ⟨k,x,j,ach z,r⟩);have jm:∀c,c∈js↔∃y,ch n c=some y:=λc=>by
     rw[pm.mem_iff,ja ik,vk c];cases ch n c<;>simp
   have sh:Wb n w:=⟨w0,by lia,by
     have e:(2:Nat)^80 < 2^1000:=adU (by decide) (by decide);have e2:((2^80:Nat):Int)=2^80:=by decide
     lia⟩
   ext
   let Iv2:L2.Lv:=λj σ H'=>Bx (∃ts4 v,σ=[some (.ref q),some (.int w),some (.ref b),some (.int n),some (.ref x),v]/\RAt H' b ts4 (R'++(js.take j).map λc=>(n*2^w.toNat+c,(ch n c).getD 0))/\Zy H H'/\H' q1=some (.lst (js.map V.int))/\∀t∈ts4,H t=none)
   refine iq (xs:=js.map V.int) Iv2 ⟨L2.j2 ts' _ ⟨rfl,by rw[abo,adn,abC];exact A.same s3,s2.trans s3,e3,nt⟩⟩ (λj σ H' _ z=>?_) ?_ ?_
   · let⟨_,_,_,_,_,z,_⟩:=z.o
     exact Zx.of z
   · intro j v σ H4 hj;refine Bx.el ?_;rintro⟨ts4,v4,rfl,A4,s4,e4,nt4⟩
     let⟨c,rfl,hc⟩:=g_ hj;let⟨y,hy⟩:=(jm c).mp (qw hc);let⟨c0,c1⟩:=kb c y hy;have hx4:=s4 _ _ hx;have gg:=kg.k (k:=Qn c) hx4;rw[vk c,hy] at gg;have A4l:=A4.l;have sz:(ts4.map V.ref).length < sizeLine:=by
       have:=A4.n;rw[qd,qa,qA] at this;rw[qa,sizeLine_eq];lia
     ext;intro u hu;have eu:(λi j=>V.int (abY i j)) (n*2^w.toNat) c=.int (n*2^w.toNat+c):=congrArg V.int (GO n0 c0 c1);dsimp only at eu ⊢;rw[eu];have A4u:upd H4 u (.tup [.int (n*2^w.toNat+c),.ref y]) b=some (.lst (ts4.map V.ref)):=by rw[ak (aj A4.l hu)];exact A4.l
     ext;refine⟨L2.j2 (ts4++[u]) _ ⟨rfl,?_,λd v z=>?_,?_,λt h=>?_⟩⟩
     · have:=A4.snoc (m:=n*2^w.toNat+c) (y:=y) hu
       rw[acS] at this;rw[qQ,hc,qu];show RAt _ b _ (R'++(_++[(n*2^w.toNat+c,(ch n c).getD 0)]));rw[hy];exact this
     · have h4:=s4 _ _ z
       rw[ak (aj z hb),ak (aj h4 hu)];exact h4
     · rw[ak nbq,ak (aj e4 hu)];exact e4
     · rcases q_.mp h with h | h
       · exact nt4 t h
       · rw[qc.mp h];exact s4.free hu
   · intro σ H4;refine Bx.el ?_;rintro⟨ts4,v4,rfl,A4,s4,e4,nt4⟩
     rw[qa,qN] at A4;have tkr:R.take (i+1)=R.take i++[(n,x)]:=by rw[qQ,hr];rfl
     refine⟨L2.j5 ts4 _ _ _ _ ⟨rfl,A4,aea.mpr ⟨ri,abl.mpr (jr.imp λh=>by show _+_ < _+_;lia),λa ha b hb=>?_⟩,λm y=>?_,s4,nt4⟩⟩
     · let⟨k',x',j',z1,z2,z3⟩:=(me a.1 a.2).mp ha
       let⟨c,hc,rfl⟩:=Qa.mp hb;have p1:BP (R.take (i+1)):=rs.sublist (acR _ _);rw[tkr] at p1;have lt:k' < n:=(aea.mp p1).2.2 (k',x') z1 (n,x) (by simp);let⟨_,_,_,_,_,_,_,_,_,kb'⟩:=tb k' x' (ach z1);have jb:=kb' j' _ z2;let⟨y,hy⟩:=(jm c).mp hc;have cb:=kb c y hy;have h2:(k'+1)*2^w.toNat<=n*2^w.toNat:=abX (by lia) (abr pw);rw[Int.add_mul,acV] at h2;show a.1 < n*2^w.toNat+c;lia
     · rw[q_,me,tkr,Qa]
       constructor
       · rintro(⟨k',x',j',z1,z2⟩ | ⟨c,hc,z⟩)
         · exact⟨k',x',j',QM _ z1,z2⟩
         · let⟨y',hy⟩:=(jm c).mp hc
           rw[hy] at z;let⟨rfl,rfl⟩:=Prod.mk.inj z;exact⟨n,x,c,by simp,hy,rfl⟩
       · rintro⟨k',x',j',z1,z2,z3⟩
         rcases q_.mp z1 with z1 | z1
         · exact .inl ⟨k',x',j',z1,z2,z3⟩
         · let⟨rfl,rfl⟩:=Prod.mk.inj (qc.mp z1)
           exact .inr ⟨j',(jm j').mpr ⟨y,z2⟩,by rw[z2,z3];rfl⟩
 · intro σ H2;refine Bx.el ?_;rintro⟨ts',R',v1,v2,v3,rfl,A,ri,me,s2,nt⟩
   rw[qa,S.n,qN] at me;ext;exact k b ts' R' H2 A ri me s2 hb nt
end
def Lvl (ns:zm)(nd:zB)(i:Nat)(R:Rs): Prop:=BP R/\∀m x,(m,x)∈R↔(0<=m/\m < span (ns.take i)/\nd (parts (ns.take i) m)=some x)
section
variable {a:Adr}{O:Lab}{H:Hp}{i:Pt}{p:Addr}{ns L:zm}{low w:Int}{nd:zB}{j:Nat}{R:Rs}
def Good.tk (g:Good ns low)(j:Nat): ∀x∈ns.take j,0<=x:=λx hx=>by have:=g.all x (ach hx);lia
def Good.span (g:Good ns low)(j:Nat): span (ns.take j)<=2^72:=by
 have e:ns.sum=(ns.take j).sum+(ns.drop j).sum:=by rw[<-List.sum_append,List.take_append_drop]
 have d0:=(Jo (ns:=ns.drop j) λx hx=>g.all x (List.mem_of_mem_drop hx)).1;have:=g.sum;exact uZ (by lia)
def TrX.below (S:TrX a O H i p ns low L nd)(hw:ns[j]?=some w)(lv:Lvl ns nd j R)(m:Int)(y:Addr):
   Below R (λk j'=>nd (parts (ns.take j) k++[j'])) w m y↔(0<=m/\m < span (ns.take (j+1))/\nd (parts (ns.take (j+1)) m)=some y):=by
 have tk:ns.take (j+1)=ns.take j++[w]:=by rw[qQ,hw];rfl
 have w0:=S.gd.all w (qw hw);have jl:j < ns.length:=(qg.mp hw).1;have hp:(0:Int) < 2^w.toNat:=two_pos _;rw[tk,Ef (S.gd.tk j) (by lia),pN];constructor
 · rintro⟨k,x,c,h1,h2,rfl⟩
   let⟨q1,q2,q3⟩:=(lv.2 k x).mp h1;have f:=S.fit h2;rw[qd,kP,qA,acq (by lia)] at f;have f:Fit (ns.take (j+1)) _:=f;rw[tk] at f;let⟨_,j0,j1⟩:=f.IV;rw[Int.add_comm,Int.add_mul_ediv_right _ _ (adt hp),Int.ediv_eq_zero_of_lt j0 j1,Int.zero_add,Int.add_mul_emod_self_right,Int.emod_eq_of_lt j0 j1];have:=adT q1 (abr hp);have h3:(k+1)*2^w.toNat<=span (ns.take j)*2^w.toNat:=abX (by lia) (abr hp);rw[Int.add_mul,acV] at h3;exact⟨by lia,by lia,h2⟩
 · rintro⟨m0,m1,h⟩
   let⟨d,hd⟩:=S.tr.up _ _ _ h;refine⟨m / 2^w.toNat,d,m%2^w.toNat,(lv.2 _ _).mpr ⟨IU m0,Nj m1,hd⟩,h,?_⟩;have:=adJ m (2^w.toNat);rw[aeF] at this;exact this.symm
def TrX.small (S:TrX a O H i p ns low L nd)(h1:BP R)(h2:∀m x,(m,x)∈R->(0<=m/\m < span (ns.take j)/\nd (parts (ns.take j) m)=some x))(hj:1<=j): R.length < 64:=by
 have:=S.few (k:=(ns.take j).length) (ms:=R.map (·.1)) (parts (ns.take j)) h1.ints (λm hm m' hm' e=>by
   let⟨⟨m,x⟩,r1,rfl⟩:=Qa.mp hm;let⟨⟨m',x'⟩,r2,rfl⟩:=Qa.mp hm';let⟨a1,a2,_⟩:=h2 m x r1;let⟨b1,b2,_⟩:=h2 m' x' r2;show m=m';rw[<-pO _ (S.gd.tk j) a1 a2,<-pO _ (S.gd.tk j) b1 b2];exact congrArg (λz=>glue ((ns.take j).zip z)) e) (λm hm=>by
   let⟨⟨m,x⟩,r1,rfl⟩:=Qa.mp hm;exact⟨by rw[kP],x,(h2 m x r1).2.2⟩) (by have:=S.gd.len;rw[qA];lia)
 rwa [qa] at this
def TrX.tb1 (S:TrX a O H i p ns low L nd)(hw:ns[j]?=some w)(lv:Lvl ns nd j R){k:Int}{x:Addr}(h:(k,x)∈R): 0<=k/\k<=2^80/\Tb1 H x (λc=>nd (parts (ns.take j) k++[c])) w:=by
 have tk:ns.take (j+1)=ns.take j++[w]:=by rw[qQ,hw];rfl
 have jl:j < ns.length:=(qg.mp hw).1;let⟨q1,q2,q3⟩:=(lv.2 k x).mp h;have pl:(parts (ns.take j) k).length=j:=by rw[kP,qA];lia
 let⟨_,z_,ks,h1,h2,h3,h4⟩:=S.tr.tb _ x (by lia) q3;have sp:=S.gd.span j;have e80:(2:Int)^72<=2^80:=by decide
 have kl:=S.keys (π:=parts (ns.take j) k) h2 h3 λc hc=>by
   rw[h4 c] at hc;dsimp only at hc;cases e:nd (parts (ns.take j) k++[c]) with
   | none=>rw[e] at hc;cases hc
   | some y=>exact⟨y,rfl⟩
 have e:z_.length=ks.length:=by have:=congrArg Qg h2;simpa using this
 refine⟨q1,by lia,z_,ks,h1,h2,by lia,sO h2 h3,h4,λc y hc=>?_⟩;have f:=S.fit hc;rw[qd,pl] at f;have f:Fit (ns.take (j+1)) _:=f;rw[tk] at f;exact f.IV.2
end
structure RwT (ns:zm)(nd:zB)(R:Rs): Prop where
 le:R.length < 64
 ri:BP R
 me:∀m x,(m,x)∈R↔InP ns m/\nd (parts ns m)=some x
def RB (a:Adr): Sp:=λvs H Q _=>∃O i p ns low L nd,vs=[.ref p]/\TrX a O H i p ns low L nd/\∀q ts R H',RAt (v0 O H') q ts R->RwT ns nd R->Zy H H'->Q (.ref q) H'
section
variable [Gn]{a:Adr}{Zz:zu}
abbrev yJ (a:Adr): Prop:=cR P w K mg base a.hJ 2 "rows" ["self"] (RB a) []
def FP (T:Zq a)(lE:pz a): yJ a:=by
 exists T.Hq,["self","nodes","width"];rintro⟨O,i,p,ns,low,L,nd,rfl,S,k⟩;left;refine⟨_,(ae (dM 1 nD (eS (ao (fM (aq ai (ao (fl (pv 0))))))))
     (ae (fo (EG (fl (fl (pv 0)))) (gn 2 nD)
     (af (dM 1 nD (pf lE (aq (pv 1) (ao (pv 2)))))))
     (af (bq (pv 1))))),?_⟩
 let⟨dx,sh,top,h1,h2,h3⟩:=S.ob;have h1:=v0H _ _ h1;let⟨dxs,t,h4,h5⟩:=h2.same v0H;ext;intro u hu;generalize hh:upd H u _=H1;let⟨s1,e1⟩:=eQ hu hh;clear hh;refine⟨by rw[sizeLine_eq];exact(by decide:1<=16777216),λq hq=>?_⟩;generalize hh:upd H1 q _=H2;let⟨s2,e2⟩:=eQ hq hh;clear hh;have hq0:=s1.free hq;have s12:=s1.trans s2;have h12:=s12 _ _ h1;have h42:=s12 _ _ h4;have h52:=s12 _ _ h5;have gl:=S.gd.len;ext
 let Iv1:L2.Lv:=λj σ H'=>Bx (∃q ts R v,σ=[some (.ref p),some (.ref q),v]/\RAt H' q ts R/\Lvl ns nd j R/\Zy H H'/\H q=none/\∀t∈ts,H t=none)
 refine AG (xs:=ns.map V.int) Iv1 ⟨L2.j4 q ([u]) ([(0,top)]) _ ⟨rfl,⟨e2,rfl,λj t r w1 w2=>?_⟩,⟨List.pairwise_singleton _ _,λm x=>?_⟩,s12,hq0,λt h=>by rw[qc.mp h];exact hu⟩⟩ (λj σ H' _ z=>?_) ?_ ?_
 · cases j with
   | zero=>cases w1;cases w2;exact s2 _ _ e1
   | succ j=>cases w1
 · rw[abo,parts_nil,h3,qc,show span []=1 by decide]
   constructor
   · intro z;cases z;exact⟨by decide,by decide,rfl⟩
   · rintro⟨z1,z2,z3⟩
     cases z3;rw[show m=0 by lia]
 · let⟨_,_,_,_,_,_,_,s,_⟩:=z.o
   exact SqT.of (s _ _ h5)
 · intro j v σ H3 hi;refine Bx.el ?_;rintro⟨q,ts,R,v,rfl,A3,lv,s3,hq,nt⟩
   let⟨w,rfl,hw⟩:=g_ hi;have wb:=S.gd.all w (qw hw);have S3:=S.same s3;have bl:=S.below hw lv;ext;refine⟨lv.1,λk x h=>S3.tb1 hw lv h,λR' r1 r2=>S.small r1 (λm x hm=>(bl m x).mp (r2 m x hm)) (by lia),λq' ts' R' H4 A4 ri me s4 hq4 nt4=>?_⟩;exact⟨L2.j4 q' ts' R' _ ⟨rfl,A4,⟨ri,λm x=>by rw[me m x];exact bl m x⟩,s3.trans s4,s3.free hq4,λt h=>s3.free (nt4 t h)⟩⟩
 · intro σ H3;refine Bx.el ?_;rintro⟨q,ts,R,v,rfl,A3,lv,s3,hq,nt⟩
   rw[qa] at lv;let⟨l1,l2⟩:=lv;have sm:=S.small l1 (λm x h=>(l2 m x).mp h) (by lia);rw[qN] at l2;ext;exact k q ts R H3 ⟨gG A3.l (S.lv.no hq),A3.n,λj t r w1 w2=>gG (A3.t j t r w1 w2) (S.lv.no (nt t (qw w1)))⟩ ⟨sm,l1,λm x=>by rw[l2];exact and_assoc.symm⟩ s3
end
def FQ (N:Nat)(nd:zB)(ex:Ix): Prop:=∀π d,nd π=some d->π≠[]->π.length < N->π≠ex->∃k y,nd (π++[k])=some y
def Way (nd:zB)(ι:Ix)(ds:zj): Prop:=∀(j:Nat) d,ds[j]?=some d->nd (ι.take j)=some d
structure Cut (nd:zB)(ι:Ix)(nd':zB): Prop where
 sub:∀π x,nd' π=some x->nd π=some x
 oth:∀π,(∀j,π≠ι.take j)->nd' π=nd π
 top:nd' []=nd []
def Td.empty {H:Hp}{d:Addr}{f:zM}(T:Td H d f){z_:zv}(h:H d=some (.dK z_)): (z_.length=0->∀i,f i=none)/\(z_.length≠0->∃i x,f i=some x):=by
 let⟨HF,ks,q1,q2,q3,q4⟩:=T;rw[h] at q1;cases q1;have e:z_.length=ks.length:=by have:=congrArg Qg q2;simpa using this
 constructor
 · intro z i
   cases c:f i with
   | none=>rfl
   | some x =>
     have:=(ja (k:=i) q2).mpr (by rw[q4,c];rfl);rw[acf (e.symm.trans z)] at this;cases this
 · intro z
   cases ks with
   | nil=>exact absurd e z
   | cons k ks =>
     have:=(ja (k:=k) q2).mp qG;rw[q4 k] at this;cases c:f k with
     | none=>rw[c] at this;cases this
     | some x=>exact⟨k,x,c⟩
def RC (a:Adr): Sp:=λvs H Q _=>∃O i p ns low L nd t ι x,vs=[.ref p,.ref t]/\TrX a O H i p ns low L nd/\v0 O H t=some (.tup (ι.map V.int))/\ι.length=ns.length/\nd ι=some x ∧
 ∀q ds H',v0 O H' q=some (.lst (ds.map V.ref))->Way nd ι ds->ds.length=ns.length->Zy H H'->Q (.ref q) H'
def RD:Sp:=λvs H Q _=>∃O i q t N nd ι ds,vs=[.ref q,.ref t]/\Lv O H/\Tr O H i N nd/\v0 O H q=some (.lst (ds.map V.ref))/\ds.length=N/\Way nd ι ds/\v0 O H t=some (.tup (ι.map V.int))/\ι.length=N/\1<=N/\N<=3/\FQ N nd (ι.take (N-1)) ∧
 ∀nd' H',Tr O H' i N nd'->FQ N nd' []->Cut nd ι nd'->Go1 i O H O H'->Q .non H'
def RE (a:Adr): Sp:=λvs H Q _=>∃O i p ns low L nd n x,vs=[.ref p,.int n]/\TrX a O H i p ns low L nd/\InP ns n/\nd (parts ns n)=some x/\∀nd' H',TrX a O H' i p ns low L nd'->At1 ns n none nd nd'->Go1 i O H O H'->Q (.ref x) H'
def Tr.out {O:Lab}{H:Hp}{i:Pt}{n:Nat}{nd:zB}{π:Ix}{d:Addr}{j:Int}{z_:zv}(S:Tr O H i n nd)(hl:π.length < n)(hd:nd π=some d)(hk:H d=some (.dK z_))(no:∀k,nd (π++[j]++[k])=none): Tr O (upd H d (.dK (h_ z_ (.inl j)))) i n (jc nd (π++[j]) none) :=
 S.set hl hd ((S.tb π d hl hd).2.drop hk ah) (λb ob=>⟨ob,λnb=>ak nb⟩) no λ_ z=>(nomatch z)
section
variable [Gn]{a:Adr}{Zz:zu}
abbrev Kl (a:Adr): Prop:=ZY P w K mg base 1 "prune" ["path","indexes"] (RD) []
def Oj (T:Zq a): Kl a:=by
 exists T.Rq,["path","indexes","level"];rintro⟨O,i,q,t,N,nd,ι,ds,rfl,lv,S,hq,dl,W,ht,il,N1,N3,fx,k⟩;left;refine⟨_,(af (fo (Lj (by rfl) T.dQ (aq (dL ji (ln (ao (pv 0))) ai) (aq ai (ao (nK kN ai))))) (gn 2 nD)
     (af (cG (ct gM (mU KZ (by rfl) T.fY adY (ao (hZ fV (pv 0) (pv 2)))) ai) (af (aF (mV (hZ fV (pv 0) (dL ji (pv 2) ai)) (hZ iI (pv 1) (dL ji (pv 2) ai)) ⟨rfl,rfl,rfl,rfl⟩))) bb)))),?_⟩
 have lq:(ds.map V.ref).length=N:=by rw[qa];exact dl
 have hq0:=v0H _ _ hq;ext;rw[lq];rw[show ((N:Int)-1-0).toNat=N-1 by lia]
 let Iv1:L2.Lv:=λj σ H'=>Bx (∃nd' v,σ=[some (.ref q),some (.ref t),v]/\Tr O H' i N nd'/\FQ N nd' (ι.take (N-1-j))/\Cut nd ι nd'/\(∀(l:Nat) d,l<=N-1-j->ds[l]?=some d->nd' (ι.take l)=some d)/\Go1 i O H O H')
 refine Nn Iv1 ⟨L2.j2 nd _ ⟨rfl,S,fx,⟨λ_ _ e=>e,λ_ _=>rfl,rfl⟩,λj d _ e=>W j d e,.same lv (.refl _)⟩⟩ ?_ ?_
 · intro j σ H1 hi;refine Bx.el ?_;rintro⟨nd',v,rfl,S1,f1,C1,W1,r1⟩
   obtain⟨L,hL⟩:∃L:Nat,N-1-j=L+1:=⟨N-2-j,by lia⟩;have eL:(N:Int)-1-(j:Int)=((L+1:Nat):Int):=by lia
   have eL2:N-1-(j+1)=L:=by lia
   rw[eL];rw[hL] at f1 W1;obtain⟨d1,g1⟩:∃d,ds[L+1]?=some d:=⟨_,qi (by lia)⟩;obtain⟨d0,g0⟩:∃d,ds[L]?=some d:=⟨_,qi (by lia)⟩;obtain⟨ix,gx⟩:∃d,ι[L]?=some d:=⟨_,qi (by lia)⟩;have n1:=W1 (L+1) d1 (qe _) g1;have n0:=W1 L d0 (by lia) g0;have tk:ι.take (L+1)=ι.take L++[ix]:=by rw[qQ,gx];rfl
   have l0:(ι.take L).length=L:=by rw[qA];lia
   have l1:(ι.take (L+1)).length=L+1:=by rw[qA];lia
   have T1:=(S1.tb _ d1 (by lia) n1).2;let⟨o0,T0⟩:=S1.tb _ d0 (by lia) n0;let⟨z_,_,hk,_⟩:=id T1;let⟨HF,_,hk0,_,nk0,vk0⟩:=id T0;have emp:=T1.empty hk;have hq1:=(fQ (r1.v0 _ _ hq)).1;have ht1:=(fQ (r1.v0 _ _ ht)).1;have e1:((L+1:Nat):Int)-1=(L:Int):=by lia
   have a1:atI (ds.map V.ref) ((L+1:Nat):Int)=some (.ref d1):=pJ (by rw[qx,g1];rfl);have a0:atI (ds.map V.ref) (((L+1:Nat):Int)-1)=some (.ref d0):=by rw[e1];exact pJ (by rw[qx,g0];rfl)
   have ax:atI (ι.map V.int) (((L+1:Nat):Int)-1)=some (.int ix):=by rw[e1];exact pJ (by rw[qx,gx];rfl)
   have kx:V.int ix=kV (.inl ix):=rfl;have vx:fE HF (.inl ix)=some (.ref d1):=by rw[vk0];dsimp only;rw[<-tk,n1];rfl
   have isd:IsD H1 d0:=.inl ⟨HF,Rd.of hk0⟩;ext;show ite _ _ _;by_cases c:z_.length=0
   · rw[if_pos (by rw[decide_eq_true_eq,c];rfl)]
     have R:=S1.out (j:=ix) (by lia:(ι.take L).length < N) n0 hk0 (λj=>by rw[<-tk];exact emp.1 c j);rw[<-tk] at R;have tn:∀{j},j<=L->ι.take j≠ι.take (L+1):=λhj=>md (by rw[l1,qA];lia);ext;refine⟨L2.j2 _ _ ⟨rfl,R,λπ e w1 w2 w3 w4=>?_,⟨λπ x w=>?_,λπ w=>?_,(if_neg (tn (qV _))).trans C1.top⟩,λj d w1 w2=>(if_neg (tn (by lia))).trans (W1 j d (by lia) w2),r1.trans (.put r1.lv o0 rfl)⟩⟩
     · rw[eL2] at w4
       unfold jc at w1;by_cases c2:π=ι.take (L+1)
       · rw[if_pos c2] at w1;cases w1
       · rw[if_neg c2] at w1
         let⟨k,y,w⟩:=f1 π e w1 w2 w3 c2;exact⟨k,y,(if_neg λz=>w4 (by rw[tk] at z;exact(abW z rfl).1)).trans w⟩
     · unfold jc at w
       by_cases c2:π=ι.take (L+1)
       · rw[if_pos c2] at w;cases w
       · rw[if_neg c2] at w;exact C1.sub π x w
     · exact(if_neg (w _)).trans (C1.oth π w)
   · rw[if_neg (by rw[decide_eq_true_eq];intro z;injection z with z;lia)]
     let⟨j,y,hy⟩:=emp.2 c;refine⟨L2.j2 nd' _ ⟨rfl,S1,λπ e w1 w2 w3 w4=>?_,C1,λj d w1 w2=>W1 j d (by lia) w2,r1⟩⟩;by_cases c2:π=ι.take (L+1)
     · exact⟨j,y,by rw[c2];exact hy⟩
     · exact f1 π e w1 w2 w3 c2
 · intro σ H1;refine Bx.el ?_;rintro⟨nd',v,rfl,S1,f1,C1,W1,r1⟩
   rw[QK,abo] at f1;exact k nd' H1 S1 f1 C1 r1
abbrev sR (a:Adr): Prop:=cR P w K mg base a.hJ 1 "path_to" ["self","indexes"] (RC a) []
def Af (T:Zq a): sR a:=by
 exists T.Bw,["self","indexes","path","index"];rintro⟨O,i,p,ns,low,L,nd,t,ι,x,rfl,S,ht,il,hx,k⟩;left;refine⟨_,(ae (dM 2 nD (eS (ao (fl (pv 0)))))
     (ae (fo (EG (oX A5 (pv 1) vM (pI (nK kN ai)))) (gn 3 nD)
     (ae (cG (ct (pc hr.u1) (pv 3) (hZ fV (pv 2) (nK kN ai))) (af Mj) bb)
     (af (aF (D6 Qz Q4 Q5 mO (pv 2) (ao (fF hr.u1 (hZ fV (pv 2) (nK kN ai)) (pv 3) (λ_ _=>rfl))))))))
     (af (bq (pv 2))))),?_⟩
 let⟨dx,sh,top,h1,h2,h3⟩:=S.ob;have h1:=v0H _ _ h1;have ht0:=v0H _ _ ht;have gl:=S.gd.len;obtain⟨κ,z,rfl⟩:∃κ z,ι=κ++[z]:=⟨_,_,(Qt (l:=ι) (md (by rw[il];show ns.length≠0;lia))).symm⟩;have kl:κ.length+1=ns.length:=by rw[<-il,qd];rfl
 ext;intro q hq;generalize hh:upd _ q _=H1;let⟨s1,e1⟩:=eQ hq hh;clear hh;have h11:=s1 _ _ h1;have ht1:=s1 _ _ ht0;ext;refine⟨λz=>(BM (by rw[qa,qd];rfl) z).elim,λy hy=>?_⟩;rw[yf];generalize hh:upd H1 y _=H2;let⟨s2,e2⟩:=eQ hy hh;clear hh;have hq2:=s2 _ _ e1;have nyq:y≠q:=λw=>by rw[w,e1] at hy;cases hy
 ext
 let Iv1:L2.Lv:=λj σ H'=>Bx (∃ds v,σ=[some (.ref p),some (.ref t),some (.ref q),v]/\H' q=some (.lst (ds.map V.ref))/\ds.length=j+1/\Way nd (κ++[z]) ds/\Zy H H'/\H' y=some (.tup (κ.map V.int)))
 refine AG (xs:=κ.map V.int) Iv1 ⟨L2.j2 ([top]) _ ⟨rfl,hq2,rfl,λj d w=>?_,s1.trans s2,e2⟩⟩ (λi σ H' _ w=>?_) ?_ ?_
 · cases j with
   | zero=>cases w;exact h3
   | succ j=>cases w
 · let⟨_,_,_,_,_,_,_,w⟩:=w.o
   exact SqT.of w
 · intro j v σ H3 hi;refine Bx.el ?_;rintro⟨ds,v5,rfl,g1,g2,W,s3,g3⟩
   let⟨ix,rfl,hix⟩:=g_ hi;have jl:j < κ.length:=(qg.mp hix).1;have gx:(κ++[z])[j]?=some ix:=by rw[qR jl];exact hix
   have tk:(κ++[z]).take (j+1)=(κ++[z]).take j++[ix]:=by rw[qQ,gx];rfl
   obtain⟨es,d,rfl⟩:∃es d,ds=es++[d]:=⟨_,_,(Qt (l:=ds) λw=>by rw[w] at g2;cases g2).symm⟩;have el:es.length=j:=by rw[qd] at g2;exact acy g2
   have hd:=W j d (by rw[qF (by lia),el,QK];rfl);have lst:=tX (es.map V.ref) (.ref d);let⟨_,z_,_,q1,_,_,q4⟩:=(S.same s3).tr.tb _ d (by rw[qA];lia) hd;dsimp only at q4;rw[qu] at g1;let⟨y',hy'⟩:=S.tr.pre (κ++[z]).length (by rw[qN];exact hx) (j+1) (by rw[il];lia);have gg:=kg.k (k:=Qn ix) q1;rw[q4 ix,<-tk,hy'] at gg;have sz:(es.map V.ref++[V.ref d]).length < sizeLine:=by rw[qd,qa,sizeLine_eq];show es.length+1 < _;lia
   ext;refine⟨L2.j2 (es++[d]++[y']) _ ⟨rfl,?_,by rw[qd,g2];rfl,λl x' w=>?_,λb u w=>?_,?_⟩⟩
   · rw[ah,qu,qu];rfl
   · by_cases c:l < (es++[d]).length
     · rw[qR c] at w;exact W l x' w
     · have ll:=(qg.mp w).1
       rw[qd] at ll;have ej:l=j+1:=by simp at ll;lia
       rw[ej,qF (by lia),g2,QK] at w;cases w;rw[ej];exact hy'
   · rw[ak (aj w hq)];exact s3 _ _ w
   · rw[ak nyq];exact g3
 · intro σ H3;refine Bx.el ?_;rintro⟨ds,v5,rfl,g1,g2,W,s3,g3⟩
   rw[qa] at g2;ext;exact k q ds H3 (gG g1 (S.lv.no hq)) W (by lia) s3
abbrev yK (a:Adr): Prop:=cR P w K mg base a.hJ 5 "drop" ["self","page"] (RE a) []
def FR (T:Zq a)(gQ:kR a)(m6:sR a)(FT:Kl a): yK a:=by
 exists T.Ho,["self","page","indexes","path","leaf"];rintro⟨O,i,p,ns,low,L,nd,n,x,rfl,S,c,hx,k⟩;left;refine⟨_,(ae (dM 2 nD (pm (pv 0) gQ (ao (pv 1))))
     (ae (dM 3 nD (pm (pv 0) m6 (ao (pv 2))))
     (ae (cG (ct AZ (ln (ao (pv 3))) (ln (ao (pv 2)))) (af (bq jS)) bb)
     (ae (dM 4 nD (MM (hZ fV (pv 3) (nK kN ai)) (hZ iI (pv 2) (nK kN ai)) jS ⟨rfl,rfl,rfl,rfl⟩))
     (ae (aF (pf FT (aq (pv 3) (ao (pv 2)))))
     (af (bq (pv 4)))))))),?_⟩
 let⟨dx,sh,top,h1,h2,h3⟩:=S.ob;have h1:=v0H _ _ h1;ext;refine⟨λ_ t H1 s1 ht tn=>?_,λz=>absurd c z⟩;have pl:=kE ns n;have S1:=S.same s1;have h11:=s1 _ _ h1;have gl:=S.gd.len;have ht1:v0 O H1 t=some (.tup ((parts ns n).map V.int)):=gG ht (S.lv.no tn);ext;intro q ds H2 hq W dl s2;have S2:=S1.same s2;have ht2:=v0S s2 _ _ ht1;have hq2:=v0H _ _ hq;have ht3:=v0H _ _ ht2;have em:(ds.map V.ref).length=ns.length:=by rw[qa];exact dl
 have em2:((parts ns n).map V.int).length=ns.length:=by rw[qa];exact pl
 obtain⟨κ,z,ek⟩:∃κ z,parts ns n=κ++[z]:=⟨_,_,(Qt (l:=parts ns n) (md (by rw[pl];show ns.length≠0;lia))).symm⟩;obtain⟨es,d,rfl⟩:∃es d,ds=es++[d]:=⟨_,_,(Qt (l:=ds) λw=>by rw[w] at dl;have dl:0=ns.length:=dl;lia).symm⟩;have kl:κ.length+1=ns.length:=by rw[<-pl,ek,qd];rfl
 have el:es.length+1=ns.length:=by rw[<-dl,qd];rfl
 have hd:=W es.length d (by rw[qF (qe _),QK];rfl);have tkk:(parts ns n).take es.length=κ:=by rw[ek];exact acp (by lia)
 rw[tkk] at hd;have a1:atI ((es++[d]).map V.ref) (-1)=some (.ref d):=by rw[qu];exact tX _ _
 have a2:atI ((parts ns n).map V.int) (-1)=some (.int z):=by rw[ek,qu];exact tX _ _
 let⟨od,T2⟩:=S2.tr.tb κ d (by lia) hd;let⟨z_,_,hk,_,_,vk⟩:=id T2;have isd:IsD H2 d:=.inl ⟨z_,Rd.of hk⟩;have kz:V.int z=kV (.inl z):=rfl;have vz:fE z_ (.inl z)=some (.ref x):=by rw[vk];dsimp only;rw[<-ek,hx];rfl
 ext;refine⟨λv hv=>?_,λhv=>by rw[vz] at hv;cases hv⟩;rw[vz] at hv;cases hv;have R:=S2.tr.out (j:=z) (by lia:κ.length < ns.length) hd hk λj=>S2.tr.end (by rw[qd];show ns.length<=κ.length+1;lia) j;rw[<-ek] at R;have g3:Go1 i O H2 O (upd H2 d (.dK (h_ z_ (.inl z)))):=.put S2.lv od rfl;have hq3:=g3.v0 _ _ hq;have ht4:=g3.v0 _ _ ht2;have lv3:=g3.lv;have n1:1<=ns.length:=by lia
 have n3:ns.length<=3:=by lia
 have W3:Way (jc nd (parts ns n) none) (parts ns n) (es++[d]):=λj d' w=>(if_neg (md (by have:=(qg.mp w).1;rw[qA];lia))).trans (W j d' w);have fx:FQ ns.length (jc nd (parts ns n) none) ((parts ns n).take (ns.length-1)):=λπ d w1 w2 w3 w4=>by
   rw[jc,if_neg (md (by lia))] at w1;let⟨k,y,w⟩:=S.fu π d w1 w2 w3;exact⟨k,y,(if_neg λz=>w4 (by rw[<-z,<-pl,<-z,qd];exact(acp rfl).symm)).trans w⟩
 ext;intro nd' H4 R4 f4 C4 g4;ext;have g:Go1 i O H O H4:=((Go.same S.lv (s1.trans s2)).trans g3).trans g4;have sub:∀{π y},nd' π=some y->nd π=some y:=λ{π y} w=>by
   have:=C4.sub π y w;unfold jc at this;by_cases c:π=parts ns n
   · rw[if_pos c] at this;cases this
   · rwa [if_neg c] at this
 refine k nd' H4 ⟨g.lv,S.gd,by let⟨dx,sh,top,h1,h2,h3⟩:=S.ob;exact ⟨dx,sh,top,g.v0 _ _ h1,h2.same g.v0,(C4.top.trans (if_neg (md (by rw[pl];show 0≠ns.length;lia)))).trans h3⟩,R4,λπ d w1 w2 w3=>f4 π d w1 w2 w3 w2,λπ y w1 w2=>S.cv π y w1 (sub w2),S.l64⟩ (λm hm=>?_) g;by_cases c3:m=n
 · rw[c3,if_pos rfl]
   cases e:nd' (parts ns n) with
   | none=>rfl
   | some y=>have:=C4.sub _ y e;rw[jc,if_pos rfl] at this;cases this
 · have ne:parts ns m≠parts ns n:=λz=>c3 (Kk S.gd hm c z)
   rw[if_neg c3,C4.oth _ λj z=>?_]
   · exact if_neg ne
   · have:=congrArg Qg z
     rw[kE,qA,pl] at this;exact ne (by rw[z,abM (by lia)])
end
inductive Lf where
 | fresh (r:Int) | held (r f:Int) | out (r s:Int) | named (r:Int) (n:Str) (p:Int)
 deriving DecidableEq
def Lf.rights:Lf->Int
 | .fresh r=>r | .held r _=>r | .out r _=>r | .named r _ _=>r
def Lf.HI (q:Int): Lf->Lf
 | .fresh _=>.fresh q | .held _ f=>.held q f | .out _ s=>.out q s | .named _ n p=>.named q n p
def Lf.cls (a:Adr): Lf->Addr
 | .fresh _=>a.dG
 | .held _ _=>a.dN
 | .out _ _=>a.fL
 | .named _ _ _=>a.dH
def Lf.fs:Lf->List (Str×V)
 | .fresh r=>[("rights",.int r)] | .held r f=>[("rights",.int r),("frame",.int f)] | .out r s=>[("rights",.int r),("slot",.int s)] | .named r n p=>[("rights",.int r),("name",.str n),("part",.int p)]
def Lf.kind:Lf->Nat
 | .fresh _=>0 | .held _ _=>1 | .out _ _=>2 | .named _ _ _=>3
def iC (a:Adr)(H:Hp)(x:Addr)(f:Lf): Prop:=∃dx,H x=some (.ins (f.cls a) dx f.fs)
def iC.same {a:Adr}{H H':Hp}{x:Addr}{f:Lf}(h:iC a H x f)(s:Zy H H'): iC a H' x f:=by let⟨dx,e⟩:=h;exact ⟨dx,s _ _ e⟩
def OkR (r:Int): Prop:=0<=r/\r<=3
instance (r:Int): Decidable (OkR r):=by unfold OkR;infer_instance
def Ol (a:Adr): Sp:=λvs H Q E=>∃r:Int,vs=[.int r]/\(OkR r->Q .non H)/\(¬OkR r->E (.ref a.eO) none H)
def UK:Sp:=λvs H Q _=>∃(r:Int) (d:Str),vs=[.int r,.str d]/\OkR r/\((d = "read" ∧ Q (.bl (decide (r%2=1))) H)\/(d = "write" ∧ Q (.bl (decide (2<=r))) H))
def ku (a:Adr)(K:qv): Sp:=λvs H Q E=>∃(p dx C:Addr) (r:Int),vs=[.ref p,.int r]/\H p=some (.ins C dx [])/\Zw K C/\bK K C "rights" ∧
 (OkR r->Q .non (upd H p (.ins C dx [("rights",.int r)])))/\(¬OkR r->E (.ref a.eO) none H)
def HJ (K:qv): Sp:=λvs H Q _=>∃(p dx C:Addr) (fs:zw) (r:Int) (d:Str),vs=[.ref p,.str d]/\H p=some (.ins C dx fs)/\Zw K C/\bK K C "rights" ∧ fs.lookup ("rights" : Str)=some (.int r)/\OkR r/\((d = "read" ∧ Q (.bl (decide (r%2=1))) H)\/(d = "write" ∧ Q (.bl (decide (2<=r))) H))
def UL {r:Int}(h:OkR r): (!decide (V.int (abK r 1)=V.int 0))=decide (r%2=1):=by
 have:r=0\/r=1\/r=2\/r=3:=by have:=h.1;have:=h.2;lia
 rcases this with rfl | rfl | rfl | rfl<;>exfalso
def UM {r:Int}(h:OkR r): (!decide (V.int (abK r 2)=V.int 0))=decide (2<=r):=by
 have:r=0\/r=1\/r=2\/r=3:=by have:=h.1;have:=h.2;lia
 rcases this with rfl | rfl | rfl | rfl<;>exfalso
def Jp (a:Adr): Sp:=λvs H Q E=>∃(p dx:Addr) (r f:Int),vs=[.ref p,.int r,.int f]/\H p=some (.ins a.dN dx []) ∧
 (OkR r->Q .non (upd H p (.ins a.dN dx (Lf.held r f).fs)))/\(¬OkR r->E (.ref a.eO) none H)
def LU (a:Adr): Sp:=λvs H Q E=>∃(p dx:Addr) (r f:Int),vs=[.ref p,.int r,.int f]/\H p=some (.ins a.fL dx []) ∧
 (OkR r->Q .non (upd H p (.ins a.fL dx (Lf.out r f).fs)))/\(¬OkR r->E (.ref a.eO) none H)
def HK (a:Adr): Sp:=λvs H Q E=>∃(p dx:Addr) (r f:Int) (n:Str),vs=[.ref p,.int r,.str n,.int f]/\H p=some (.ins a.dH dx []) ∧
 (OkR r->Q .non (upd H p (.ins a.dH dx (Lf.named r n f).fs)))/\(¬OkR r->E (.ref a.eO) none H)
def pA (a:Adr)(n:Nat): Sp:=λvs H Q E=>∃(x:Addr) (g:Lf) (q:Int),vs=[.ref x,.int q]/\iC a H x g/\g.kind=n ∧
 (OkR q->∀y H',iC a H' y (g.HI q)->Zy H H'->H y=none->Q (.ref y) H')/\(¬OkR q->∀H',Zy H H'->E (.ref a.eO) none H')
section
variable [Gn]{a:Adr}{Zz:zu}
abbrev kS (a:Adr): Prop:=ZY P w K mg base 1 "check_rights" ["rights"] (Ol a) []
def Ah (T:Zq a): kS a:=by
 exists T.Bn,["rights"];rintro⟨r,rfl,k1,k2⟩;left;refine⟨_,(af (cG (jh (i9 jR jR ai (pv 0) ai)) (af (pxr (ao aD))) bb)),?_⟩;symm;refine dI (λc0=>?_) (λc0=>?_)
 · symm
   exact eT (λc1=>⟨cO,k2 λz=>c1 z.2⟩) λc1=>k1 ⟨c0,c1⟩
 · symm
   exact k2 λz=>c0 z.1
abbrev Jq (a:Adr): Prop:=ZY P w K mg base 1 "lets" ["rights","deed"] (UK) []
def RF (T:Zq a): Jq a:=by
 exists T.UE,["rights","deed"];rintro⟨r,d,rfl,hr0,k⟩;left;refine⟨_,(af (bq (ce Mw (dL AY (pv 0) (K7 (by rfl) T.dj T.jk (pv 1) (λ_ _=>rfl))) ai))),?_⟩;let⟨t1,n1⟩:=T.n8;let⟨t2,n2⟩:=T.mY;rcases k with ⟨rfl,q⟩ | ⟨rfl,q⟩
 · refine⟨_,rfl,_,rfl,_,.int 1,_,rfl,n1,⟨_,rfl⟩,?_⟩
   symm;rw[<-UL hr0] at q;exact q
 · refine⟨_,rfl,_,rfl,_,.int 2,_,rfl,n2,⟨_,rfl⟩,?_⟩
   symm;rw[<-UM hr0] at q;exact q
def pB {f:Addr} {oc:Value} {od:zo} {dV kV doc pm:Value} {an:zo} {cdv ct:Value} {osl:zy} (lk:K.lookup f=some ⟨oc,od,.func (QF "__init__" "Leaf.__init__" (fW (cS 22 0)) (dO (cS 22 0)) (cQ (cS 22 0)) dV kV doc pm an cdv ct),osl⟩) (hcd:QG K cdv "Leaf.__init__" = true) (T:Zq a)
   (gw:kS a) :
   lw P w K mg base (CXE P w) 2 f (QF "__init__" "Leaf.__init__" (fW (cS 22 0)) (dO (cS 22 0)) (cQ (cS 22 0)) dV kV doc pm an cdv ct) ["self","rights"] (ku a K):=by
 refine yB lk hcd xR (by walk_at "l0") λA outer s H vs Q E hr=>?_;rintro⟨p,dx,C,r,rfl,hp,t1,t2,k1,k2⟩;left;refine⟨_,(ae (aF (pf gw (ao (pv 1))))
     (af (fR (pv 0) (pv 1) rfl))),?_⟩
 symm;refine⟨λok=>?_,λbad=>k2 bad⟩;symm;exact k1 ok
def nP {f:Addr} {oc:Value} {od:zo} {dV kV doc pm:Value} {an:zo} {cdv ct:Value} {osl:zy} (lk:K.lookup f=some ⟨oc,od,.func (QF "may" "Leaf.may" (fW (cS 22 1)) (dO (cS 22 1)) (cQ (cS 22 1)) dV kV doc pm an cdv ct),osl⟩) (hcd:QG K cdv "Leaf.may" = true) (T:Zq a)
   (pW:Jq a) :
   lw P w K mg base (CXE P w) 2 f (QF "may" "Leaf.may" (fW (cS 22 1)) (dO (cS 22 1)) (cQ (cS 22 1)) dV kV doc pm an cdv ct) ["self","deed"] (HJ K):=by
 refine yB lk hcd G4 (by walk_at "l0") λA outer s H vs Q E hr=>?_;rintro⟨p,dx,C,fs,r,d,rfl,hp,t1,t2,hl,h0,k⟩;left;refine⟨_,(af (bq (pf pW (aq (fl (pv 0)) (ao (pv 1)))))),?_⟩;symm;rcases k with ⟨rfl,q⟩ | ⟨rfl,q⟩
 · exact .inl ⟨rfl,q⟩
 · exact .inr ⟨rfl,q⟩
abbrev iS (a:Adr): Prop:=jw P w K mg base a.dN 3 ["self","rights","frame"] (Jp a) []
def yh (T:Zq a) (gk:GL P w K mg base a.lD 2 "__init__" ["self","rights"] (ku a K) []):iS a:=by
 exists T.y7,["self","rights","frame"];rintro⟨p,dx,r,f,rfl,hp,k1,k2⟩;left;refine⟨_,(ae (aF (Nf (by rfl) T.eU gk hr.m iJ (aq (pv 0) (ao (pv 1)))))
     (af (fR (pv 0) (pv 2) rfl))),?_⟩
 symm;refine⟨λok=>?_,λbad=>k2 bad⟩;symm;rw[jg (by exfalso),iK,nJ];exact k1 ok
abbrev m8 (a:Adr): Prop:=jw P w K mg base a.fL 3 ["self","rights","slot"] (LU a) []
def Ai (T:Zq a) (gk:GL P w K mg base a.lD 2 "__init__" ["self","rights"] (ku a K) []):m8 a:=by
 exists T.Bp,["self","rights","slot"];rintro⟨p,dx,r,f,rfl,hp,k1,k2⟩;left;refine⟨_,(ae (aF (Nf (by rfl) T.eU gk hr.m iJ (aq (pv 0) (ao (pv 1)))))
     (af (fR (pv 0) (pv 2) rfl))),?_⟩
 symm;refine⟨λok=>?_,λbad=>k2 bad⟩;symm;rw[jg (by exfalso),iK,nJ];exact k1 ok
abbrev lF (a:Adr): Prop:=jw P w K mg base a.dH 3 ["self","rights","name","part"] (HK a) []
def wB (T:Zq a) (gk:GL P w K mg base a.lD 2 "__init__" ["self","rights"] (ku a K) []):lF a:=by
 exists T.xX,["self","rights","name","part"];rintro⟨p,dx,r,f,n,rfl,hp,k1,k2⟩;left;refine⟨_,(ae (aF (Nf (by rfl) T.eU gk hr.m iJ (aq (pv 0) (ao (pv 1)))))
     (ae (fR (pv 0) (pv 2) rfl)
     (af (fR (pv 0) (pv 3) rfl)))),?_⟩
 symm;refine⟨λok=>?_,λbad=>k2 bad⟩;symm;rw[jg (by exfalso),iK,jg (by exfalso),jg (by exfalso),iK,nJ,nJ];exact k1 ok
abbrev rV (a:Adr): Prop:=cR P w K mg base a.dG 4 "righted" ["self","rights"] (pA a 0) []
def yi (T:Zq a) (gm:jw P w K mg base a.dG 2 ["self","rights"] (ku a K) []):rV a:=by
 exists T.y6,["self","rights"];rintro⟨x,g,q,rfl,S,hk,k1,k2⟩;left;refine⟨_,(af (bq (pk gm (ao (pv 1))))),?_⟩;cases g with
 | fresh r =>
   let⟨dx,hx⟩:=S;have hx:H x=some (.ins a.dG dx _):=hx;unfold Lf.fs at hx;symm;intro y dy hy hdy ny;have hy':upd H dy (.own y) y=none:=by rw[ak ny.symm];exact hy
   have sm:Zy H (upd (upd H dy (.own y)) y (.ins a.dG dy [])):=(cT hdy).trans (cT hy');have e1:upd (upd H dy (.own y)) y (.ins a.dG dy []) y=some (.ins a.dG dy []):=ah;symm;refine⟨λok=>⟨rfl,?_⟩,λbad=>k2 bad _ sm⟩;refine k1 ok y _ ⟨dy,ah⟩ ?_ hy;rw[nJ];exact(cT hdy).trans (cT hy')
 | held _ _=>cases hk
 | out _ _=>cases hk
 | named _ _ _=>cases hk
abbrev sS (a:Adr): Prop:=cR P w K mg base a.dN 5 "righted" ["self","rights"] (pA a 1) []
def Aj (T:Zq a)(eP:iS a): sS a:=by
 exists T.Bo,["self","rights"];rintro⟨x,g,q,rfl,S,hk,k1,k2⟩;left;refine⟨_,(af (bq (pk eP (aq (pv 1) (ao (fl (pv 0))))))),?_⟩;cases g with
 | fresh _=>cases hk
 | held r f =>
   let⟨dx,hx⟩:=S;have hx:H x=some (.ins a.dN dx _):=hx;unfold Lf.fs at hx;symm;intro y dy hy hdy ny;have hy':upd H dy (.own y) y=none:=by rw[ak ny.symm];exact hy
   have sm:Zy H (upd (upd H dy (.own y)) y (.ins a.dN dy [])):=(cT hdy).trans (cT hy');have e1:upd (upd H dy (.own y)) y (.ins a.dN dy []) y=some (.ins a.dN dy []):=ah;symm;refine⟨λok=>⟨rfl,?_⟩,λbad=>k2 bad _ sm⟩;refine k1 ok y _ ⟨dy,ah⟩ ?_ hy;rw[nJ];exact(cT hdy).trans (cT hy')
 | out _ _=>cases hk
 | named _ _ _=>cases hk
abbrev uw (a:Adr): Prop:=cR P w K mg base a.fL 5 "righted" ["self","rights"] (pA a 2) []
def BQ (T:Zq a)(jd:m8 a): uw a:=by
 exists T.C0,["self","rights"];rintro⟨x,g,q,rfl,S,hk,k1,k2⟩;left;refine⟨_,(af (bq (pk jd (aq (pv 1) (ao (fl (pv 0))))))),?_⟩;cases g with
 | fresh _=>cases hk
 | held _ _=>cases hk
 | out r f =>
   let⟨dx,hx⟩:=S;have hx:H x=some (.ins a.fL dx _):=hx;unfold Lf.fs at hx;symm;intro y dy hy hdy ny;have hy':upd H dy (.own y) y=none:=by rw[ak ny.symm];exact hy
   have sm:Zy H (upd (upd H dy (.own y)) y (.ins a.fL dy [])):=(cT hdy).trans (cT hy');have e1:upd (upd H dy (.own y)) y (.ins a.fL dy []) y=some (.ins a.fL dy []):=ah;symm;refine⟨λok=>⟨rfl,?_⟩,λbad=>k2 bad _ sm⟩;refine k1 ok y _ ⟨dy,ah⟩ ?_ hy;rw[nJ];exact(cT hdy).trans (cT hy')
 | named _ _ _=>cases hk
abbrev rW (a:Adr): Prop:=cR P w K mg base a.dH 5 "righted" ["self","rights"] (pA a 3) []
def yj (T:Zq a)(iD:lF a): rW a:=by
 exists T.y9,["self","rights"];rintro⟨x,g,q,rfl,S,hk,k1,k2⟩;left;refine⟨_,(af (bq (pk iD (aq (pv 1) (aq (fl (pv 0)) (ao (fl (pv 0)))))))),?_⟩;cases g with
 | fresh _=>cases hk
 | held _ _=>cases hk
 | out _ _=>cases hk
 | named r n f =>
   let⟨dx,hx⟩:=S;have hx:H x=some (.ins a.dH dx _):=hx;unfold Lf.fs at hx;symm;intro y dy hy hdy ny;have hy':upd H dy (.own y) y=none:=by rw[ak ny.symm];exact hy
   have sm:Zy H (upd (upd H dy (.own y)) y (.ins a.dH dy [])):=(cT hdy).trans (cT hy');have e1:upd (upd H dy (.own y)) y (.ins a.dH dy []) y=some (.ins a.dH dy []):=ah;symm;refine⟨λok=>⟨rfl,?_⟩,λbad=>k2 bad _ sm⟩;refine k1 ok y _ ⟨dy,ah⟩ ?_ hy;rw[nJ];exact(cT hdy).trans (cT hy')
end
def mG (t ad de:V): List (Str×V):=[("task",t),("address",ad),("deed",de)]
def wC (K:qv): Sp:=λvs H Q _=>∃(e C:Addr) (t ad de:V),vs=[.ref e,t,ad,de]/\H e=some (exM e (.ref C) none)/\XO K C/\sf K C "task" ∧ sf K C "address" ∧ sf K C "deed" ∧
 ∀d H',H d=none->d≠e->H' e=some (exM e (.ref C) (some d))->H' d=some (xdW d (mG t ad de))->(∀b,b≠e->b≠d->H' b=H b)->Q .non H'
def HL (K:qv): Sp:=λvs H Q _=>∃(e C:Addr) (pg:V),vs=[.ref e,pg]/\H e=some (exM e (.ref C) none)/\XO K C/\sf K C "page" ∧
 ∀d H',H d=none->d≠e->H' e=some (exM e (.ref C) (some d))->H' d=some (xdW d [("page",pg)])->(∀b,b≠e->b≠d->H' b=H b)->Q .non H'
section
variable [Gn]{a:Adr}{Zz:zu}
def wD {f:Addr} {oc:Value} {od:zo} {dV kV doc pm:Value} {an:zo} {cdv ct:Value} {osl:zy} (lk:K.lookup f=some ⟨oc,od,.func (QF "__init__" "Taken.__init__" (fW (cS 14 0)) (dO (cS 14 0)) (cQ (cS 14 0)) dV kV doc pm an cdv ct),osl⟩) (hcd:QG K cdv "Taken.__init__" = true) (T:Zq a) :
   lw P w K mg base (CXE P w) 1 f (QF "__init__" "Taken.__init__" (fW (cS 14 0)) (dO (cS 14 0)) (cQ (cS 14 0)) dV kV doc pm an cdv ct) ["self","page"] (HL K):=by
 refine yB lk hcd vZ (by walk_at "l0") λA outer s H vs Q E hr=>?_;rintro⟨e,C,pg,rfl,he,xo,x1,k⟩;left;refine⟨_,(ae (aF (GX T.wd (by rfl) T.bJ (aq (pv 0) (ao (pv 1)))))
     (af (GV (pv 0) (pv 1) rfl))),?_⟩
 have zr:[pg].length<=sizeLine:=by rw[sizeLine_eq];show 1<=_;decide
 symm;intro d hd ne;have hd0:H d=none:=by rw[ak ne] at hd;exact hd
 exact k d _ hd0 ne ah (by rw[ak ne,ah]) λb n1 n2=>by rw[ak n1,ak n2,ak n1]
def nQ {f:Addr} {oc:Value} {od:zo} {dV kV doc pm:Value} {an:zo} {cdv ct:Value} {osl:zy} (lk:K.lookup f=some ⟨oc,od,.func (QF "__init__" "Fault.__init__" (fW (cS 15 0)) (dO (cS 15 0)) (cQ (cS 15 0)) dV kV doc pm an cdv ct),osl⟩) (hcd:QG K cdv "Fault.__init__" = true) (T:Zq a) :
   lw P w K mg base (CXE P w) 1 f (QF "__init__" "Fault.__init__" (fW (cS 15 0)) (dO (cS 15 0)) (cQ (cS 15 0)) dV kV doc pm an cdv ct) ["self","task","address","deed"] (wC K):=by
 refine yB lk hcd v7 (by walk_at "l0") λA outer s H vs Q E hr=>?_;rintro⟨e,C,t,ad,de,rfl,he,xo,x1,x2,x3,k⟩;left;refine⟨_,(ae (aF (GX T.wd (by rfl) T.bJ (aq (pv 0) (aq (pv 1) (aq (pv 2) (ao (pv 3)))))))
     (ae (GV (pv 0) (pv 1) rfl)
     (ae (GW (pv 0) (pv 2) rfl)
     (af (GW (pv 0) (pv 3) rfl))))),?_⟩
 have zr:[t,ad,de].length<=sizeLine:=by rw[sizeLine_eq];show 3<=_;decide
 symm;intro d hd ne;have hd0:H d=none:=by rw[ak ne] at hd;exact hd
 generalize hh:upd _ e _=H1;have a1:H1 e=some (exM e (.ref C) (some d)):=by rw[<-hh];exact ah
 have a2:H1 d=some (xdW d [("task",t)]):=by rw[<-hh,ak ne,ah]
 have a3:∀b,b≠e->b≠d->H1 b=H b:=λb n1 n2=>by rw[<-hh,ak n1,ak n2,ak n1]
 clear hh;have z1:[(("task" : Str),t)].length < 1000:=by show 1 < 1000;decide
 symm;refine k d _ hd0 ne ah ?_ λb n1 n2=>by rw[ak n1,ak n2,ak n1,ak n2];exact a3 b n1 n2
 have e1:jT "address" ad ([]:zw)=([("address",ad)]:zw):=rfl;rw[ak ne,ah,jg (by exfalso),jg (by exfalso),e1,jg (by exfalso)];rfl
end
structure Kt (O:Lab)(H H':Hp): Prop where
 lb:∀b u,O b≠none->H b=some u->H' b=some u
 ins:∀b C dx fs,H b=some (.ins C dx fs)->H' b=some (.ins C dx fs)
 tup:∀b xs,H b=some (.tup xs)->H' b=some (.tup xs)
section
variable {a:Adr}{O:Lab}{H H':Hp}{i:Pt}{p l d q b y:Addr}{u u':HO}{n:Nat}{z:Int}
def Kt.upd (hq:v0 O H q=some u)(nu:∀C d fs,u≠.ins C d fs)(nt:∀xs,u≠.tup xs): Kt O H (upd H q u'):=by
 let⟨h,o⟩:=fQ hq;exact⟨λb u n e=>by rw[ak λz=>n (by rw[z];exact o)];exact e,λb C d fs e=>by rw[ak λz=>nu C d fs (by rw[z,h] at e;exact qI e)];exact e,λb xs e=>by rw[ak λz=>nt xs (by rw[z,h] at e;exact qI e)];exact e⟩
def Kt.lv (k:Kt O H H')(L:Lv O H): Lv O H':=λb n=>by let⟨u,e⟩:=L b n;exact ⟨u,k.lb b u n e⟩
def Kt.i0 {C dx:Addr}{fs:zw}(k:Kt O H H')(e:v0 O H b=some (.ins C dx fs)): v0 O H' b=some (.ins C dx fs):=gG (k.ins _ _ _ _ (fQ e).1) (fQ e).2
def Kt.t0 {xs:zu}(k:Kt O H H')(e:v0 O H b=some (.tup xs)): v0 O H' b=some (.tup xs):=gG (k.tup _ _ (fQ e).1) (fQ e).2
def Kt.sh {ns:zm}{low:Int}(k:Kt O H H')(S:u_ a.eK (v0 O H) b ns low): u_ a.eK (v0 O H') b ns low:=by let⟨dz,tz,z1,z2⟩:=S;exact ⟨dz,tz,k.i0 z1,k.t0 z2⟩
def Go.upn {P:zP}{O':Lab}(g:Go P O H O' H')(h:H b=none): Go P O H O' (L2.upd H' b u):=⟨λc n=>by let⟨_,e⟩:=g.lv c n;exact px e b,λc v e n=>by let⟨e1,e2⟩:=g.st c v e n;exact ⟨by rw[ak (aj e h)];exact e1,e2⟩,λc v e=>by let⟨_,q⟩:=g.al c v e;exact px q b⟩
def TrX.kt {ns L:zm}{low:Int}{nd:zB}(S:TrX a O H i p ns low L nd)(k:Kt O H H'): TrX a O H' i p ns low L nd :=
 { S with lv:=k.lv S.lv,ob:=by let⟨dx,sh,top,h1,h2,h3⟩:=S.ob;exact ⟨dx,sh,top,k.i0 h1,k.sh h2,h3⟩,tr:=⟨λπ d l e=>by
   let⟨o,T⟩:=S.tr.tb π d l e;let⟨z_,ks,q1,q⟩:=id T;exact⟨o,T.to ((k.lb d _ (by rw[o];exact nofun) q1).trans q1.symm) λ_=>rfl⟩,S.tr.inj,S.tr.up,S.tr.lg⟩ }
end
abbrev Mf:=Int->Option Lf
def Mf.put (M:Mf)(n:Int)(v:Option Lf): Mf:=λm=>if m=n then v else M m
def Mf.Jr {M:Mf}{n:Int}{v:Option Lf}: M.put n v n=v:=if_pos rfl
def Mf.Js {M:Mf}{n m:Int}{v:Option Lf}(h:m≠n): M.put n v m=M m:=if_neg h
abbrev zU:=List Lf
def Mf.lay (M:Mf)(n:Int)(gs:zU): Mf:=λm=>if n<=m/\m < n+gs.length then gs[(m-n).toNat]? else M m
def Mf.gone (M:Mf)(n k:Int): Mf:=λm=>if n<=m/\m < n+k then none else M m
def pX {n m:Int}{k i:Nat}(h:(lA n k)[i]?=some m): m=n+i/\i < k:=by
 unfold lA at h;rw[qx,qP] at h;let⟨j,hj,rfl⟩:=h;have:=qg.mp hj;let⟨h1,h2⟩:=this;rw[List.getElem_range] at h2;rw[Qf] at h1;exact⟨by rw[h2],h1⟩
def kT (n:Int)(k:Nat): (lA n k).length=k:=by unfold lA;rw[qa,Qf]
structure Lvs (a:Adr)(H:Hp)(xs:zj)(gs:zU): Prop where
 len:xs.length=gs.length
 at':∀(i:Nat) x g,xs[i]?=some x->gs[i]?=some g->iC a H x g
def Lvs.same {a:Adr}{H H':Hp}{xs:zj}{gs:zU}(r:Lvs a H xs gs)(s:Zy H H'): Lvs a H' xs gs:=⟨r.len,λi x g h1 h2=>(r.at' i x g h1 h2).same s⟩
def Lvs.snoc {a:Adr}{H:Hp}{x:Addr}{xs:zj}{gs:zU}{g:Lf}(r:Lvs a H xs gs)(hx:iC a H x g): Lvs a H (xs++[x]) (gs++[g]):=by
 refine⟨by rw[qd,qd,r.len];rfl,λi t' g' h1 h2=>?_⟩;by_cases c:i < xs.length
 · rw[qR c] at h1
   rw[qR (by rw[<-r.len];exact c)] at h2;exact r.at' i t' g' h1 h2
 · have il:=(qg.mp h1).1
   rw[qd] at il;have ei:i=xs.length:=by simp at il;lia
   rw[ei,qF (qe _),QK] at h1;rw[ei,r.len,qF (qe _),QK] at h2;cases h1;cases h2;exact hx
abbrev InN (ns L:zm)(n:Int)(g:Lf): Prop:=InP ns n/\n∈L/\OkR g.rights
structure SpM (a:Adr)(O:Lab)(H:Hp)(i:Pt)(y:Addr)(ns:zm)(low t:Int)(L:zm)(M:Mf): Prop where
 o:∃dy sh tr nd,v0 O H y=some (.ins a.eR dy [("shape",.ref sh),("task",.int t),("tree",.ref tr)])/\u_ a.eK (v0 O H) sh ns low/\TrX a O H i tr ns low L nd/\∀m,InP ns m->(M m=none->nd (parts ns m)=none)/\∀g,M m=some g->∃x,nd (parts ns m)=some x/\iC a (v0 O H) x g
 inn:∀n g,M n=some g->InN ns L n g
structure RwM (a:Adr)(Z:Hp)(M:Mf)(R:Rs): Prop where
 le:R.length < 64
 ri:BP R
 so:∀n x,(n,x)∈R->∃g,M n=some g/\iC a Z x g
 al:∀n g,M n=some g->∃x,(n,x)∈R
section
variable {a:Adr}{O O':Lab}{H H':Hp}{i:Pt}{y:Addr}{ns L:zm}{low t:Int}{M M':Mf}{P:zP}
def SpM.oth (S:SpM a O H i y ns low t L M)(g:Go P O H O' H')(h:¬P i): SpM a O' H' i y ns low t L M :=
 ⟨by let⟨dy,sh,tr,nd,h1,h2,h3,h4⟩:=S.o;exact ⟨dy,sh,tr,nd,g.v0 _ _ h1,h2.same g.v0,h3.oth g h,λm hm=>⟨(h4 m hm).1,λg' e=>by let⟨x,q1,q2⟩:=(h4 m hm).2 g' e;exact ⟨x,q1,q2.same g.v0⟩⟩⟩,S.inn⟩
def SpM.kt (S:SpM a O H i y ns low t L M)(k:Kt O H H'): SpM a O H' i y ns low t L M :=
 ⟨by let⟨dy,sh,tr,nd,h1,h2,h3,h4⟩:=S.o;exact ⟨dy,sh,tr,nd,k.i0 h1,k.sh h2,h3.kt k,λm hm=>⟨(h4 m hm).1,λg' e=>by let⟨x,q1,d,q2⟩:=(h4 m hm).2 g' e;exact ⟨x,q1,d,k.i0 q2⟩⟩⟩,S.inn⟩
def SpM.lv (S:SpM a O H i y ns low t L M): Lv O H:=by let⟨_,_,_,_,_,_,h,_⟩:=S.o;exact h.lv
def SpM.gd (S:SpM a O H i y ns low t L M): Good ns low:=by let⟨_,_,_,_,_,_,h,_⟩:=S.o;exact h.gd
def SpM.same (S:SpM a O H i y ns low t L M)(s:Zy H H'): SpM a O H' i y ns low t L M:=S.oth (P:=λ_=>False) (.same S.lv s) id
def SpM.vb (S:SpM a O H i y ns low t L M)(h:∀n,M' n=M n): SpM a O H i y ns low t L M':=by rw[show M'=M from funext h];exact S
def SpM.sy (S:SpM a O H i y ns low t L M): ∃dy sh tr,H y=some (.ins a.eR dy [("shape",.ref sh),("task",.int t),("tree",.ref tr)])/\ShG a H sh ns low/\∃dx fs,H sh=some (.ins a.eK dx fs)/\fs.lookup ("stretch" : Str)=none/\fs.lookup ("page_of" : Str)=none/\fs.lookup ("place_of" : Str)=none :=
 by let⟨dy,sh,tr,_,h1,h2,h3,_⟩:=S.o;exact ⟨dy,sh,tr,v0H _ _ h1,⟨h2.same v0H,h3.gd⟩,by let⟨dx,t,e,_⟩:=h2.same v0H;exact ⟨dx,_,e,by walk_at "lk",by walk_at "lk",by walk_at "lk"⟩⟩
def SpM.new (T:∃dy sh tr nd,v0 O H y=some (.ins a.eR dy [("shape",.ref sh),("task",.int t),("tree",.ref tr)])/\u_ a.eK (v0 O H) sh ns low/\TrX a O H i tr ns low L nd/\∀m,nd (parts ns m)=none):SpM a O H i y ns low t L λ_=>none :=
 ⟨by let⟨dy,sh,tr,nd,h1,h2,h3,h4⟩:=T;exact ⟨dy,sh,tr,nd,h1,h2,h3,λm _=>⟨λ_=>h4 m,λ_ z=>(nomatch z)⟩⟩,λ_ _ z=>(nomatch z)⟩
end
def Om (a:Adr): Sp:=λvs H Q _=>∃O i y ns low t L M n,vs=[.ref y,.int n]/\SpM a O H i y ns low t L M/\InP ns n/\(M n=none->∀H',Zy H H'->Q .non H')/\∀g x,M n=some g->iC a (v0 O H) x g->∀H',Zy H H'->Q (.ref x) H'
def RG (a:Adr): Sp:=λvs H Q _=>∃O i y ns low t L M n x g,vs=[.ref y,.int n,.ref x]/\SpM a O H i y ns low t L M/\iC a (v0 O H) x g/\InN ns L n g/\∀O' H',SpM a O' H' i y ns low t L (M.put n (some g))->Go1 i O H O' H'->Q .non H'
def Oo (a:Adr): Sp:=λvs H Q _=>∃O i y ns low t L M,vs=[.ref y]/\SpM a O H i y ns low t L M/\∀l ts R H',RAt (v0 O H') l ts R->RwM a (v0 O H) M R->Zy H H'->Q (.ref l) H'
def Oq (a:Adr): Sp:=λvs H Q _=>∃O p sh dx ns low t L,vs=[.ref p,.ref sh,.int t]/\Lv O H/\O p=none/\H p=some (.ins a.eR dx [])/\u_ a.eK (v0 O H) sh ns low/\Good ns low/\L.length < 64 ∧
 ∀H',(∀i,∃O',SpM a O' H' i p ns low t L (λ_=>none)/\∀b u,H b=some u->b≠p->H' b=some u/\O' b=O b)->Q .non H'
def Ak (r:Int)(dd:Str): Bool:=if dd = "read" then decide (r%2=1) else decide (2<=r)
abbrev Flt (H:Hp)(E:XK)(C:Addr)(fs:zw): Prop:=∀d H',H' d=some (xdW d fs)->Zy H H'->E (.ref C) (some d) H'
def UN (a:Adr): Sp:=λvs H Q E=>∃O i y ns low t L M A dd,vs=[.ref y,.int A,.str dd]/\SpM a O H i y ns low t L M/\(dd = "read" ∨ dd = "write")/\(¬InA ns low A->E (.ref a.d7) none H) ∧
 (InA ns low A->M (A / plc low)=none->Flt H E a.cP (mG (.int t) (.int A) (.str dd)))/\(InA ns low A->∀g,M (A / plc low)=some g->Ak g.rights dd=false->Flt H E a.fK (mG (.int t) (.int A) (.str dd))) ∧
 (InA ns low A->∀g,M (A / plc low)=some g->Ak g.rights dd=true->∀u x H',v0 O H' u=some (.tup [.int (A / plc low),.int (A%plc low),.ref x])->iC a (v0 O H) x g->Zy H H'->Q (.ref u) H')
abbrev Hole (M:Mf)(n:Int)(k j:Nat): Prop:=j < k/\(∀i:Nat,i < j->(M (n+i)).isSome=true)/\M (n+j)=none
abbrev Jt (M:Mf)(n:Int)(k:Nat): Prop:=∀i:Nat,i < k->(M (n+i)).isSome=true
def UO (a:Adr): Sp:=λvs H Q E=>∃O i y ns low t L M q n k dd,vs=[.ref y,.ref q,.str dd]/\SpM a O H i y ns low t L M/\v0 O H q=some (.lst ((lA n k).map V.int))/\(0<=n/\n+(k:Nat)<=pgs ns) ∧
 (∀j,Hole M n k j->Flt H E a.cP (mG (.int t) (.int ((n+j)*plc low)) (.str dd)))/\(Jt M n k->∀H',Zy H H'->Q .non H')
def RH (a:Adr): Sp:=λvs H Q E=>∃O i y ns low t L M n l xs gs,vs=[.ref y,.int n,.ref l]/\SpM a O H i y ns low t L M/\v0 O H l=some (.lst (xs.map V.ref))/\Lvs a (v0 O H) xs gs/\fO ns n xs.length/\(∀j:Nat,j < xs.length->n+j∈L)/\(∀g∈gs,OkR g.rights) ∧
 (∀j:Nat,j < xs.length->(∀i:Nat,i < j->M (n+i)=none)->(M (n+j)).isSome=true->Flt H E a.gA [("page",.int (n+j))])/\((∀j:Nat,j < xs.length->M (n+j)=none)->∀O' H',SpM a O' H' i y ns low t L (M.lay n gs)->Go1 i O H O' H'->Q .non H')
def UP (a:Adr): Sp:=λvs H Q E=>∃O i y ns low t L M n m,vs=[.ref y,.int n,.int m]/\SpM a O H i y ns low t L M/\(¬fO ns n m->E (.ref a.eI) none H)/\(fO ns n m->∀j,Hole M n m.toNat j->Flt H E a.cP (mG (.int t) (.int ((n+j)*plc low)) (.str "unmap"))) ∧
 (fO ns n m->Jt M n m.toNat->∀l (xs:zj) H',SpM a O H' i y ns low t L (M.gone n m)->v0 O H' l=some (.lst (xs.map V.ref))->(xs.length:Int)=m->(∀(j:Nat) z g,xs[j]?=some z->M (n+j)=some g->iC a (v0 O H') z g)->Go1 i O H O H'->Q (.ref l) H')
def Mf.chg (M:Mf)(n k r:Int): Mf:=λm=>if n<=m/\m < n+k then (M m).map (Lf.HI r) else M m
def Ot (a:Adr): Sp:=λvs H Q E=>∃O i y ns low t L M n m r,vs=[.ref y,.int n,.int m,.int r]/\SpM a O H i y ns low t L M/\(¬fO ns n m->E (.ref a.eI) none H)/\(fO ns n m->¬OkR r->∀H',Zy H H'->E (.ref a.eO) none H')/\(fO ns n m->OkR r->∀j,Hole M n m.toNat j->Flt H E a.cP (mG (.int t) (.int ((n+j)*plc low)) (.str "rights"))) ∧
 (fO ns n m->OkR r->Jt M n m.toNat->∀O' H',SpM a O' H' i y ns low t L (M.chg n m r)->Go1 i O H O' H'->Q .non H')
def Ou (a:Adr): Sp:=λvs H Q _=>∃O i y ns low t L M n i',vs=[.ref y,.int n]/\SpM a O H i y ns low t L M/\i≠i'/\∀y' O' H',SpM a O' H' i' y' ns low n L M->Go1 i' O H O' H'->Q (.ref y') H'
def Yu {P:Program}{w:World}{K:qv}{mg:zf}{base:Heap}{a:Adr}{k:Nat}{m:Str}{ps:zq}{sp:Sp}(g:Lf)(h1:cR P w K mg base a.dG k m ps sp [])(h2:cR P w K mg base a.dN k m ps sp [])(h3:cR P w K mg base a.fL k m ps sp [])(h4:cR P w K mg base a.dH k m ps sp []): cR P w K mg base (g.cls a) k m ps sp []:=by cases g<;>assumption
def En {g:Lf}: g.fs.lookup ("rights" : Str)=some (.int g.rights):=by cases g<;>rfl
def UQ {g:Lf}: g.fs.lookup ("may" : Str)=none:=by cases g<;>(unfold Lf.fs;walk_at "lk")
def BR {ns:zm}{low A:Int}(c:InA ns low A): InP ns (A / plc low)/\0<=A%plc low/\A%plc low < plc low:=by
 have pl0:0 < plc low:=two_pos _;exact⟨⟨Int.ediv_nonneg c.1 (abr pl0),adI pl0 c.2⟩,aco A (adt pl0),Int.emod_lt_of_pos A pl0⟩
section
variable [Gn]{a:Adr}{Zz:zu}
def Ju (T:Zq a)(g:Lf): Zw K (g.cls a)/\bK K (g.cls a) "rights" := by
 cases g
 · exact⟨T.cU,T.aC⟩
 · exact⟨T.dY,T.aL⟩
 · exact⟨T.fh,T.bf⟩
 · exact⟨T.cZ,T.aE⟩
abbrev kU (a:Adr): Prop:=cR P w K mg base a.eR 6 "leaf" ["self","page"] (Om a) []
def Di (T:Zq a)(sT:yI a): kU a:=by
 exists T.Fl,["self","page"];rintro⟨O,i,y,ns,low,t,L,M,n,rfl,S,c,k1,k2⟩;left;refine⟨_,(af (bq (pm (fl (pv 0)) sT (ao (pv 1))))),?_⟩;let⟨dy,sh,tr,nd,h1,h2,h3,h4⟩:=S.o;have h1:=v0H _ _ h1;let⟨dt,s2,top,t1,_⟩:=h3.ob;have t1:=v0H _ _ t1;ext;cases e:M n with
 | none =>
   rw[(h4 n c).1 e];exact k1 e
 | some g =>
   let⟨x,q1,q2⟩:=(h4 n c).2 g e;rw[q1];exact k2 g x e q2
abbrev lV (a:Adr): Prop:=cR P w K mg base a.eR 6 "put" ["self","page","leaf"] (RG a) []
def FU (T:Zq a)(ve:BO a): lV a:=by
 exists T.Hr,["self","page","leaf"];rintro⟨O,i,y,ns,low,t,L,M,n,x,g,rfl,S,lf,inn,k⟩;left;refine⟨_,(af (aF (pm (fl (pv 0)) ve (aq (pv 1) (ao (pv 2)))))),?_⟩;let⟨dy,sh,tr,nd,h1,h2,h3,h4⟩:=S.o;have h1':=v0H _ _ h1;let⟨dt,s2,top,t1,_⟩:=h3.ob;have t1:=v0H _ _ t1;have c:=inn.1;have nL:=inn.2.1;ext;intro nd' O' H' X pt g';refine k O' H' ⟨⟨dy,sh,tr,nd',g'.v0 _ _ h1,h2.same g'.v0,X,λm hm=>?_⟩,λm g2 e=>?_⟩ g'
 · rw[pt m hm]
   by_cases z:m=n
   · rw[z,if_pos rfl,Mf.Jr]
     exact⟨λw=>(nomatch w),λg3 w=>by cases w;exact⟨x,rfl,lf.same g'.v0⟩⟩
   · rw[if_neg z,Mf.Js z]
     exact⟨(h4 m hm).1,λg3 w=>by let⟨x,q1,q2⟩:=(h4 m hm).2 g3 w;exact ⟨x,q1,q2.same g'.v0⟩⟩
 · by_cases z:m=n
   · rw[z,Mf.Jr] at e;cases e;rw[z];exact inn
   · rw[Mf.Js z] at e;exact S.inn m g2 e
abbrev mH (a:Adr): Prop:=cR P w K mg base a.eR 3 "rows" ["self"] (Oo a) []
def Dj (T:Zq a)(sU:yJ a): mH a:=by
 exists T.Fn,["self"];rintro⟨O,i,y,ns,low,t,L,M,rfl,S,k⟩;left;refine⟨_,(af (bq (pm0 (fl (pv 0)) sU))),?_⟩;let⟨dy,sh,tr,nd,h1,h2,h3,h4⟩:=S.o;have h1':=v0H _ _ h1;let⟨dt,s2,top,t1,_⟩:=h3.ob;have t1:=v0H _ _ t1;ext;intro l ts R H' A r s';refine k l ts R H' A ⟨r.le,r.ri,λn x h=>?_,λn g e=>?_⟩ s'
 · let⟨c,q⟩:=(r.me n x).mp h
   cases e:M n with
   | none=>rw[(h4 n c).1 e] at q;cases q
   | some g=>let⟨x',q1,q2⟩:=(h4 n c).2 g e;rw[q] at q1;cases q1;exact⟨g,rfl,q2⟩
 · have c:=(S.inn n g e).1
   let⟨x,q1,_⟩:=(h4 n c).2 g e;exact⟨x,(r.me n x).mpr ⟨c,q1⟩⟩
abbrev lG (a:Adr): Prop:=jw P w K mg base a.eR 3 ["self","shape","task"] (Oq a) []
def wF (T:Zq a)(mh:rT a): lG a:=by
 exists T.x0,["self","shape","task"];rintro⟨O,p,sh,dx,ns,low,t,L,rfl,lv,op,hp,S,g,l64,k⟩;left;refine⟨_,(ae (fR (pv 0) (pv 1) rfl)
     (ae (fR (pv 0) (pv 2) rfl)
     (af (fR (pv 0) (pk mh (ao (pv 1))) rfl)))),?_⟩
 ext;rw[iK,jg (by exfalso),iK];generalize hh:upd _ p (HO.ins _ _ [(_,V.ref sh),(_,V.int t)])=H1;have hp1:H1 p=some (.ins a.eR dx [("shape",.ref sh),("task",.int t)]):=by rw[<-hh];exact ah
 have kp1:∀b,b≠p->H1 b=H b:=λb nb=>by rw[<-hh,ak nb,ak nb]
 clear hh;have al:∀b u,H b=some u->∃v,H1 b=some v:=λb u e=>by
   by_cases c:b=p
   · rw[c];exact⟨_,hp1⟩
   · exact⟨u,(kp1 b c).trans e⟩
 have z1:∀{b u},v0 O H b=some u->u≠.ins a.eR dx []->v0 O H1 b=some u/\b≠p:=λ{b u} e n=>by
   let⟨q1,q2⟩:=fQ e;have nb:b≠p:=λz=>n (by rw[z,hp] at q1;cases q1;rfl);exact⟨gG ((kp1 b nb).trans q1) q2,nb⟩
 let⟨dxs,ts,w1,w2⟩:=S;let⟨x1,n1⟩:=z1 w1 λz=>by injection z with _ _ z;cases z
 let⟨x2,n2⟩:=z1 w2 nofun
 have lv1:Lv O H1:=λb n=>(by let⟨u,e⟩:=lv b n;exact al b u e);refine λy dy hy hdy nyd=>?_;generalize hh:upd _ y (HO.ins _ dy [])=H2;have s2:Zy H1 H2:=λb u e=>by rw[<-hh,ak (aj e hy),ak (aj e hdy)];exact e
 have e2:H2 y=some (.ins a.hJ dy []):=by rw[<-hh];exact ah
 clear hh;have hp2:=s2 _ _ hp1;have npy:p≠y:=aj hp1 hy;have S2:u_ a.eK (v0 O H2) sh ns low:=⟨dxs,ts,v0S s2 _ _ x1,v0S s2 _ _ x2⟩;have lv2:=lv1.same s2;have oy:=lv1.no hy;ext;intro H3 F;have e3:H3 p=_:=(by let⟨_,_,_,_,kp,_⟩:=F none;exact (kp p _ hp2 npy).1);have z2:([("shape",.ref sh),("task",.int t)]:zw).length < 1000:=by show 2 < 1000;decide
 ext;rw[jg (by exfalso),jg (by exfalso),iK];generalize hh:upd H3 p _=H4;have e4:H4 p=some (.ins a.eR dx [("shape",.ref sh),("task",.int t),("tree",.ref y)]):=by rw[<-hh];exact ah
 have kp4:∀b,b≠p->H4 b=H3 b:=λb nb=>by rw[<-hh,ak nb]
 clear hh;refine k H4 λi=>?_;let⟨O3,nd,X,nn,kp,op3⟩:=F i;have lv3:=X.lv;have o3:O3 p=none:=(kp p _ hp2 npy).2.trans op;have z4:∀{b u},v0 O3 H3 b=some u->b≠p->v0 O3 H4 b=some u:=λe n=>gG ((kp4 _ n).trans (fQ e).1) (fQ e).2;have sh3:∀{b u},v0 O H2 b=some u->b≠p->b≠y->v0 O3 H4 b=some u:=λ{b u} e n n'=>by
   let⟨q1,q2⟩:=kp b u (fQ e).1 n';exact z4 (gG q1 (q2.trans (fQ e).2)) n
 have lv4:Lv O3 H4:=λb n=>by
   by_cases c:b=p
   · rw[c];exact⟨_,e4⟩
   · rw[kp4 b c];exact lv3 b n
 have ny:∀{b u},H1 b=some u->b≠y:=λe=>aj e hy;refine⟨O3,.new ⟨dx,sh,y,nd,gG e4 o3,⟨dxs,ts,sh3 (v0S s2 _ _ x1) n1 (ny (fQ x1).1),sh3 (v0S s2 _ _ x2) n2 (ny (fQ x2).1)⟩,⟨lv4,g,?_,⟨λπ d l h=>?_,X.tr.inj,X.tr.up,X.tr.lg⟩,X.fu,X.cv,l64⟩,nn⟩,λb u e nb=>?_⟩
 · let⟨dz,s',top,q1,⟨dv,tv,q2,q3⟩,q4⟩:=X.ob
   have np:∀{b u},v0 O3 H3 b=some u->u≠.ins a.eR dx [("shape",.ref sh),("task",.int t)]->b≠p:=λq n z=>n (by rw[z] at q;have:=(fQ q).1;rw[e3] at this;cases this;rfl);exact⟨dz,s',top,z4 q1 (qX npy),⟨dv,tv,z4 q2 (np q2 λz=>by injection z with _ _ z;cases z),z4 q3 (np q3 nofun)⟩,q4⟩
 · let⟨o,Td⟩:=X.tr.tb π d l h
   exact⟨o,Td.to (kp4 d λz=>by rw[z,o3] at o;cases o) λ_=>rfl⟩
 · let⟨q1,q2⟩:=kp b u (s2 _ _ ((kp1 b nb).trans e)) (ny ((kp1 b nb).trans e))
   exact⟨(kp4 b nb).trans q1,q2⟩
end
def pY {K:qv}{l acc:Addr}{xs:zu}{k:Nat}{te:TE}{σ:St}{H1:Hp}{QH:Hp->Prop}(I:zK)(hn:xs.length < sizeLine)(h0:I 0 [] (upd H1 acc (.lst [])))
   (sm:∀i ys H2,I i ys H2->H2 acc=some (.lst ys)/\Zx K H2 l xs/\ys.length=i)
   (he:∀(i:Nat) (x:V) (ys:zu) (H2:Hp),xs[i]?=some x->I i ys H2->∀R:VK,(∀v H6,H6 acc=some (.lst ys)->I (i+1) (ys++[v]) (upd H6 acc (.lst (ys++[v])))->R v H6)->te (some x::σ) H2 R)
   (q:∀ys H2,I xs.length ys H2->QH H2) (hk:k=1:=by rfl):∃(W:zK) (n':Nat),W 0 [] (upd H1 acc (.lst [])) ∧
 ∀i ys H2,W i ys H2->H2 acc=some (.lst ys)/\ys.length < sizeLine/\((i=n'/\(Itl K l).stop i H2/\QH H2)\/(i < n'/\(Itl K l).go i H2/\∀x H3,(Itl K l).yld i H2 x H3->∀τ:St,τ.length=k->(yz 0) x (τ++σ) H3 λτ2 H4 =>
   (∃τ':St,τ'.length=k/\τ2=τ'++σ)/\GI τ2 H4 λb H5=>if b=true then te τ2 H5 λv H6=>H6 acc=some (.lst ys)/\W (i+1) (ys++[v]) (upd H6 acc (.lst (ys++[v]))) else W (i+1) ys H5)):=by
 subst hk;refine⟨λi ys H2=>i<=xs.length/\I i ys H2,xs.length,⟨qV _,h0⟩,?_⟩;rintro i ys H2 ⟨hi,hI⟩;let⟨m1,m2,m3⟩:=sm i ys H2 hI;refine⟨m1,by lia,?_⟩;by_cases hlt:i < xs.length
 · refine .inr ⟨hlt,⟨xs,xs[i],m2,by simp[hlt]⟩,?_⟩
   rintro x H3 ⟨rfl,hx⟩ τ hτ;have hx:=hx xs m2;let⟨t,rfl⟩:=abe.mp hτ;refine⟨⟨[some x],rfl,rfl⟩,?_⟩;unfold GI;simp only [if_true];exact he i x ys _ hx hI _ λv H6 e1 e2=>⟨e1,hlt,e2⟩
 · have e:i=xs.length:=by lia
   subst e;exact .inl ⟨rfl,⟨xs,m2,qe _⟩,q ys H2 hI⟩
def HM {lo:Int}{n k:Nat}{acc:Addr}{te:TE}{σ:St}{H1:Hp}{QH:Hp->Prop}(I:zK)(hn:n < sizeLine)(h0:I 0 [] (upd H1 acc (.lst [])))
   (sm:∀i ys H2,I i ys H2->H2 acc=some (.lst ys)/\ys.length=i)
   (he:∀(i:Nat) (ys:zu) (H2:Hp),i < n->I i ys H2->∀R:VK,(∀v H6,H6 acc=some (.lst ys)->I (i+1) (ys++[v]) (upd H6 acc (.lst (ys++[v])))->R v H6)->te (some (.int (lo+i))::σ) H2 R)
   (q:∀ys H2,I n ys H2->QH H2) (hk:k=1:=by rfl):∃(W:zK) (n':Nat),W 0 [] (upd H1 acc (.lst [])) ∧
 ∀i ys H2,W i ys H2->H2 acc=some (.lst ys)/\ys.length < sizeLine/\((i=n'/\(Itr lo n).stop i H2/\QH H2)\/(i < n'/\(Itr lo n).go i H2/\∀x H3,(Itr lo n).yld i H2 x H3->∀τ:St,τ.length=k->(yz 0) x (τ++σ) H3 λτ2 H4 =>
   (∃τ':St,τ'.length=k/\τ2=τ'++σ)/\GI τ2 H4 λb H5=>if b=true then te τ2 H5 λv H6=>H6 acc=some (.lst ys)/\W (i+1) (ys++[v]) (upd H6 acc (.lst (ys++[v]))) else W (i+1) ys H5)):=by
 subst hk;refine⟨λi ys H2=>i<=n/\I i ys H2,n,⟨qV _,h0⟩,?_⟩;rintro i ys H2 ⟨hi,hI⟩;let⟨m1,m3⟩:=sm i ys H2 hI;refine⟨m1,by lia,?_⟩;by_cases hlt:i < n
 · refine .inr ⟨hlt,hlt,?_⟩
   rintro x H3 ⟨rfl,hx⟩ τ hτ;subst hx;let⟨t,rfl⟩:=abe.mp hτ;refine⟨⟨[some (.int (lo+i))],rfl,rfl⟩,?_⟩;unfold GI;simp only [if_true];exact he i ys _ hlt hI _ λv H6 e1 e2=>⟨e1,hlt,e2⟩
 · have e:i=n:=by lia
   subst e;exact .inl ⟨rfl,qe _,q ys H2 hI⟩
def Ov {r:Int}{b:Bool}(h:decide (r%2=1)=b): Ak r "read" = b:=(if_pos rfl).trans h
def Ow {r:Int}{b:Bool}(h:decide (2<=r)=b): Ak r "write" = b:=(if_neg (by exfalso)).trans h
def wG {H H2:Hp}{e d:Addr}{o:HO}(he:H e=none)(hd:upd H e o d=none)(k:∀b,b≠e->b≠d->H2 b=upd H e o b): Zy H (del H2 e):=λb u q=>by
 have n1:b≠e:=aj q he;have n2:b≠d:=λz=>by rw[<-z,ak n1,q] at hd;cases hd
 rw[mX n1,k b n1 n2,ak n1];exact q
section
variable [Gn]{a:Adr}{Zz:zu}
abbrev pZ (a:Adr): Prop:=cR P w K mg base a.eR 7 "seek" ["self","address","deed"] (UN a) []
def Dk (T:Zq a) (iT:lZ a) (gF:kU a) (gU:El P w K mg base a.cP 1 ["self","task","address","deed"] (wC K) []) (sV:cR P w K mg base a.dG 2 "may" ["self","deed"] (HJ K) []) (vf:cR P w K mg base a.dN 2 "may" ["self","deed"] (HJ K) []) (yk:cR P w K mg base a.fL 2 "may" ["self","deed"] (HJ K) []) (sW:cR P w K mg base a.dH 2 "may" ["self","deed"] (HJ K) []) (kW:El P w K mg base a.fK 1 ["self","task","address","deed"] (wC K) []) (gp:jF a):pZ a:=by
 exists T.Fp,["self","address","deed","page","leaf"];rintro⟨O,i,y,ns,low,t,L,M,A',dd,rfl,S,hdd,k0,k1,k2,k3⟩;left;refine⟨_,(ae (dM 3 nD (pm (fl (pv 0)) iT (ao (pv 1))))
     (ae (dM 4 nD (pm (pv 0) gF (ao (pv 3))))
     (ae (cG (ct A0 (pv 4) jS) (af (tV gU hr.m rfl (by rfl) T.cq iJ (aq (fl (pv 0)) (aq (pv 1) (ao (pv 2)))))) bb)
     (ae (cG (jh (g9 (Ng (k:=2) (m := "may") (Zz:=[]) (pv 4) hr.m iJ (ao (pv 2)) (by rfl) (by rfl) (by rfl)))) (af (tV kW hr.m rfl (by rfl) T.cV iJ (aq (fl (pv 0)) (aq (pv 1) (ao (pv 2)))))) bb)
     (af (bq (fM (aq (pv 3) (aq (pm (fl (pv 0)) gp (ao (pv 1))) (ao (pv 4))))))))))),?_⟩
 let⟨dy,sh,tr,h1,h2,dsh,fsh,h3,_,l1,l2⟩:=S.sy;have zr:[V.int t,V.int A',V.str dd].length<=sizeLine:=by rw[sizeLine_eq];show 3<=_;decide
 ext;refine⟨λc=>?_,k0⟩;let⟨bd,ir⟩:=BR c;ext;refine⟨λe H1 s1=>?_,λg x e lx H1 s1=>?_⟩
 · have h11:=s1 _ _ h1
   have xo:=XO.of T.sK;have x1:=T.pj;have x2:=T.mz;have x3:=T.ph;ext;refine λe' he=>⟨e',a.cP,.int t,.int A',.str dd,rfl,ah,xo,x1,x2,x3,λd H2 hd ne q1 q2 q3=>⟨rfl,some d,q1,?_⟩⟩;exact k1 c e d (del H2 e') (by rw[mX ne];exact q2) (s1.trans (wG he hd q3))
 have ok:=(S.inn _ g e).2.2;have hm:=Yu g sV vf yk sW;let⟨c1,c2⟩:=Ju T g;have h11:=s1 _ _ h1;have h12:ShG a H1 sh ns low:=⟨h2.1.same s1,h2.2⟩;have h13:=s1 _ _ h3;let⟨dg,hg⟩:=(lx.same v0H).same s1;have m1:=UQ (g:=g);have m2:=En (g:=g);ext;cases hb:Ak g.rights dd with
 | false =>
   have xo:=XO.of T.Em;have x1:=T.Bj;have x2:=T.wa;have x3:=T.Bi;rcases hdd with rfl | rfl
   all_goals
     first | (refine .inl ⟨rfl,?_⟩;rw[show decide (g.rights%2=1)=_ from (Ov rfl).symm.trans hb]) | (refine .inr ⟨rfl,?_⟩;rw[show decide (2<=g.rights)=_ from (Ow rfl).symm.trans hb])
     ext;refine λe' he=>⟨e',a.fK,.int t,.int A',.str _,rfl,ah,xo,x1,x2,x3,λd H2 hd ne q1 q2 q3=>⟨rfl,some d,q1,?_⟩⟩;exact k2 c g e hb d (del H2 e') (by rw[mX ne];exact q2) (s1.trans (wG he hd q3))
 | true =>
   rcases hdd with rfl | rfl
   all_goals
     first | (refine .inl ⟨rfl,?_⟩;rw[show decide (g.rights%2=1)=_ from (Ov rfl).symm.trans hb]) | (refine .inr ⟨rfl,?_⟩;rw[show decide (2<=g.rights)=_ from (Ow rfl).symm.trans hb])
     ext;refine⟨λ_=>?_,λz=>absurd c z⟩;ext;intro tt htt;generalize hh:upd _ tt _=H2;let⟨s2,e2⟩:=eQ htt hh;clear hh;exact k3 c g e hb tt x H2 (gG e2 (S.lv.no (s1.free htt))) lx (s1.trans s2)
abbrev jD (a:Adr): Prop:=cR P w K mg base a.eR 7 "check_mapped" ["self","pages","deed"] (UO a) []
def si (T:Zq a) (gF:kU a) (gU:El P w K mg base a.cP 1 ["self","task","address","deed"] (wC K) []) (hU:km a):jD a:=by
 exists T.sM,["self","pages","deed","page"];rintro⟨O,i,y,ns,low,t,L,M,q,n,kk,dd,rfl,S,hq,bd,k1,k2⟩;left;refine⟨_,(af (fo (gP (pv 1)) (gn 3 nD)
     (af (cG (ct A0 (pm (pv 0) gF (ao (pv 3))) jS) (af (tV gU hr.m rfl (by rfl) T.cq iJ (aq (fl (pv 0)) (aq (pm (fl (pv 0)) hU (aq (pv 3) (ao ai))) (ao (pv 2)))))) bb)))),?_⟩
 have hq0:=v0H _ _ hq;have gd:=S.gd;have pl:=gd.sz.2;ext
 let Iv1:L2.Lv:=λj σ H'=>Bx ((∃v,σ=[some (.ref y),some (.ref q),some (.str dd),v])/\Jt M n j/\Zy H H')
 refine iq (xs:=(lA n kk).map V.int) Iv1 ⟨⟨⟨_,rfl⟩,λi z=>absurd z (adE _),.refl _⟩⟩ (λj σ H' _ z=>Zx.of (z.o.2.2 _ _ hq0)) ?_ ?_
 · rintro j v σ H1 hj ⟨⟨v,rfl⟩,al,s1⟩
   let⟨m,rfl,hm⟩:=g_ hj;let⟨rfl,jl⟩:=pX hm;have S1:=S.same s1;let⟨dy,sh,tr,h1,h2,dsh,fsh,h3,_,l1,l2⟩:=S1.sy;have c:InP ns (n+(j:Int)):=⟨by lia,by lia⟩;ext;refine⟨λe H2 s2=>?_,λg' x e' lx H2 s2=>?_⟩
   · have h12:=s2 _ _ h1
     have h22:ShG a H2 sh ns low:=⟨h2.1.same s2,h2.2⟩;have h32:=s2 _ _ h3;have zr:[V.int t,V.int ((n+j)*plc low+0),V.str dd].length<=sizeLine:=by rw[sizeLine_eq];show 3<=_;decide
     have xo:=XO.of T.sK;have x1:=T.pj;have x2:=T.mz;have x3:=T.ph;let⟨aaQ,aaR,l4,_⟩:=id h22.1;ext;refine⟨λ_=>?_,λz=>absurd ⟨c,by decide,pl.1⟩ z⟩;ext;refine λe' he=>⟨e',a.cP,.int t,.int ((n+j)*plc low+0),.str dd,rfl,ah,xo,x1,x2,x3,λd H3 hd ne q1 q2 q3=>⟨rfl,some d,q1,?_⟩⟩;rw[adu] at q2;exact k1 j ⟨jl,al,e⟩ d (del H3 e') (by rw[mX ne];exact q2) ((s1.trans s2).trans (wG he hd q3))
   · ext
     refine⟨⟨⟨_,rfl⟩,λi z=>?_,s1.trans s2⟩⟩;by_cases c:i=j
     · rw[c,e'];rfl
     · exact al i (by lia)
 · rintro σ H1 ⟨⟨v,rfl⟩,al,s1⟩
   rw[qa,kT] at al;ext;exact k2 al H1 s1
abbrev sX (a:Adr): Prop:=cR P w K mg base a.eR 7 "lay" ["self","first","leaves"] (RH a) []
def FV (T:Zq a) (dR:ig a) (gF:kU a) (lH:El P w K mg base a.gA 1 ["self","page"] (HL K) []) (gZ:lV a):sX a:=by
 exists T.Ht,["self","first","leaves","pages","page","leaf"];rintro⟨O,i,y,ns,low,t,L,M,n,l,xs,gs,rfl,S,hl,lvs,st,inL,ok,k1,k2⟩;left;refine⟨_,(ae (dM 3 nD (pm (fl (pv 0)) dR (aq (pv 1) (ao (ln (ao (pv 2)))))))
     (ae (fo (gP (pv 3)) (gn 4 nD)
     (af (cG (ct vK (pm (pv 0) gF (ao (pv 4))) jS) (af (tV lH hr.m rfl (by rfl) T.dS iJ (ao (pv 4)))) bb)))
     (af (fo (Kd (by rfl) T.fZ (pv 3) (pv 2)) (kK (n:=2) rfl (eV (gn 4 nD) (eV (gn 5 nD) jv)))
     (af (aF (pm (pv 0) gZ (aq (pv 4) (ao (pv 5)))))))))),?_⟩
 let⟨dy,sh,tr,h1,h2,dsh,fsh,h3,l1,_⟩:=S.sy;have hl0:=v0H _ _ hl;have xl:(xs.map V.ref).length=xs.length:=qa ..;have gl:=lvs.len;ext;rw[xl];refine⟨λ_ q H1 s1 e1 hq=>?_,λz=>absurd st z⟩;rw[Qk] at e1;have st2:=st.2;have q1:v0 O H1 q=some (.lst ((lA n xs.length).map V.int)):=gG e1 (S.lv.no hq);ext
 let Iv1:L2.Lv:=λj σ H'=>Bx ((∃v4 v5,σ=[some (.ref y),some (.int n),some (.ref l),some (.ref q),v4,v5])/\(∀i:Nat,i < j->M (n+i)=none)/\Zy H1 H')
 refine iq (xs:=(lA n xs.length).map V.int) Iv1 ⟨⟨⟨_,_,rfl⟩,λi z=>absurd z (adE _),.refl _⟩⟩ (λj σ H' _ z=>Zx.of (z.o.2.2 _ _ e1)) ?_ ?_
 · rintro j x σ H2 hx ⟨⟨v4,v5,rfl⟩,fr,s2⟩
   let⟨m,rfl,hm⟩:=g_ hx;let⟨rfl,jl⟩:=pX hm;have S2:=S.same (s1.trans s2);let⟨_,_,_,h12,_⟩:=S2.sy;have c:InP ns (n+(j:Int)):=by unfold InP;lia
   have zr:[V.int (n+(j:Int))].length<=sizeLine:=by rw[sizeLine_eq];show 1<=_;decide
   ext;refine⟨λe H3 s3=>?_,λg x e lx H3 s3=>?_⟩
   · ext
     refine⟨⟨⟨_,_,rfl⟩,λi hi=>?_,s2.trans s3⟩⟩;by_cases z:i=j
     · rw[z];exact e
     · exact fr i (by lia)
   · have xo:=XO.of T.G5
     have x1:=T.CM;ext;refine λe' he=>⟨e',a.gA,.int (n+(j:Int)),rfl,ah,xo,x1,λd H4 hd ne q1 q2 q3=>⟨rfl,some d,q1,?_⟩⟩;exact k1 j jl fr (by rw[e];rfl) d (del H4 e') (by rw[mX ne];exact q2) (((s1.trans s2).trans s3).trans (wG he hd q3))
 · rintro σ H2 ⟨⟨v4,v5,rfl⟩,fr,s2⟩
   rw[qa,kT] at fr;have s02:=s1.trans s2;have q2:=v0S s2 _ _ q1;have hl2:=v0S s02 _ _ hl;have q20:=v0H _ _ q2;have aaS:=v0H _ _ hl2;ext
   let Iv2:L2.Lv:=λj σ H'=>Bx (∃v4 v5 O',σ=[some (.ref y),some (.int n),some (.ref l),some (.ref q),v4,v5]/\SpM a O' H' i y ns low t L (M.lay n (gs.take j))/\Go1 i O H2 O' H')
   refine Nq (xs:=(lA n xs.length).map V.int) (ys:=xs.map V.ref) xs.length (by rw[qa,kT]) xl Iv2 ⟨L2.j3 _ _ O ⟨rfl,(S.same s02).vb λm=>if_neg λz=>?_,.same (S.same s02).lv (.refl _)⟩⟩ (λj σ H' _ z=>?_) ?_ ?_
   · rw[abo] at z
     have z:n<=m/\m < n+((0:Nat):Int):=z;lia
   · let⟨_,_,_,_,_,z⟩:=z.o
     exact⟨Zx.of (fQ (z.v0 _ _ q2)).1,Zx.of (fQ (z.v0 _ _ hl2)).1⟩
   · rintro j x y' σ H3 tu hx hy ⟨v4,v5,O3,rfl,S3,g3⟩ htu
     let⟨m,rfl,hm⟩:=g_ hx;let⟨rfl,jl⟩:=pX hm;rw[qx,qP] at hy;let⟨x,hy,rfl⟩:=hy;obtain⟨gx,eg⟩:∃g,gs[j]?=some g:=⟨_,qi (by lia)⟩;generalize hh:upd H3 tu _=H4;let⟨s4,e4⟩:=eQ htu hh;clear hh;have S4:=S3.same s4;let⟨_,_,_,h14,_⟩:=S4.sy;have lf4:iC a (v0 O3 H4) x gx:=(((lvs.at' j x gx hy eg).same (v0S s02)).same g3.v0).same (v0S s4);have inn:InN ns L (n+j) gx:=⟨by unfold InP;lia,inL j jl,ok gx (qw eg)⟩;ext;intro O5 H5 S5 g5;refine⟨L2.j3 _ _ O5 ⟨rfl,S5.vb λm=>?_,(g3.trans (.same g3.lv s4)).trans g5⟩⟩;unfold Mf.lay Mf.put;dsimp only;rw[qA,qA,acq (by lia),acq (by lia)];by_cases z:m=n+j
     · rw[if_pos z,if_pos (by lia),show (m-n).toNat=j by lia,acK,if_pos (by lia),eg]
     · rw[if_neg z]
       by_cases z2:n<=m/\m < n+j
       · rw[if_pos z2,if_pos (by lia),acK,acK,if_pos (by lia),if_pos (by lia)]
       · rw[if_neg z2,if_neg (by lia)]
   · intro σ H3;refine Bx.el ?_;rintro⟨v4,v5,O3,rfl,S3,g3⟩
     rw[gl,qN] at S3;ext;exact k2 fr O3 H3 S3 ((Go.same S.lv s02).trans g3)
abbrev wH (a:Adr): Prop:=cR P w K mg base a.eR 8 "lift" ["self","first","many"] (UP a) []
def Dl (T:Zq a)(dR:ig a)(gH:jD a)(sY:yK a): wH a:=by
 exists T.Fo,["self","first","many","pages"];rintro⟨O,i,y,ns,low,t,L,M,n,m,rfl,S,k0,k1,k2⟩;left;refine⟨_,(ae (dM 3 nD (pm (fl (pv 0)) dR (aq (pv 1) (ao (pv 2)))))
     (ae (aF (pm (pv 0) gH (aq (pv 3) (ao aD))))
     (af (bq (AJ (xs:=["page"]) (N':=["self","first","many","pages"]) rfl ⟨rfl,by exfalso,by exfalso,by dsimp only [X,lX,Q8];exfalso,by exfalso,by dsimp only [X,lX];exfalso,rfl⟩ (gP (pv 3)) (λ_ _ _ _ _=>(pH (i:=0) (by dsimp only [X,i_];exfalso) rfl (by first | exact acG rfl | exact aci rfl))) (λ_ _ _ _ _=>AI) (λ_ _ _ _ _=>(SK (P0 (K:=K) rfl (pv 1) rfl) T.dZ sY hr.m xL (ao (pv 0))))))))),?_⟩
 let⟨dy,sh,tr,h1,h2,dsh,fsh,h3,l1,_⟩:=S.sy;ext;refine⟨λst q H1 s1 e1 hq=>?_,k0⟩;obtain⟨kk,rfl⟩:∃kk:Nat,m=(kk:Int):=⟨m.toNat,by have:=st.1.1;lia⟩;have st2:=st.2;have st1:=st.1;rw[Qk] at e1 k1 k2;have q1:v0 O H1 q=some (.lst ((lA n kk).map V.int)):=gG e1 (S.lv.no hq);have S1:=S.same s1;have h11:=s1 _ _ h1;have bd:0<=n/\n+(kk:Nat)<=pgs ns:=st2;ext;refine⟨λj hj d H2 hd s2=>k1 st j hj d H2 hd (s1.trans s2),λal H2 s2=>?_⟩;have all':∀j:Nat,j < kk->∃g,M (n+j)=some g:=λj hj=>qZ.mp (al j hj);have s02:=s1.trans s2;have S2:=S.same s02;have q2:=v0S s2 _ _ q1;have q20:=v0H _ _ q2;let⟨_,_,_,h12,_⟩:=S2.sy;ext;intro acc hacc;have a0:O acc=none:=S2.lv.no hacc
 let Iv1:L2.Cv:=λj ys H'=>Bx (∃xs:zj,ys=xs.map V.ref/\xs.length=j/\H' acc=some (.lst ys)/\SpM a O H' i y ns low t L (M.gone n j)/\(∀(l:Nat) z g,xs[l]?=some z->M (n+l)=some g->iC a (v0 O H') z g)/\Go1 i O H2 O H')
 refine pY (xs:=(lA n kk).map V.int) Iv1 (by rw[qa,kT,sizeLine_eq];lia) ⟨[],rfl,rfl,ah,(S2.same (cT hacc)).vb λm=>if_neg (by lia),λ_ _ _ z=>(nomatch z),.same S2.lv (cT hacc)⟩ (λj ys H' z=>?_) (λj x ys H' hx z R r=>?_) (λys H' z=>?_)
 · let⟨xs,rfl,z2,z3,_,_,z4⟩:=z.o
   exact⟨z3,Zx.of (fQ (z4.v0 _ _ q2)).1,by rw[qa];exact z2⟩
 · let⟨xs,rfl,z2,z3,S3,z5,z4⟩:=z.o
   let⟨m,rfl,hm⟩:=g_ hx;let⟨rfl,jl⟩:=pX hm;let⟨g,eg⟩:=all' j jl;have c:=(S.inn _ g eg).1;let⟨dy3,sh3,tr3,nd,p1,p2,X3,p4⟩:=S3.o;have p1':=v0H _ _ p1;let⟨dt,sh2,top,t1,_⟩:=X3.ob;have t1:=v0H _ _ t1;let⟨x,hx',lx⟩:=(p4 _ c).2 g ((if_neg (by lia)).trans eg);ext;intro nd' H4 X4 pt g4;have a4:=g4.v0 _ _ (gG z3 a0);have kt:∀u,Kt O H4 (upd H4 acc u):=λu=>.upd a4 nofun nofun
   have S4:SpM a O H4 i y ns low t L (M.gone n (j+1:Nat)):=⟨⟨dy3,sh3,tr3,nd',g4.v0 _ _ p1,p2.same g4.v0,X4,λm hm=>?_⟩,λm g' e=>S.inn m g' ?_⟩;refine r _ _ (fQ a4).1 ⟨⟨xs++[x],by rw[qu];rfl,by rw[qd,z2];rfl,ah,S4.kt (kt _),λl z g' h1 h2=>?_,(z4.trans g4).upn hacc⟩⟩
   · by_cases c3:l < xs.length
     · rw[qR c3] at h1
       let⟨d,q⟩:=z5 l z g' h1 h2;exact⟨d,(kt _).i0 (g4.v0 _ _ q)⟩
     · have ll:=(qg.mp h1).1
       rw[qd] at ll;have el:l=j:=by simp at ll;lia
       rw[el,qF (by lia),z2,QK] at h1;cases h1;rw[el,eg] at h2;cases h2;let⟨d,q⟩:=lx;exact⟨d,(kt _).i0 (g4.v0 _ _ q)⟩
   · rw[pt m hm]
     by_cases c3:m=n+j
     · rw[if_pos c3]
       exact⟨λ_=>rfl,λg' e=>by unfold Mf.gone at e;rw[if_pos (by lia)] at e;cases e⟩
     · have e1:M.gone n (j+1:Nat) m=M.gone n j m:=by
         unfold Mf.gone;by_cases c4:n<=m/\m < n+j
         · rw[if_pos c4,if_pos (by lia)]
         · rw[if_neg c4,if_neg (by lia)]
       rw[if_neg c3,e1];exact⟨(p4 m hm).1,λg' e=>by let⟨x,q1,q2⟩:=(p4 m hm).2 g' e;exact ⟨x,q1,q2.same g4.v0⟩⟩
   · unfold Mf.gone at e
     split at e
     · cases e
     · exact e
 · let⟨xs,rfl,z2,z3,S3,z5,z4⟩:=z.o
   rw[qa,kT] at z2 S3;exact k2 st al acc xs H' S3 (gG z3 a0) (by lia) z5 ((Go.same S.lv s02).trans z4)
abbrev sZ (a:Adr): Prop:=cR P w K mg base a.eR 8 "change" ["self","first","many","rights"] (Ot a) []
def Am (T:Zq a)(dR:ig a)(gw:kS a)(gH:jD a)(gZ:lV a)(mj:rV a)(m9:sS a)(oh:uw a)(mn:rW a)(gF:kU a): sZ a:=by
 exists T.By,["self","first","many","rights","pages","page"];rintro⟨O,i,y,ns,low,t,L,M,n,m,r,rfl,S,k0,k1,k2,k3⟩;left;refine⟨_,(ae (dM 4 nD (pm (fl (pv 0)) dR (aq (pv 1) (ao (pv 2)))))
     (ae (aF (pf gw (ao (pv 3))))
     (ae (aF (pm (pv 0) gH (aq (pv 4) (ao aD))))
     (af (fo (gP (pv 4)) (gn 5 nD)
     (af (aF (pm (pv 0) gZ (aq (pv 5) (ao (Ng (k:=5) (m := "righted") (Zz:=[]) (pm (pv 0) gF (ao (pv 5))) hr.m iJ (ao (pv 3)) (by rfl) (by rfl) (by rfl)))))))))))),?_⟩
 let⟨dy,sh,tr,h1,h2,dsh,fsh,h3,l1,_⟩:=S.sy;ext;refine⟨λst q H1 s1 e1 hq=>?_,k0⟩;obtain⟨kk,rfl⟩:∃kk:Nat,m=(kk:Int):=⟨m.toNat,by have:=st.1.1;lia⟩;have st2:=st.2;rw[Qk] at e1 k2 k3;have q1:v0 O H1 q=some (.lst ((lA n kk).map V.int)):=gG e1 (S.lv.no hq);have S1:=S.same s1;have h11:=s1 _ _ h1;have bd:0<=n/\n+(kk:Nat)<=pgs ns:=st2;ext;refine⟨λok=>?_,λbad=>k1 st bad H1 s1⟩;ext;refine⟨λj hj d H2 hd s2=>k2 st ok j hj d H2 hd (s1.trans s2),λal H2 s2=>?_⟩;have s02:=s1.trans s2;have S2:=S.same s02;have q2:=v0S s2 _ _ q1;have q20:=v0H _ _ q2;let⟨_,_,_,h12,_⟩:=S2.sy;ext
 let Iv1:L2.Lv:=λj σ H'=>Bx (∃v5 O',σ=[some (.ref y),some (.int n),some (.int kk),some (.int r),some (.ref q),v5]/\SpM a O' H' i y ns low t L (M.chg n j r)/\Go1 i O H2 O' H')
 refine iq (xs:=(lA n kk).map V.int) Iv1 ⟨L2.j2 _ O ⟨rfl,S2.vb λm=>if_neg (by lia),.same S2.lv (.refl _)⟩⟩ (λj σ H' _ z=>?_) ?_ ?_
 · let⟨_,_,_,_,z⟩:=z.o
   exact Zx.of (fQ (z.v0 _ _ q2)).1
 · intro j x σ H3 hx;refine Bx.el ?_;rintro⟨v5,O3,rfl,S3,g3⟩
   let⟨m,rfl,hm⟩:=g_ hx;let⟨rfl,jl⟩:=pX hm;let⟨g,eg⟩:=qZ.mp (al j jl);have eg3:M.chg n j r (n+j)=some g:=(if_neg (by lia)).trans eg;have inn:=S.inn _ g eg;have c:=inn.1;let⟨_,_,_,h13,_⟩:=S3.sy;ext;refine⟨λz=>(by rw[eg3] at z;cases z),λg' x e' lx H4 s4=>?_⟩;rw[eg3] at e';cases e';have lx4:=(lx.same v0H).same s4;have S4:=S3.same s4;have h14:=s4 _ _ h13;let⟨dl,hl⟩:=id lx4;let⟨c1,c2⟩:=Ju T g;have f4:g.fs.lookup ("righted" : Str)=none:=by cases g<;>(unfold Lf.fs;walk_at "lk")
   have f3:cR P w K mg base (g.cls a) 5 "righted" ["self","rights"] (pA a g.kind) []:=by
     cases g with
     | fresh r=>exact mj.mono (by decide)
     | held r f=>exact m9.mono (by decide)
     | out r f=>exact oh.mono (by decide)
     | named r n f=>exact mn.mono (by decide)
   ext;refine⟨λ_ y' H5 ly5 s5 hy5=>?_,λbad=>absurd ok bad⟩;have S5:=S4.same s5;have h15:=s5 _ _ h14;have ly:iC a (v0 O3 H5) y' (g.HI r):=(by let⟨d,e⟩:=ly5;exact ⟨d,gG e ((S3.lv.same s4).no hy5)⟩);have aaT:InN ns L (n+j) (g.HI r):=⟨c,inn.2.1,by cases g<;>exact ok⟩;ext;intro O6 H6 S6 g6;refine⟨L2.j2 _ O6 ⟨rfl,S6.vb λm=>?_,((g3.trans (.same g3.lv s4)).trans (.same (g3.lv.same s4) s5)).trans g6⟩⟩;unfold Mf.chg Mf.put;dsimp only;by_cases z:m=n+j
   · rw[if_pos z,if_pos (by lia),z,eg];rfl
   · rw[if_neg z]
     by_cases z2:n<=m/\m < n+j
     · rw[if_pos z2,if_pos (by lia)]
     · rw[if_neg z2,if_neg (by lia)]
 · intro σ H3;refine Bx.el ?_;rintro⟨v5,O3,rfl,S3,g3⟩
   rw[qa,kT] at S3;ext;exact k3 st ok al O3 H3 S3 ((Go.same S.lv s02).trans g3)
abbrev wI (a:Adr): Prop:=cR P w K mg base a.eR 7 "like" ["self","task"] (Ou a) []
def Dm (T:Zq a)(iE:lG a)(iw:mH a)(gZ:lV a): wI a:=by
 exists T.Fq,["self","task","other","page","leaf"];rintro⟨O,i,y,ns,low,t,L,M,n,i',rfl,S,ne,k⟩;left;refine⟨_,(ae (dM 2 nD (pk iE (aq (fl (pv 0)) (ao (pv 1)))))
     (ae (fo (gP (pm0 (pv 0) iw)) (kK (n:=2) rfl (eV (gn 3 nD) (eV (gn 4 nD) jv)))
     (af (aF (pm (pv 2) gZ (aq (pv 3) (ao (pv 4)))))))
     (af (bq (pv 2))))),?_⟩
 let⟨dy,sh,tr,nd,h1,h2,h3,h4⟩:=S.o;have h1':=v0H _ _ h1;have g:=S.gd;have l64:=h3.l64;ext;refine λy' dy' hy hdy ney=>?_;generalize hh:upd _ y' (HO.ins _ dy' [])=H1;have s1:Zy H H1:=λb u e=>by rw[<-hh,ak (aj e hy),ak (aj e hdy)];exact e
 have e1:H1 y'=some (.ins a.eR dy' []):=by rw[<-hh];exact ah
 clear hh;have lv1:=S.lv.same s1;have oy:=S.lv.no hy;have S1:=h2.same (v0S s1);ext;intro H2 F;let⟨O2,Y2,kp⟩:=F i';have g2:Go1 i' O H O2 H2:=⟨Y2.lv,λb u e _=>kp b u (s1 _ _ e) (aj e hy),λb u e=>⟨u,(kp b u (s1 _ _ e) (aj e hy)).1⟩⟩;have S2:=S.oth g2 ne;let⟨_,_,_,h12,_⟩:=S2.sy;ext;intro q us R H3 RA rw s3;have r64:=rw.le;have rl:=v0H _ _ RA.l;ext
 let Iv1:L2.Lv:=λj σ H'=>Bx (∃v3 v4 O',σ=[some (.ref y),some (.int n),some (.ref y'),v3,v4]/\SpM a O' H' i' y' ns low n L (λm=>if m∈(R.take j).map (·.1) then M m else none)/\Go1 i' O2 H3 O' H')
 refine iq (xs:=us.map V.ref) Iv1 ⟨L2.j3 _ _ O2 ⟨rfl,(Y2.same s3).vb λm=>by simp,.same (Y2.same s3).lv (.refl _)⟩⟩ (λj σ H' _ z=>?_) ?_ ?_
 · let⟨_,_,_,_,_,z⟩:=z.o
   exact Zx.of (fQ (z.v0 _ _ RA.l)).1
 · intro j x σ H4 hi;refine Bx.el ?_;rintro⟨v3,v4,O4,rfl,S4,g4⟩
   rw[qx,qP] at hi;let⟨u,hu,rfl⟩:=hi;have jl:j < R.length:=by rw[<-RA.n];exact(qg.mp hu).1
   have er:R[j]?=some R[j]:=qi jl;generalize R[j]=r at er;let⟨m,x⟩:=r;have hu4:=(fQ (g4.v0 _ _ (RA.t j u _ hu er))).1;let⟨gx,eg,lx⟩:=rw.so m x (qw er);have lx4:=(lx.same (v0S s3)).same g4.v0;have inn:=S.inn m gx eg;let⟨_,_,_,h14,_⟩:=S4.sy;ext;intro O5 H5 S5 g5;refine⟨L2.j3 _ _ O5 ⟨rfl,S5.vb λm'=>?_,g4.trans g5⟩⟩;rw[qQ,er,qu];unfold Mf.put;by_cases c:m'=m
   · rw[if_pos c,if_pos (by simp[c]),c,eg]
   · rw[if_neg c];simp[c]
 · intro σ H4;refine Bx.el ?_;rintro⟨v3,v4,O4,rfl,S4,g4⟩
   rw[qa,RA.n,qN] at S4;ext;refine k y' O4 H4 (S4.vb λm=>?_) ((g2.trans (.same g2.lv s3)).trans g4);cases e:M m with
   | none=>rw[ite_self]
   | some gx =>
     let⟨x,hx⟩:=rw.al m gx e;rw[if_pos (Qa.mpr ⟨_,hx,rfl⟩)]
end
abbrev ShM:=Str->Option (List Lf×Int)
def setM (m:ShM)(n:Str)(v:Option (List Lf×Int)): ShM:=λk=>if k=n then v else m k
def AU {l:Addr}{u u':Int}: jT "uses" (.int u') ([("leaves",.ref l),("uses",.int u)]:zw)=([("leaves",.ref l),("uses",.int u')]:zw):=by
 rw[jg (by exfalso),V8]
structure ShO (a:Adr)(O:Lab)(H:Hp)(k:Nat)(s:Str)(x dx l:Addr)(ys:zj)(gs:zU)(u:Int): Prop where
 ox:O x=some (pt k (.so s))
 hx:H x=some (.ins a.gJ dx [("leaves",.ref l),("uses",.int u)])
 ol:O l=some (pt k (.lo s))
 hl:H l=some (.lst (ys.map V.ref))
 lv:Lvs a (v0 O H) ys gs
def SP (k:Nat): Pt->Prop:=λi=>i=pt k .ss\/∃s,i=pt k (.so s)\/i=pt k (.lo s)
def S1P (k:Nat)(s:Str): Pt->Prop:=λi=>i=pt k (.so s)\/i=pt k (.lo s)
structure SsM (a:Adr)(O:Lab)(H:Hp)(k:Nat)(p kd:Addr)(Ln:zq)(S:ShM): Prop where
 lv:Lv O H
 ob:∃dx,v0 O H p=some (.ins a.eW dx [("kept",.ref kd)])
 od:O kd=some (pt k .ss)
 o:∃z_,∃(ks:zq) (A:Str->Option Addr),H kd=some (.dK z_)/\z_.map (·.1)=ks.map QJ/\ks.Nodup/\(∀s,fE z_ (.inr s)=(A s).map V.ref)/\∀s,(S s=none->A s=none)/\∀gs u,S s=some (gs,u)->∃x dx l ys,A s=some x/\ShO a O H k s x dx l ys gs u
 le:∀s gs u,S s=some (gs,u)->gs.length<=64/\s∈Ln/\∀g∈gs,OkR g.rights/\g.kind≠3
 ln:Ln.length < 64
section
variable {a:Adr}{O O':Lab}{H H':Hp}{k:Nat}{p kd x dx l:Addr}{Ln:zq}{S:ShM}{P:zP}{s:Str}{ys:zj}{gs:zU}{u:Int}
def ShO.oth (h:ShO a O H k s x dx l ys gs u)(g:Go P O H O' H')(n:∀i,SP k i->¬P i): ShO a O' H' k s x dx l ys gs u :=
 let ⟨e1,e2⟩:=g.kp h.ox (n _ (.inr ⟨s,.inl rfl⟩)) h.hx
 let ⟨f1,f2⟩:=g.kp h.ol (n _ (.inr ⟨s,.inr rfl⟩)) h.hl
 ⟨e2,e1,f2,f1,h.lv.same g.v0⟩
def SsM.oth (M:SsM a O H k p kd Ln S)(g:Go P O H O' H')(n:∀i,SP k i->¬P i): SsM a O' H' k p kd Ln S:=by
 let⟨z_,ks,A,h1,h2,h3,h5,h6⟩:=M.o;let⟨e1,e2⟩:=g.kp M.od (n _ (.inl rfl)) h1;exact⟨g.lv,M.ob.imp λ_ e=>g.v0 _ _ e,e2,⟨z_,ks,A,e1,h2,h3,h5,λs=>⟨(h6 s).1,λgs u e=>by let⟨x,dx,l,ys,q1,q2⟩:=(h6 s).2 gs u e;exact ⟨x,dx,l,ys,q1,q2.oth g n⟩⟩⟩,M.le,M.ln⟩
def SsM.same (M:SsM a O H k p kd Ln S)(s:Zy H H'): SsM a O H' k p kd Ln S:=M.oth (P:=λ_=>False) (.same M.lv s) λ_ _=>id
def SsM.get (M:SsM a O H k p kd Ln S)(e:S s=some (gs,u)): ∃z_ x dx l ys,H kd=some (.dK z_)/\fE z_ (.inr s)=some (.ref x)/\ShO a O H k s x dx l ys gs u/\∀O' H' dx' l' ys' gs' u',Go (S1P k s) O H O' H'->ShO a O' H' k s x dx' l' ys' gs' u'->(gs'.length<=64/\s∈Ln/\∀g∈gs',OkR g.rights/\g.kind≠3)->SsM a O' H' k p kd Ln (setM S s (some (gs',u'))):=by
 let⟨z_,ks,A,h1,h2,h3,h5,h6⟩:=M.o;let⟨x,dx,l,ys,q1,q2⟩:=(h6 s).2 gs u e;refine⟨z_,x,dx,l,ys,h1,by rw[h5,q1];rfl,q2,λO' H' dx' l' ys' gs' u' g S' le=>?_⟩;let⟨e1,e2⟩:=g.kp M.od (λz=>by rcases z with z | z<;>cases z) h1;refine⟨g.lv,M.ob.imp λ_ e=>g.v0 _ _ e,e2,⟨z_,ks,A,e1,h2,h3,h5,λs'=>?_⟩,λs' gs2 u2 z=>?_,M.ln⟩
 · unfold setM
   by_cases c:s'=s
   · rw[if_pos c,c]
     exact⟨nofun,λgs2 u2 z=>by cases z;exact⟨x,dx',l',ys',q1,S'⟩⟩
   · rw[if_neg c]
     refine⟨(h6 s').1,λgs2 u2 z=>?_⟩;let⟨x2,dx2,l2,ys2,w1,w2⟩:=(h6 s').2 gs2 u2 z;let⟨f1,f2⟩:=g.kp w2.ox (λz=>by rcases z with z | z<;>cases z;exact c rfl) w2.hx;let⟨f3,f4⟩:=g.kp w2.ol (λz=>by rcases z with z | z<;>cases z;exact c rfl) w2.hl;exact⟨x2,dx2,l2,ys2,w1,f2,f1,f4,f3,w2.lv.same g.v0⟩
 · unfold setM at z
   split at z
   · next c=>cases z;rw[c];exact le
   · exact M.le s' gs2 u2 z
end
def Ox (a:Adr): Sp:=λvs H Q _=>∃p dx kd z_ x s,vs=[.ref p,.str s]/\H p=some (.ins a.eW dx [("kept",.ref kd)])/\H kd=some (.dK z_)/\fE z_ (.inr s)=some (.ref x)/\Q (.ref x) H
abbrev SsV (a:Adr)(O:Lab)(H:Hp)(k:Nat)(p kd:Addr)(Ln:zq)(S:ShM)(s:Str)(gs:zU)(u:Int): Prop:=SsM a O H k p kd Ln S/\S s=some (gs,u)
def RJ (a:Adr): Sp:=λvs H Q _=>∃O k p kd Ln S s gs u,vs=[.ref p,.str s]/\SsV a O H k p kd Ln S s gs u/\∀H',SsM a O H' k p kd Ln (setM S s (some (gs,u+1)))->Go (SP k) O H O H'->Q .non H'
def HN:Sp:=λ_ _ _ _=>False
def RK (a:Adr): Sp:=λvs H Q _=>∃O k p kd Ln S s gs u,vs=[.ref p,.str s]/\SsV a O H k p kd Ln S s gs u/\1 < u/\∀q H',v0 O H' q=some (.lst [])->SsM a O H' k p kd Ln (setM S s (some (gs,u-1)))->Go (SP k) O H O H'->Q (.ref q) H'
section
variable [Gn]{a:Adr}{Zz:zu}
abbrev kX (a:Adr): Prop:=cR P w K mg base a.eW 1 "share" ["self","name"] (Ox a) []
def An (T:Zq a): kX a:=by
 exists T.Bz,["self","name"];rintro⟨p,dx,kd,z_,x,s',rfl,h1,h2,hv,k⟩;left;refine⟨_,(ae (cG (ct (pc hr.u1) (pv 1) (fl (pv 0))) (af uq) bb)
     (af (bq (fF hr.u1 (fl (pv 0)) (pv 1) (λ_ _=>rfl))))),?_⟩
 have gg:=kg.k (k:=QJ s') h2;rw[hv] at gg;have gg':kg H kd (.str s') (some (.ref x)):=gg;ext;exact k
abbrev ux (a:Adr): Prop:=cR P w K mg base a.eW 2 "more" ["self","name"] (RJ a) []
def BU (T:Zq a)(gR:kX a): ux a:=by
 exists T.C5,["self","name","share"];rintro⟨O,k',p,kd,Ln,S,s',gs,u,rfl,M,k⟩;left;refine⟨_,(ae (dM 2 nD (pm (pv 0) gR (ao (pv 1))))
     (af (fR (pv 2) (dL kL (fl (pv 2)) ai) rfl))),?_⟩
 let⟨M,e⟩:=M;let⟨dx,h1⟩:=M.ob;have h1:=v0H _ _ h1;let⟨z_,x,d,l,ys,h2,hv,B,fin⟩:=M.get e;have hx:=B.hx;ext;rw[AU];have g:Go (S1P k' s') O H O (upd H x (.ins a.gJ d [("leaves",.ref l),("uses",.int (u+1))])):=.put M.lv B.ox (.inl rfl);exact k _ (fin O _ d l ys gs _ g ⟨B.ox,ah,B.ol,by rw[ak (i7 B.hl hx nofun)];exact B.hl,B.lv.same g.v0⟩ (M.le _ _ _ e)) (g.mono λi z=>.inr ⟨s',z⟩)
abbrev uy (a:Adr): Prop:=cR P w K mg base a.eW 3 "leaf" ["self","name","part"] (HN) []
def BV (T:Zq a): uy a:=cN.okS ["self","name","part"] T.C7 (by walk_at "sc") (λ_ _ _ _ h=>h.elim) (λ_ _ _ _ _ _ _ _ _ _ _ h=>h.elim)
abbrev wJ (a:Adr): Prop:=cR P w K mg base a.eW 3 "put" ["self","name","part","leaf"] (HN) []
def Dp (T:Zq a): wJ a:=cN.okS ["self","name","part","leaf","share"] T.Fu (by walk_at "sc") (λ_ _ _ _ h=>h.elim) (λ_ _ _ _ _ _ _ _ _ _ _ h=>h.elim)
end
def mem_keys {z_:zv}{ks:zq}{s:Str}(h:z_.map (·.1)=ks.map QJ): s∈ks↔(fE z_ (.inr s)).isSome=true:=by
 have e:s∈ks↔(QJ s:Key)∈z_.map (·.1):=by rw[h];simp
 rw[e,<-lT,List.any_eq_true];simp
section
variable {a:Adr}{O O':Lab}{H H':Hp}{k:Nat}{p kd x dx l:Addr}{Ln:zq}{S:ShM}{s:Str}{ys:zj}{gs:zU}{u:Int}{z_:zv}
def SsM.few (M:SsM a O H k p kd Ln S): ∃z_ ks,H kd=some (.dK z_)/\Wi z_ ks/\z_.length < 64/\ks.length < 64/\ks.Nodup/\∀s,s∈ks↔(S s).isSome=true:=by
 let⟨z_,ks,A,h1,h2,h3,h5,h6⟩:=M.o;have me:∀s,s∈ks↔(S s).isSome=true:=λs=>by
   rw[mem_keys h2,h5];cases e:S s with
   | none=>rw[(h6 s).1 e];simp
   | some v=>let⟨x,_,_,_,q,_⟩:=(h6 s).2 v.1 v.2 e;rw[q];simp
 have l:=h3.length_le_of_subset (l₂:=Ln) λs hs=>by
   let⟨v,e⟩:=qZ.mp ((me s).mp hs);exact(M.le s v.1 v.2 e).2.1
 have e:z_.length=ks.length:=by have:=congrArg Qg h2;simpa using this
 have:=M.ln;exact⟨z_,ks,h1,h2,by lia,by lia,h3,me⟩
def SsM.add {u':HO}(M:SsM a O H k p kd Ln S)(h:H kd=some (.dK z_))(no:S s=none)(hs:s∈Ln)(g1:Go (S1P k s) O H O' H')(B:ShO a O' H' k s x dx l ys gs u)(le:gs.length<=64/\∀g∈gs,OkR g.rights/\g.kind≠3)(hu:u'=.dK (putK z_ (.inr s) (.ref x))): SsM a O' (upd H' kd u') k p kd Ln (setM S s (some (gs,u)))/\Go (SP k) O H O' (upd H' kd u'):=by
 subst hu;let⟨HF,ks,A,h1,h2,h3,h5,h6⟩:=M.o;rw[h] at h1;cases h1;have ns:∀{j:Pj},(∀s',j≠.so s'/\j≠.lo s')->¬S1P k s (pt k j):=λn z=>by rcases z with z | z<;>cases z<;>first | exact(n s).1 rfl | exact(n s).2 rfl
 let⟨e1,od⟩:=g1.kp M.od (ns λ_=>⟨nofun,nofun⟩) h;have g0:Go1 (pt k .ss) O' H' O' (upd H' kd (.dK (putK z_ (.inr s) (.ref x)))):=.put g1.lv od rfl;have vn:fE z_ (.inr s)=none:=by rw[h5,(h6 s).1 no];rfl
 refine⟨⟨g0.lv,M.ob.imp λ_ e=>g0.v0 _ _ (g1.v0 _ _ e),od,⟨_,ks++[s],λj=>if j=s then some x else A j,ah,?_,?_,λj=>?_,λj=>?_⟩,λj gs2 u2 z=>?_,M.ln⟩,(g1.mono λi z=>.inr ⟨s,z⟩).trans (g0.mono λi z=>.inl z)⟩
 · rw[sD _ vn,qu,h2,qu];rfl
 · refine acW.mpr ⟨h3,by simp,λa ha b hb=>?_⟩
   rw[qc.mp hb];rintro rfl;have:=(mem_keys h2).mp ha;rw[vn] at this;cases this
 · dsimp only
   rw[jA];by_cases c:j=s
   · rw[if_pos (by rw[c]),if_pos c];rfl
   · rw[if_neg λz=>c (Sum.inr.inj z),if_neg c];exact h5 j
 · unfold setM
   dsimp only;by_cases c:j=s
   · rw[if_pos c,if_pos c,c]
     exact⟨nofun,λgs2 u2 z=>by cases z;exact⟨x,dx,l,ys,rfl,B.ox,(g0.kp B.ox nofun B.hx).1,B.ol,(g0.kp B.ol nofun B.hl).1,B.lv.same g0.v0⟩⟩
   · rw[if_neg c,if_neg c]
     refine⟨(h6 j).1,λgs2 u2 e=>?_⟩;let⟨x2,dx2,l2,ys2,q1,q2⟩:=(h6 j).2 gs2 u2 e;let⟨f1,f2⟩:=g1.kp q2.ox (λz=>by rcases z with z | z<;>cases z;exact c rfl) q2.hx;let⟨f3,f4⟩:=g1.kp q2.ol (λz=>by rcases z with z | z<;>cases z;exact c rfl) q2.hl;exact⟨x2,dx2,l2,ys2,q1,f2,(g0.kp f2 nofun f1).1,f4,(g0.kp f4 nofun f3).1,(q2.lv.same g1.v0).same g0.v0⟩
 · unfold setM at z
   split at z
   · next c=>cases z;rw[c];exact⟨le.1,hs,le.2⟩
   · exact M.le j gs2 u2 z
end
def gS (x:Str): Prop:=(1<=(x.length:Int)/\(x.length:Int)<=8)/\∀c∈x.cps.toList,97<=c/\c<=122
def LW (a:Adr): Sp:=λvs H Q E=>∃x:Str,vs=[.str x]/\x.length<=1000/\(gS x->Q .non H)/\(¬gS x->E (.ref a.iu) none H)
def HP (a:Adr): Sp:=λvs H Q _=>∃p dx n,vs=[.ref p,.int n]/\H p=some (.ins a.gJ dx [])/\0<=n/\n<=64 ∧
 ∀l (ys:zj) H',H' p=some (.ins a.gJ dx [("leaves",.ref l),("uses",.int 0)])->H' l=some (.lst (ys.map V.ref))->ys.length=n.toNat->(∀y∈ys,iC a H' y (.fresh 3)/\H y=none)->H l=none->(∀b u,H b=some u->b≠p->H' b=some u)->Q .non H'
def RL (a:Adr): Sp:=λvs H Q E=>∃O k p kd Ln S s m,vs=[.ref p,.str s,.int m]/\SsM a O H k p kd Ln S/\s.length<=1000/\(¬gS s->E (.ref a.iu) none H)/\(gS s->(∀gs u,S s=some (gs,u)->(gs.length:Int)=m)->Q .non H)/\(gS s->∀gs u,S s=some (gs,u)->(gs.length:Int)≠m->E (.ref a.iM) none H)
def Km (S:ShM)(s:Str)(m:Int): ShM:=setM S s (some (match S s with | none=>(qq m.toNat (.fresh 3),m) | some (gs,u)=>(gs,u+m)))
def UR (a:Adr): Sp:=λvs H Q _=>∃O k p kd Ln S s m,vs=[.ref p,.str s,.int m]/\SsM a O H k p kd Ln S/\gS s/\s∈Ln/\(1<=m/\m<=64)/\(∀gs u,S s=some (gs,u)->(gs.length:Int)=m)/\∀O' H',SsM a O' H' k p kd Ln (Km S s m)->Go (SP k) O H O' H'->Q .non H'
section
variable [Gn]{a:Adr}{Zz:zu}
abbrev uz (a:Adr): Prop:=cR P w K mg base a.eW 2 "less" ["self","name"] (RK a) []
def BW (T:Zq a)(gR:kX a): uz a:=by
 exists T.C6,["self","name","share"];rintro⟨O,k',p,kd,Ln,S,s',gs,u,rfl,M,u1,k⟩;left;refine⟨_,(ae (dM 2 nD (pm (pv 0) gR (ao (pv 1))))
     (ae (fR (pv 2) (dL ji (fl (pv 2)) ai) rfl)
     (ae (cG (ct Gu (fl (pv 2)) ai) (af (bq (eS jx))) bb)
     (ae (aF (mV (fl (pv 0)) (pv 1) ⟨rfl,rfl,rfl,rfl⟩))
     (af (bq (kA pK (by rfl) T.eN PyProof.Rows.Boot.«list» (ao (fl (pv 2)))))))))),?_⟩
 let⟨M,e⟩:=M;let⟨dx,h1⟩:=M.ob;have h1':=v0H _ _ h1;let⟨z_,x,d,l,ys,h2,hv,B,fin⟩:=M.get e;have hx:=B.hx;ext;rw[AU];have g:Go (S1P k' s') O H O (upd H x (.ins a.gJ d [("leaves",.ref l),("uses",.int (u-1))])):=.put M.lv B.ox (.inl rfl);have M1:=fin O _ d l ys gs _ g ⟨B.ox,ah,B.ol,by rw[ak (i7 B.hl hx nofun)];exact B.hl,B.lv.same g.v0⟩ (M.le _ _ _ e);have g':Go (SP k') O H O _:=g.mono λi z=>.inr ⟨s',z⟩;have x1:upd H x (.ins a.gJ d [("leaves",.ref l),("uses",.int (u-1))]) x=_:=ah;clear fin;generalize upd H x _=H1 at g M1 g' x1;ext;intro q hq;generalize hh:upd _ q _=H2;let⟨s2,e2⟩:=eQ hq hh;clear hh;exact k q H2 (gG e2 (g'.lv.no hq)) (M1.same s2) (g'.trans (.same g'.lv s2))
abbrev uA (a:Adr): Prop:=cR P w K mg base a.eW 1 "rows" ["self"] (HN) []
def BX (T:Zq a): uA a:=cN.okS ["self"] T.C8 (by walk_at "sc") (λ_ _ _ _ h=>h.elim) (λ_ _ _ _ _ _ _ _ _ _ _ h=>h.elim)
end
def Yv (c:Nat): (!decide ((⟨#[c]⟩:Str).cps.toList < (QZ "a").cps.toList))=decide (97<=c):=by
 have e:(QZ "a").cps.toList=[97]:=by exfalso
 have e2:(⟨#[c]⟩:Str).cps.toList=[c]:=rfl;rw[e,e2,QX];simp[adL]
def Yw (c:Nat): (!decide ((QZ "z").cps.toList < (⟨#[c]⟩:Str).cps.toList))=decide (c<=122):=by
 have e:(QZ "z").cps.toList=[122]:=by exfalso
 have e2:(⟨#[c]⟩:Str).cps.toList=[c]:=rfl;rw[e,e2,QX];simp[adL]
def Eo {X:Cx}: OpR X (compareOp .LtE) (λx y H Q=>∃i j,x=.str i/\y=.str j/\Q (.bl (!decide (j.cps.toList < i.cps.toList))) H):=by
 ac_rfl;let⟨i,j,rfl,rfl,q⟩:=h;let⟨t,rfl⟩:=rx;let⟨t',rfl⟩:=ry;exact PySem.P.le_str (gv I q rfl)
section
variable [Gn]{a:Adr}{Zz:zu}
abbrev wK (a:Adr): Prop:=ZY P w K mg base 1 "check_name" ["name"] (LW a) []
def Dq (T:Zq a): wK a:=by
 exists T.Fs,["name","letter"];rintro⟨nm,rfl,nl0,k1,k2⟩;left;refine⟨_,(ae (cG (jh (i9 jR jR ai (mU ER (by rfl) T.fY adY (ao (pv 0))) (kO (by rfl) T.m4))) (af (pxr (ao aD))) bb)
     (af (fo (Uv (pv 0)) (gn 1 nD)
     (af (cG (jh (i9 Eo Eo aD (pv 1) aD)) (af (pxr (ao aD))) bb))))),?_⟩
 have nl:nm.length<=sizeLine:=by rw[sizeLine_eq];lia
 ext;refine dI (λc0=>?_) (λc0=>?_)
 · ext
   refine eT (λc1=>⟨cO,k2 λz=>c1 z.1.2⟩) λc1=>?_;ext
   let Iv1:L2.Lv:=λi σ H'=>Bx (H'=H/\(∃v:Option V,σ=[some (.str nm),v])/\∀j c,j < i->nm.cps[j]?=some c->97<=c/\c<=122)
   refine Ra Iv1 ⟨rfl,⟨_,rfl⟩,λj c z=>absurd z (by lia)⟩ ?_ ?_
   · rintro i c σ H' hc ⟨rfl,⟨v,rfl⟩,old⟩
     have mem:c∈nm.cps.toList:=by
       let⟨hl,e⟩:=qy.mp hc;rw[<-e];simp
     ext;rw[Yv];refine dI (λz=>?_) (λz=>?_)
     · ext
       rw[Yw];refine eT (λz2=>?_) (λz2=>?_)
       · ext
         exact k2 λq=>z2 (q.2 c mem).2
       · ext
         refine⟨rfl,⟨_,rfl⟩,λj c' hj hc'=>?_⟩;by_cases q:j=i
         · rw[q,hc] at hc';cases hc';exact⟨z,z2⟩
         · exact old j c' (by lia) hc'
     · ext
       exact k2 λq=>z (q.2 c mem).1
   · rintro σ H' ⟨rfl,⟨v,rfl⟩,old⟩
     ext;refine k1 ⟨⟨c0,c1⟩,λc hc=>?_⟩;let⟨j,hj,e⟩:=List.mem_iff_getElem.mp hc;exact old j c (by simpa using hj) (by rw[<-e];simp[abu (by simpa using hj)])
 · ext
   exact k2 λz=>c0 z.1.1
abbrev pC (a:Adr): Prop:=jw P w K mg base a.gJ 4 ["self","many"] (HP a) []
def wL (T:Zq a) (gm:jw P w K mg base a.dG 2 ["self","rights"] (ku a K) []):pC a:=by
 exists T.x5,["self","many"];rintro⟨p,dx,n,rfl,hp,n0,n64,k⟩;left;refine⟨_,(ae (fR (pv 0) (AJ (xs:=["part"]) (N':=["self","many"]) rfl ⟨rfl,by exfalso,by exfalso,by dsimp only [X,lX,Q8];exfalso,by exfalso,by dsimp only [X,lX];exfalso,rfl⟩ (DX (by rfl) T.dQ (ao (pv 1))) (λ_ _ _ _ _=>(pH (i:=0) (by dsimp only [X,i_];exfalso) rfl (by first | exact acG rfl | exact aci rfl))) (λ_ _ _ _ _=>AI) (λ_ _ _ _ _=>(J_ gm hr.m (by rfl) (by exact T.dP) xL (ao (kO (by rfl) (by exact T.n_)))))) rfl)
     (af (fR (pv 0) ai rfl))),?_⟩
 have ok3:OkR 3:=⟨by decide,by decide⟩;ext;intro l hl;have lp:l≠p:=λz=>by rw[z,hp] at hl;cases hl
 let Iv1:L2.Cv:=λi zs H'=>Bx (∃ys:zj,zs=ys.map V.ref/\H' l=some (.lst (ys.map V.ref))/\ys.length=i/\(∀y∈ys,iC a H' y (.fresh 3)/\H y=none)/\Zy H H')
 refine HM (lo:=0) (n:=n.toNat) Iv1 (by rw[sizeLine_eq];lia) ⟨[],rfl,ah,rfl,λy hy=>(nomatch hy),cT hl⟩ ?_ ?_ ?_
 · intro i zs H';refine Bx.el ?_;rintro⟨ys,rfl,h1,h2,h3,h4⟩
   exact⟨h1,by rw[qa];exact h2⟩
 · rintro i zs H1 hi ⟨ys,rfl,h1,h2,h3,h4⟩ R r
   ext;refine λy dy hy hdy ne=>⟨y,dy,a.dG,3,rfl,ah,T.cU,T.aC,λ_=>⟨rfl,?_⟩,λz=>absurd ok3 z⟩;generalize hh:upd (upd (upd _ dy _) y _) y _=H2;let⟨s2,e2⟩:=Oc hy hdy hh;clear hh;have h12:=s2 _ _ h1;refine r _ _ h12 ⟨ys++[y],by rw[qu];rfl,by rw[ah,qu];rfl,by rw[qd,h2];rfl,λz hz=>?_,λb u e=>by rw[ak (aj e hl)];exact s2 _ _ (h4 _ _ e)⟩;have lf:iC a H2 z (.fresh 3)/\H z=none:=by
     rcases q_.mp hz with q | q
     · exact⟨(h3 z q).1.same s2,(h3 z q).2⟩
     · rw[qc.mp q];exact⟨⟨dy,e2⟩,h4.free hy⟩
   let⟨⟨dz,ez⟩,hz⟩:=lf;exact⟨⟨dz,by rw[ak λq=>by rw[q,h12] at ez;cases ez];exact ez⟩,hz⟩
 · intro zs H1;refine Bx.el ?_;rintro⟨ys,rfl,h1,h2,h3,h4⟩
   have hp1:=h4 _ _ hp;ext;rw[iK,jg (by exfalso),iK];have pl:∀b u,H1 b=some u->b≠p->upd (upd H1 p (.ins a.gJ dx [("leaves",.ref l)])) p (.ins a.gJ dx [("leaves",.ref l),("uses",.int 0)]) b=some u:=λb u e q=>by rw[ak q,ak q];exact e
   refine k l ys _ ah (pl _ _ h1 lp) h2 (λy hy=>?_) hl λb u e q=>pl _ _ (h4 _ _ e) q;let⟨⟨dy,e⟩,hn⟩:=h3 y hy;exact⟨⟨dy,pl _ _ e λz=>by rw[z,hp] at hn;cases hn⟩,hn⟩
abbrev oi (a:Adr): Prop:=cR P w K mg base a.eW 2 "fits" ["self","name","many"] (RL a) []
def BZ (T:Zq a)(p0:wK a): oi a:=by
 exists T.C3,["self","name","many","share"];rintro⟨O,k',p,kd,Ln,S,s',m,rfl,M,nl,k0,k1,k2⟩;left;refine⟨_,(ae (aF (pf p0 (ao (pv 1))))
     (ae (dM 3 nD (GA hr.u1 (fl (pv 0)) (pv 1) ⟨rfl,rfl,rfl,rfl⟩))
     (af (cG (PW.pt (pG (ct vK (pv 3) jS) (pF (ct Mw (ln (ao (fl (pv 3)))) (pv 2))))) (af (pxr (ao aD))) bb)))),?_⟩
 let⟨dx,h1⟩:=M.ob;have h1':=v0H _ _ h1;let⟨z_,ks,A',h2,h2',h3,h5,h6⟩:=M.o;have id1:IsD H kd:=.inl ⟨z_,Rd.of h2⟩;have gg:=kg.k (k:=QJ s') h2;rw[h5 s'] at gg;ext;refine⟨λok=>?_,k0⟩;have k1:=k1 ok;have k2:=k2 ok;cases e:S s' with
 | none =>
   rw[(h6 s').1 e] at gg;have gg':kg H kd (.str s') none:=gg;ext;exact k1 λgs u z=>by rw[e] at z;cases z
 | some v =>
   let⟨gs,u⟩:=v;let⟨x,d,l,ys,q1,B⟩:=(h6 s').2 gs u e;rw[q1] at gg;have gg':kg H kd (.str s') (some (.ref x)):=gg;have hx:=B.hx;have hl:=B.hl;have ll:(ys.map V.ref).length=gs.length:=by rw[qa,B.lv.len]
   ext;rw[ll];refine eT (λc=>?_) (λc=>?_)
   · ext
     exact k2 gs u e λz=>c (by rw[z])
   · ext
     refine k1 λgs' u' z=>?_;rw[e] at z;cases z;injection c
abbrev wM (a:Adr): Prop:=cR P w K mg base a.eW 6 "use" ["self","name","many"] (UR a) []
def Dr (T:Zq a)(jo:oi a)(lI:pC a)(gR:kX a): wM a:=by
 exists T.Ft,["self","name","many","share"];rintro⟨O,k',p,kd,Ln,S,s',m,rfl,M,ok,hs,mb,fit,k⟩;left;refine⟨_,(ae (aF (pm (pv 0) jo (aq (pv 1) (ao (pv 2)))))
     (ae (cG (ct (pc hr.u1) (pv 1) (fl (pv 0))) (af (j_ hr.u1 (fl (pv 0)) (pv 1) (pk lI (ao (pv 2))) rfl)) bb)
     (ae (dM 3 nD (pm (pv 0) gR (ao (pv 1))))
     (af (fR (pv 3) (dL kL (fl (pv 3)) (pv 2)) rfl))))),?_⟩
 let⟨dx,h1⟩:=M.ob;have h1':=v0H _ _ h1;let⟨z_,ks,h2,tk,l64,_,_,me⟩:=M.few;have gg:=kg.k (k:=QJ s') h2;have nl:s'.length<=1000:=by have:=ok.1;lia
 have m1:=mb.1;have m2:=mb.2;cases e:S s' with
 | none =>
   let⟨HF,ks0,A',h20,h2',h3,h5,h6⟩:=M.o;rw[h2] at h20;cases h20;rw[h5 s',(h6 s').1 e] at gg;have gg':kg H kd (.str s') none:=gg;ext;refine⟨λz=>absurd ok z,λ_ _=>?_,λ_ gs u z ne=>absurd (fit gs u z) ne⟩;ext;refine λx d hx hdx ne=>?_;generalize hh:upd _ x (HO.ins _ d [])=H1;have s1:Zy H H1:=λb u e=>by rw[<-hh,ak (aj e hx),ak (aj e hdx)];exact e
   have e1:H1 x=some (.ins a.gJ d []):=by rw[<-hh];exact ah
   have n1:∀{b},H1 b=none->H b=none:=λh=>s1.free h;clear hh;ext;intro l ys H2 x2 l2 yl lf nl kp;have s2:Zy H H2:=λb u e=>kp b u (s1 _ _ e) (aj e hx);have kd2:=s2 _ _ h2;have p2:=s2 _ _ h1';have nxl:x≠l:=i7 x2 l2 nofun
   have nkx:kd≠x:=aj h2 hx;have dp:sE H2 kd (.str s') (.ref x) (upd H2 kd (.dK (putK z_ (.inr s') (.ref x)))):=sE.k (k:=.inr s') kd2 (by rw[sizeLine_eq];lia);ext;have nkl:kd≠l:=aj h2 (n1 nl);have x3:upd H2 kd (.dK (putK z_ (.inr s') (.ref x))) x=_:=(ak nkx.symm).trans x2;have kd3:upd H2 kd (.dK (putK z_ (.inr s') (.ref x))) kd=_:=ah;have p3:upd H2 kd (.dK (putK z_ (.inr s') (.ref x))) p=_:=(ak (i7 p2 kd2 nofun)).trans p2;have v3:fE (putK z_ (.inr s') (.ref x)) (.inr s')=some (.ref x):=by rw[jA,if_pos rfl]
   ext;rw[AU,Int.zero_add];have hc:upd (upd H2 kd (.dK (putK z_ (.inr s') (.ref x)))) x (.ins a.gJ d [("leaves",.ref l),("uses",.int m)])=upd (upd H2 x (.ins a.gJ d [("leaves",.ref l),("uses",.int m)])) kd (.dK (putK z_ (.inr s') (.ref x))):=funext λb=>by
     by_cases c1:b=kd
     · rw[c1,ah,ak nkx,ah]
     · rw[ak c1]
       by_cases c2:b=x
       · rw[c2,ah,ah]
       · rw[ak c2,ak c2,ak c1]
   have gO:Go (S1P k' s') O H (lab (lab O x (pt k' (.so s'))) l (pt k' (.lo s'))) (upd H2 x (.ins a.gJ d [("leaves",.ref l),("uses",.int m)])):=⟨λb n=>by
     by_cases c1:b=l
     · rw[c1];exact⟨_,(ak nxl.symm).trans l2⟩
     · rw[gK c1] at n
       by_cases c2:b=x
       · rw[c2];exact⟨_,ah⟩
       · rw[gK c2] at n
         let⟨u,e⟩:=M.lv b n;exact⟨u,(ak c2).trans (s2 _ _ e)⟩,λb u e _=>⟨(ak (aj e hx)).trans (s2 _ _ e),(gK (aj e (n1 nl))).trans (gK (aj e hx))⟩,λb u e=>⟨u,(ak (aj e hx)).trans (s2 _ _ e)⟩⟩
   have lv3:Lvs a (v0 (lab (lab O x (pt k' (.so s'))) l (pt k' (.lo s'))) (upd H2 x (.ins a.gJ d [("leaves",.ref l),("uses",.int m)]))) ys (qq m.toNat (.fresh 3)):=⟨by rw[qO];exact yl,λi y g w1 w2=>by
     rw[Q6 (qw w2)];let⟨⟨dy,ey⟩,hy⟩:=lf y (qw w1);have ny:y≠x:=λz=>by rw[z,e1] at hy;cases hy
     exact⟨dy,gG ((ak ny).trans ey) (((gK (i7 ey l2 nofun)).trans (gK ny)).trans (M.lv.no (n1 hy)))⟩⟩
   let⟨M3,g3⟩:=M.add h2 e hs gO ⟨(gK nxl).trans (if_pos rfl),ah,if_pos rfl,(ak nxl.symm).trans l2,lv3⟩ ⟨by rw[qO];lia,λg h=>by rw[Q6 h];exact⟨⟨by decide,by decide⟩,nofun⟩⟩ rfl;refine k (lab (lab O x (pt k' (.so s'))) l (pt k' (.lo s'))) _ ?_ ?_
   · rw[hc]
     unfold Km;rw[e];exact M3
   · rw[hc];exact g3
 | some v =>
   let⟨gs,u⟩:=v;let⟨HF,x,d,l,ys,h20,hv,B,fin⟩:=M.get e;rw[h2] at h20;cases h20;rw[hv] at gg;have gg':kg H kd (.str s') (some (.ref x)):=gg;have hx:=B.hx;ext;refine⟨λz=>absurd ok z,λ_ _=>?_,λ_ gs u z ne=>absurd (fit gs u z) ne⟩;ext;rw[AU];have g:Go (S1P k' s') O H O (upd H x (.ins a.gJ d [("leaves",.ref l),("uses",.int (u+m))])):=.put M.lv B.ox (.inl rfl);have M1:=fin O _ d l ys gs _ g ⟨B.ox,ah,B.ol,by rw[ak (i7 B.hl hx nofun)];exact B.hl,B.lv.same g.v0⟩ (M.le _ _ _ e);refine k O _ ?_ (g.mono λi z=>.inr ⟨s',z⟩);unfold Km;rw[e];exact M1
end
def Cnt (a:Adr)(H:Hp)(p l:Addr)(n:Nat)(C:Rm): Prop:=∃dx,H p=some (.ins a.fJ dx [("kept",.ref l)])/\H l=some (.lst ((tal n C).map V.int))
def FW {n:Nat}{C:Rm}{j c:Int}(h0:0<=j)(h1:j < n): ((tal n C).map V.int).set j.toNat (.int c)=(tal n (gL C j (some (c,[])))).map V.int/\atI (((tal n C).map V.int).set j.toNat (.int c)) j=some (.int c)/\ixN ((tal n C).map V.int).length j=some j.toNat:=by
 have e:=Rw (n:=n) (C:=C) (j:=j) (o:=some (c,[])) h0;refine⟨e,?_,?_⟩
 · rw[show (V.int c)=.int (cnt (some (c,[]))) from rfl,e,BL h0 h1,gL,if_pos rfl]
 · rw[Kh];unfold ixN;rw[if_pos h0,if_pos h1]
def HQ:∀n:Nat,(qq n [V.int 0]).flatten=(tal n λ_=>none).map V.int
 | 0=>rfl
 | n+1=>by
   rw[aeb,List.flatten_concat,HQ n];unfold tal;rw[List.range_succ,qu,qu];rfl
abbrev LX (n:Nat)(C:Rm)(j c:Int): Prop:=0<=j/\j < n/\cnt (C j)=c
def Wt (a:Adr): Sp:=λvs H Q _=>∃p l n C j c,vs=[.ref p,.int j]/\Cnt a H p l n C/\LX n C j c/\Q (.int c) H
def UT (a:Adr): Sp:=λvs H Q _=>∃p l n C j c,vs=[.ref p,.int j]/\Cnt a H p l n C/\LX n C j c/\c≠0/\Q .non H
def Oy (a:Adr)(f g:Int->Int): Sp:=λvs H Q _=>∃p l n C j c,vs=[.ref p,.int j]/\Cnt a H p l n C/\LX n C j c/\c≠0/\Q (.int (f c)) (upd H l (.lst ((tal n (gL C j (some (g c,[])))).map V.int)))
def RM (a:Adr): Sp:=λvs H Q _=>∃p l n C,vs=[.ref p]/\Cnt a H p l n C/\Q (.int ((tal n C).count 0:Nat)) H
def Kn (a:Adr): Sp:=λvs H Q _=>∃p l n C c,vs=[.ref p,.int c]/\Cnt a H p l n C/\0∈tal n C/\∀j,LX n C j 0->Q (.int j) (upd H l (.lst ((tal n (gL C j (some (c,[])))).map V.int)))
def RN (a:Adr): Sp:=λvs H Q _=>∃(p dx:Addr) (n:Nat),vs=[.ref p,.int n]/\H p=some (.ins a.fJ dx [])/\n<=64/\∀l H',H l=none->H' p=some (.ins a.fJ dx [("kept",.ref l)])->H' l=some (.lst ((tal n λ_=>none).map V.int))->(∀b o,H b=some o->b≠p->H' b=some o)->Q .non H'
section
variable [Gn]{a:Adr}{Zz:zu}
abbrev tf (a:Adr): Prop:=cR P w K mg base a.fJ 1 "of" ["self","number"] (Wt a) []
def FX (T:Zq a): tf a:=by
 exists T.He,["self","number"];rintro⟨p,l,n,C,j,c,rfl,⟨dx,h1,h2⟩,⟨j0,j1,rfl⟩,k⟩;left;refine⟨_,(ae (cG (jh (i9 jR AZ ai (pv 1) (ln (ao (fl (pv 0)))))) (af uq) bb)
     (af (bq (hZ fV (fl (pv 0)) (pv 1))))),?_⟩
 have e:=BL (C:=C) j0 j1;have el:=Kh n C;ext;exact k
abbrev gI (a:Adr): Prop:=cR P w K mg base a.fJ 2 "check_taken" ["self","number"] (UT a) []
def sj (T:Zq a)(kF:tf a): gI a:=by
 exists T.sL,["self","number"];rintro⟨p,l,n,C,j,c,rfl,S,I,c0,k⟩;left;refine⟨_,(af (cG (ct gM (pm (pv 0) kF (ao (pv 1))) ai) (af uq) bb)),?_⟩;let⟨dx,h1,h2⟩:=id S;ext;exact k
abbrev oj (a:Adr): Prop:=cR P w K mg base a.fJ 1 "free" ["self"] (RM a) []
def B0 (T:Zq a): oj a:=by
 exists T.CU,["self"];rintro⟨p,l,n,C,rfl,⟨dx,h1,h2⟩,k⟩;left;refine⟨_,(af (bq (D6 Qz PySem.F.slot_list_count PySem.F.type_list_count MX (fl (pv 0)) (ao ai)))),?_⟩;ext;exact k
abbrev uB (a:Adr): Prop:=cR P w K mg base a.fJ 3 "more" ["self","number"] (Oy a (·+1) (·+1)) []
def B1 (T:Zq a)(cX:gI a): uB a:=by
 exists T.CQ,["self","number"];rintro⟨p,l,n,C,j,c,rfl,S,I,c0,k⟩;left;refine⟨_,(ae (aF (pm (pv 0) cX (ao (pv 1))))
     (ae (mS (dL kL (hZ fV (fl (pv 0)) (pv 1)) ai) (uO (fl (pv 0)) (pv 1) set_list))
     (af (bq (hZ fV (fl (pv 0)) (pv 1)))))),?_⟩
 let⟨dx,h1,h2⟩:=id S;let⟨j0,j1,rfl⟩:=id I;have e:=BL (C:=C) j0 j1;let⟨ts,e2,ix⟩:=FW (C:=C) (c:=cnt (C j)+1) j0 j1;have npl:p≠l:=i7 h1 h2 (by intro z;cases z);have k':Q (.int (cnt (C j)+1)) (upd H l (.lst (((tal n C).map V.int).set j.toNat (.int (cnt (C j)+1))))):=by rw[ts];exact k
 ext;exact k'
abbrev uC (a:Adr): Prop:=cR P w K mg base a.fJ 3 "less" ["self","number"] (Oy a (·-1) (·-1)) []
def B2 (T:Zq a)(cX:gI a): uC a:=by
 exists T.CT,["self","number"];rintro⟨p,l,n,C,j,c,rfl,S,I,c0,k⟩;left;refine⟨_,(ae (aF (pm (pv 0) cX (ao (pv 1))))
     (ae (mS (dL ji (hZ fV (fl (pv 0)) (pv 1)) ai) (uO (fl (pv 0)) (pv 1) set_list))
     (af (bq (hZ fV (fl (pv 0)) (pv 1)))))),?_⟩
 let⟨dx,h1,h2⟩:=id S;let⟨j0,j1,rfl⟩:=id I;have e:=BL (C:=C) j0 j1;let⟨ts,e2,ix⟩:=FW (C:=C) (c:=cnt (C j)-1) j0 j1;have npl:p≠l:=i7 h1 h2 (by intro z;cases z);have k':Q (.int (cnt (C j)-1)) (upd H l (.lst (((tal n C).map V.int).set j.toNat (.int (cnt (C j)-1))))):=by rw[ts];exact k
 ext;exact k'
def Ao (R:cN K a.fJ "taken" "Counts.taken" (cS 32 1) ["self","count"] Zz) (T:Zq a)
   (jq:oj a) :
   cR P w K mg base a.fJ 2 "taken" ["self","count"] (Kn a) Zz:=by
 refine R.ok rS (by walk_at "l0") ?_;intro f cdv A outer s H vs Q E hr;rintro⟨p,l,n,C,c,rfl,S,hm,k⟩;left;refine⟨_,(ae (cG (ct gM (pm0 (pv 0) jq) ai) (af (pxr (ao aD))) bb)
     (ae (dM 2 rS.nd (D6 Qz adh PySem.F.type_list_index MY (fl (pv 0)) (ao ai)))
     (ae (mS (pv 1) (uO (fl (pv 0)) (pv 2) set_list))
     (af (bq (pv 2)))))),?_⟩
 let⟨dx,h1,h2⟩:=id S;have lt:(tal n C).idxOf 0 < n:=by have:=aby.mpr hm;unfold tal at this;rwa [qa,Qf] at this
 have c1:(tal n C).count 0≠0:=λz=>List.count_eq_zero.mp z hm;have I:LX n C ((tal n C).idxOf 0:Nat) 0:=⟨by lia,by lia,by
   have h:=BL (n:=n) (C:=C) (j:=((tal n C).idxOf 0:Nat)) (by lia) (by lia);have h2:((tal n C).map V.int)[(tal n C).idxOf 0]?=some (.int 0):=by rw[qx,qi (aby.mpr hm),aes];rfl
   rw[pJ h2] at h;exact(V.int.inj (qI h)).symm⟩
 let⟨ts,e2,ix⟩:=FW (n:=n) (C:=C) (c:=c) (j:=((tal n C).idxOf 0:Nat)) (by lia) (by lia);have k':Q (.int ((tal n C).idxOf 0:Nat)) (upd H l (.lst (((tal n C).map V.int).set ((tal n C).idxOf 0) (.int c)))):=by rw[<-Qk ((tal n C).idxOf 0),ts];exact k _ I
 ext;exact k'
abbrev nR (a:Adr): Prop:=jw P w K mg base a.fJ 1 ["self","many"] (RN a) []
def vg (T:Zq a): nR a:=by
 exists T.wg,["self","many"];rintro⟨p,dx,n,rfl,hp,n64,k⟩;left;refine⟨_,(ae (cG (jh (i9 jR jR ai (pv 1) (kO (by rfl) T.mZ))) (af uq) bb)
     (af (fR (pv 0) (dL II (eS (ao ai)) (pv 1)) rfl))),?_⟩
 have n0:-(2^63)<=(n:Int):=by lia
 have n1:(n:Int) < 2^63:=by lia
 have n2:[V.int 0].length*(n:Int).toNat<=sizeLine:=by rw[sizeLine_eq];show 1*_<=_;lia
 ext;intro q hq;generalize hh:upd _ q _=H1;let⟨s1,e1⟩:=eQ hq hh;clear hh;have hp1:=s1 _ _ hp;ext;intro l hl;generalize hh:upd _ l _=H2;let⟨s2,e2⟩:=eQ hl hh;clear hh;rw[Qk,HQ] at e2;have hp2:=s2 _ _ hp1;have npl:p≠l:=aj hp1 hl;ext;exact k l _ (sQ s1 hl) ah (by rw[ak npl.symm];exact e2) λb o e nb=>by rw[ak nb];exact s2 _ _ (s1 _ _ e)
end
def Ep {α:Type}[DecidableEq α]: ∀{L M:List α},L.Nodup->(∀x∈L,x∈M)->L.length<=M.length
 | [],_,_,_=>qV _
 | x::L,M,h,s=>by
   have h1:=Qs.mp h;have:=Ep (M:=M.erase x) h1.2 λy hy=>(adZ (λe:y=x=>h1.1 (e ▸ hy))).mpr (s y (.tail _ hy));rw[acY (s x (.head _))] at this;have:=adz (s x (.head _));rw[qJ];lia
def WOk (z:Int)(ws:zm): Prop:=(ws.length:Int)=z/\∀w∈ws,0<=w/\w < 2^64
structure StX (U:Hp)(l d:Addr)(n:Nat)(z:Int)(C:Rm)(kv:zv)(X:zM): Prop where
 tl:U l=some (.lst ((tal n C).map V.int))
 dc:U d=some (.dK kv)
 nd:(kv.map (·.1)).Nodup
 kt:∀s,fE kv (.inr s)=none
 kx:∀i,fE kv (.inl i)=(X i).map V.ref
 xr:∀i x,X i=some x->x≠l/\(∀j,X j=some x->j=i)/\∃c ws,C i=some (c,ws)/\U x=some (.lst (ws.map V.int))/\(0<=i/\i < n)/\0 < c/\WOk z ws
 xn:∀i,X i=none->C i=none
def FY {n:Nat}{C D:Rm}(h:∀i,cnt (C i)=cnt (D i)): tal n C=tal n D:=aeh λi _=>h i
section
variable {U:Hp}{l d x:Addr}{n:Nat}{z j c c':Int}{C:Rm}{kv:zv}{X:zM}{ws ws':zm}{o:zN}
def FZ {o':zN}(h:cnt o=cnt o')(i:Int): cnt (gL C j o i)=cnt (gL C j o' i):=by
 unfold gL;split
 · exact h
 · rfl
def StX.at (S:StX U l d n z C kv X)(e:C j=some (c,ws)): ∃x,X j=some x/\fE kv (.inl j)=some (.ref x)/\U x=some (.lst (ws.map V.int))/\x≠l/\(0<=j/\j < n)/\0 < c/\WOk z ws:=by
 cases h:X j with
 | none=>rw[S.xn j h] at e;cases e
 | some x =>
   let⟨h1,_,c1,w1,g1,g2,g3,g4,g5⟩:=S.xr j x h;rw[e] at g1;cases g1;exact⟨x,rfl,by rw[S.kx,h];rfl,g2,h1,g3,g4,g5⟩
def StX.ld (S:StX U l d n z C kv X): d≠l:=(i7 S.tl S.dc nofun).symm
def StX.len (S:StX U l d n z C kv X): kv.length<=n:=by
 have:=Ep (M:=(abG n).map λi:Nat=>(Qn (i:Int):Key)) S.nd λk hk=>by
   cases k with
   | inr s=>exact absurd hk (A_ (S.kt s))
   | inl i =>
     cases h:X i with
     | none=>exact absurd hk (A_ (by rw[S.kx,h];rfl))
     | some x =>
       let⟨_,_,_,_,_,_,g,_⟩:=S.xr i x h;exact Qa.mpr ⟨i.toNat,acB.mpr (by lia),by rw[Int.toNat_of_nonneg g.1]⟩
 rwa [qa,qa,Qf] at this
def StX.cnt (S:StX U l d n z C kv X)(e:C j=some (c,ws))(h:0 < c'): StX (upd U l (.lst ((tal n (gL C j (some (c',[])))).map V.int))) l d n z (gL C j (some (c',ws))) kv X:=by
 refine⟨by rw[ah,FY (FZ (o:=some (c',[])) (o':=some (c',ws)) rfl)],by rw[ak S.ld];exact S.dc,S.nd,S.kt,S.kx,λi x hx=>?_,λi hx=>?_⟩
 · let⟨h1,h2,c1,w1,g1,g2,g3,g4,g5⟩:=S.xr i x hx
   refine⟨h1,h2,?_⟩;unfold gL;by_cases q:i=j
   · subst q
     rw[e] at g1;cases g1;exact⟨c',ws,if_pos rfl,by rw[ak h1];exact g2,g3,h,g5⟩
   · exact⟨c1,w1,by rw[if_neg q];exact g1,by rw[ak h1];exact g2,g3,g4,g5⟩
 · unfold gL
   rw[if_neg λq=>by rw[<-q,S.xn i hx] at e;cases e];exact S.xn i hx
def StX.row (S:StX U l d n z C kv X)(e:C j=some (c,ws))(hx:X j=some x)(w:WOk z ws'): StX (upd U x (.lst (ws'.map V.int))) l d n z (gL C j (some (c,ws'))) kv X:=by
 let⟨x1,x2,_,_,x3,x4,_⟩:=S.xr j x hx;have te:tal n C=tal n (gL C j (some (c,ws'))):=FY λi=>by
   unfold gL;split
   · next q=>rw[q,e];rfl
   · rfl
 refine⟨by rw[ak x1.symm,S.tl,te],by rw[ak (i7 S.dc x4 nofun)];exact S.dc,S.nd,S.kt,S.kx,λi y hy=>?_,λi hy=>?_⟩
 · let⟨h1,h2,c1,w1,g1,g2,g3,g4,g5⟩:=S.xr i y hy
   refine⟨h1,h2,?_⟩;unfold gL;by_cases q:i=j
   · subst q
     rw[hx] at hy;cases hy;rw[e] at g1;cases g1;exact⟨c,ws',if_pos rfl,ah,g3,g4,w⟩
   · exact⟨c1,w1,by rw[if_neg q];exact g1,by rw[ak λq'=>q (x2 i (by rw[<-q'];exact hy))];exact g2,g3,g4,g5⟩
 · unfold gL
   rw[if_neg λq=>by rw[q,hx] at hy;cases hy];exact S.xn i hy
def StX.new (S:StX U l d n z C kv X)(e:C j=none)(j0:0<=j/\j < n)(h:0 < c)(w:WOk z ws)(hx:U x=none): StX (upd (upd (upd U l (.lst ((tal n (gL C j (some (c,[])))).map V.int))) x (.lst (ws.map V.int))) d (.dK (putK kv (.inl j) (.ref x)))) l d n z (gL C j (some (c,ws))) (putK kv (.inl j) (.ref x)) λi=>if i=j then some x else X i:=by
 have xl:l≠x:=aj S.tl hx;have xd:x≠d:=(aj S.dc hx).symm;have jn:X j=none:=by
   cases q:X j with
   | none=>rfl
   | some y=>let⟨_,_,_,_,g,_⟩:=S.xr j y q;rw[e] at g;cases g
 have xo:∀i y,X i=some y->y≠x:=λi y hy=>by let⟨_,_,_,_,_,g,_⟩:=S.xr i y hy;exact aj g hx
 refine⟨by rw[ak S.ld.symm,ak xl,ah,FY (FZ (o:=some (c,[])) (o':=some (c,ws)) rfl)],ah,E1 _ S.nd (by rw[S.kx,jn];rfl),λs=>by rw[jA,if_neg nofun];exact S.kt s,λi=>?_,λi y hy=>?_,λi hy=>?_⟩
 · rw[jA]
   by_cases q:i=j
   · rw[if_pos (by rw[q]),if_pos q];rfl
   · rw[if_neg (λz=>q (QC z)),if_neg q];exact S.kx i
 · unfold gL
   by_cases q:i=j
   · rw[if_pos q] at hy
     cases hy;refine⟨xl.symm,λk hk=>?_,c,ws,if_pos q,by rw[ak xd];exact ah,by rw[q];exact j0,h,w⟩;by_cases r:k=j
     · rw[r,q]
     · rw[if_neg r] at hk;exact absurd rfl (xo k _ hk)
   · rw[if_neg q] at hy
     let⟨h1,h2,c1,w1,g1,g2,g3⟩:=S.xr i y hy;refine⟨h1,λk hk=>?_,c1,w1,by rw[if_neg q];exact g1,by rw[ak (i7 g2 S.dc nofun),ak (xo i y hy),ak h1];exact g2,g3⟩;by_cases r:k=j
     · rw[if_pos r] at hk;cases hk;exact absurd rfl (xo i _ hy)
     · rw[if_neg r] at hk;exact h2 k hk
 · unfold gL
   by_cases q:i=j
   · rw[if_pos q] at hy;cases hy
   · rw[if_neg q] at hy ⊢;exact S.xn i hy
def StX.drop (S:StX U l d n z C kv X): StX (upd (upd U l (.lst ((tal n (gL C j (some (0,[])))).map V.int))) d (.dK (h_ kv (.inl j)))) l d n z (gL C j none) (h_ kv (.inl j)) λi=>if i=j then none else X i:=by
 refine⟨by rw[ak S.ld.symm,ah,FY (FZ (o:=some (0,[])) (o':=none) rfl)],ah,sG S.nd,λs=>by rw[kr,if_neg nofun];exact S.kt s,λi=>?_,λi y hy=>?_,λi hy=>?_⟩
 · rw[kr]
   by_cases q:i=j
   · rw[if_pos (by rw[q]),if_pos q];rfl
   · rw[if_neg (λz=>q (QC z)),if_neg q];exact S.kx i
 · unfold gL
   by_cases q:i=j
   · rw[if_pos q] at hy;cases hy
   · rw[if_neg q] at hy
     let⟨h1,h2,c1,w1,g1,g2,g3⟩:=S.xr i y hy;refine⟨h1,λk hk=>?_,c1,w1,by rw[if_neg q];exact g1,by rw[ak (i7 g2 S.dc nofun),ak h1];exact g2,g3⟩;by_cases r:k=j
     · rw[if_pos r] at hk;cases hk
     · rw[if_neg r] at hk;exact h2 k hk
 · unfold gL
   by_cases q:i=j
   · rw[if_pos q]
   · rw[if_neg q] at hy ⊢;exact S.xn i hy
end
abbrev fS (t:Addr)(z:Int)(d:Addr): List (Str×V):=[("tally",.ref t),("length",.int z),("contents",.ref d)]
structure StM (a:Adr)(O:Lab)(H:Hp)(i:Pt)(p l d:Addr)(n:Nat)(z:Int)(C:Rm): Prop where
 lv:Lv O H
 ob:∃dx t dt,v0 O H p=some (.ins a.eJ dx (fS t z d))/\v0 O H t=some (.ins a.fJ dt [("kept",.ref l)])
 bd:n<=64/\1<=z/\z<=64
 ol:O l=some i
 od:O d=some i
 st:∃kv X,StX (vw O i H) l d n z C kv X/\∀j x,X j=some x->O x=some i
section
variable {a:Adr}{O O':Lab}{H H':Hp}{i j:Pt}{p l d:Addr}{n:Nat}{z:Int}{C C':Rm}
def StM.go (S:StM a O H i p l d n z C)(g:Go1 i O H O' H')(ol:O' l=some i)(od:O' d=some i)(k:∃kv X,StX (vw O' i H') l d n z C' kv X/\∀j x,X j=some x->O' x=some i): StM a O' H' i p l d n z C' :=
 ⟨g.lv,by let⟨dx,t,dt,e1,e2⟩:=S.ob;exact ⟨dx,t,dt,g.v0 _ _ e1,g.v0 _ _ e2⟩,S.bd,ol,od,k⟩
def StX.same {U U':Hp}{kv:zv}{X:zM}(S:StX U l d n z C kv X)(s:Zy U U'): StX U' l d n z C kv X :=
 ⟨s _ _ S.tl,s _ _ S.dc,S.nd,S.kt,S.kx,λi x h=>by let⟨h1,h2,c,ws,g1,g2,g3⟩:=S.xr i x h;exact ⟨h1,h2,c,ws,g1,s _ _ g2,g3⟩,S.xn⟩
def StM.oth {P:zP}(S:StM a O H j p l d n z C)(g:Go P O H O' H')(h:¬P j): StM a O' H' j p l d n z C :=
 ⟨g.lv,by let⟨dx,t,dt,e1,e2⟩:=S.ob;exact ⟨dx,t,dt,g.v0 _ _ e1,g.v0 _ _ e2⟩,S.bd,g.lb S.lv S.ol h,g.lb S.lv S.od h,by let⟨kv,X,s,o⟩:=S.st;exact ⟨kv,X,s.same (g.vw h),λk x e=>g.lb S.lv (o k x e) h⟩⟩
end
def UU (a:Adr): Sp:=λvs H Q E=>∃v:Int,vs=[.int v]/\(0<=v/\v < 2^64->Q .non H)/\(¬(0<=v/\v < 2^64)->E (.ref a.iL) none H)
def Wu:Sp:=λvs H Q _=>∃v:Int,vs=[.int v]/\Q (.bl (decide (0<=v/\v < 2^64))) H
def UW (a:Adr): Sp:=λvs H Q _=>∃O i p l d n z C j c ws k,vs=[.ref p,.int j,.int k]/\StM a O H i p l d n z C/\C j=some (c,ws)/\(0<=k/\k < z)/\Q .non H
def Wv (a:Adr): Sp:=λvs H Q _=>∃O i p l d n z C q ws,vs=[.ref p,.ref q]/\StM a O H i p l d n z C/\H q=some (.lst (ws.map V.int))/\WOk z ws/\Q .non H
def F0 (a:Adr): Sp:=λvs H Q _=>∃O i p l d n z C q ws c,vs=[.ref p,.ref q,.int c]/\StM a O H i p l d n z C/\H q=some (.lst (ws.map V.int))/\O q≠some i/\WOk z ws/\0 < c/\0∈tal n C ∧
 ∀j O' H',C j=none->0<=j/\j < n->Go1 i O H O' H'->StM a O' H' i p l d n z (gL C j (some (c,ws)))->Q (.int j) H'
def Oz (a:Adr): Sp:=λvs H Q _=>∃O i p l d n z C j c ws,vs=[.ref p,.int j]/\StM a O H i p l d n z C/\C j=some (c,ws)/\∀q,H q=none->Q (.ref q) (upd H q (.lst (ws.map V.int)))
def RO (a:Adr): Sp:=λvs H Q _=>∃O i p l d n z C j c ws k,vs=[.ref p,.int j,.int k]/\StM a O H i p l d n z C/\C j=some (c,ws)/\(0<=k/\k < z)/\Q (.int (ws.getD k.toNat 0)) H
def UX (a:Adr): Sp:=λvs H Q _=>∃O i p l d n z C j c ws k v,vs=[.ref p,.int j,.int k,.int v]/\StM a O H i p l d n z C/\C j=some (c,ws)/\(0<=k/\k < z)/\(0<=v/\v < 2^64) ∧
 ∀H',Go1 i O H O H'->StM a O H' i p l d n z (gL C j (some (c,ws.set k.toNat v)))->Q .non H'
def OA (a:Adr): Sp:=λvs H Q _=>∃O i p l d n z C j c ws,vs=[.ref p,.int j]/\StM a O H i p l d n z C/\C j=some (c,ws)/\Q (.int c) H
def Er (c:Int)(ws:zm): Option (Int×List Int):=if c=1 then none else some (c-1,ws)
def RP (a:Adr): Sp:=λvs H Q _=>∃O i p l d n z C j c ws,vs=[.ref p,.int j]/\StM a O H i p l d n z C/\C j=some (c,ws)/\∀H',Go1 i O H O H'->StM a O H' i p l d n z (gL C j (some (c+1,ws)))->Q (.int (c+1)) H'
def RQ (a:Adr): Sp:=λvs H Q _=>∃O i p l d n z C j c ws,vs=[.ref p,.int j]/\StM a O H i p l d n z C/\C j=some (c,ws)/\∀H',Go1 i O H O H'->StM a O H' i p l d n z (gL C j (Er c ws))->Q (.int (c-1)) H'
def RT (a:Adr): Sp:=λvs H Q _=>∃O i p l d n z C,vs=[.ref p]/\StM a O H i p l d n z C/\Q (.int ((tal n C).count 0:Nat)) H
def StM.co {a:Adr}{O:Lab}{H:Hp}{i:Pt}{p l d:Addr}{n:Nat}{z:Int}{C:Rm}(S:StM a O H i p l d n z C): ∃dx t,H p=some (.ins a.eJ dx (fS t z d))/\Cnt a H t l n C :=
 by let⟨dx,t,dt,e1,e2⟩:=S.ob;let⟨_,_,s,_⟩:=S.st;exact ⟨dx,t,(fQ e1).1,dt,(fQ e2).1,(Hz s.tl).1⟩
def StM.at {a:Adr}{O:Lab}{H:Hp}{i:Pt}{p l d:Addr}{n:Nat}{z:Int}{C:Rm}{j c:Int}{ws:zm}(S:StM a O H i p l d n z C)(e:C j=some (c,ws)): LX n C j c/\c≠0/\0 < c/\WOk z ws/\∃kv X x,StX (vw O i H) l d n z C kv X/\(∀j x,X j=some x->O x=some i)/\X j=some x/\H d=some (.dK kv)/\kg H d (.int j) (some (.ref x))/\fE kv (.inl j)=some (.ref x)/\H x=some (.lst (ws.map V.int)):=by
 let⟨kv,X,s,o⟩:=S.st;let⟨x,h1,h2,h3,h4,h5,h6,h7⟩:=s.at e;have hd:=(Hz s.dc).1;have dg:=kg.k (k:=.inl j) hd;rw[h2] at dg;exact⟨⟨h5.1,h5.2,by rw[e];rfl⟩,by lia,h6,h7,kv,X,x,s,o,h1,hd,dg,h2,(Hz h3).1⟩
section
variable [Gn]{a:Adr}{Zz:zu}
abbrev Es (a:Adr): Prop:=ZY P w K mg base 1 "is_word" ["thing"] (Wu) []
def Jv (T:Zq a): Es a:=by
 exists T.LK,["thing"];rintro⟨v,rfl,k⟩;left;refine⟨_,(af (bq (AX (isi (aq (pv 0) (ao (EF (v:=.ty "int") (by rfl) T.gb PyProof.Rows.Boot.«int» rfl)))) (AX (Ip (isi (aq (pv 0) (ao (EF (v:=.ty "bool") (by rfl) T.fk PyProof.Rows.Boot.«bool» rfl))))) (Io (MC jR AZ ai (pv 0) (dL EI ai ai))))))),?_⟩;by_cases c:0<=v
 · ext
   rw[show decide (0<=v/\v < 2^64)=decide (v < 2^(64:Int).toNat) from decide_eq_decide.mpr ⟨λh=>h.2,λh=>⟨c,h⟩⟩] at k;exact k
 · rw[decide_eq_false λz=>c z.1] at k
   ext;exact k
abbrev mI (a:Adr): Prop:=ZY P w K mg base 2 "check_word" ["thing"] (UU a) []
def Ds (T:Zq a)(ym:Es a): mI a:=by
 exists T.Fc,["thing"];rintro⟨v,rfl,k1,k2⟩;left;refine⟨_,(af (cG (jh (g9 (pf ym (ao (pv 0))))) (af (pxr (ao aD))) bb)),?_⟩;ext;by_cases c:0<=v/\v < 2^64
 · rw[decide_eq_true c]
   ext;exact k1 c
 · rw[decide_eq_false c]
   ext;exact k2 c
abbrev jV (a:Adr): Prop:=cR P w K mg base a.eJ 3 "check_words" ["self","words"] (Wv a) []
def tj (T:Zq a)(iy:mI a): jV a:=by
 exists T.ua,["self","words","word"];rintro⟨O,i,p,l,d,n,z,C,q,ws,rfl,S,hq,w,k⟩;left;refine⟨_,(ae (cG (ct Mw (ln (ao (pv 1))) (fl (pv 0))) (af (pxr (ao aD))) bb)
     (af (fo (gP (pv 1)) (gn 2 nD)
     (af (aF (pf iy (ao (pv 2)))))))),?_⟩
 walk_at "0h";let⟨wl,wb⟩:=w;have bd:=S.bd;have ll:(ws.map V.int).length=ws.length:=qa _;ext
 let Iv1:L2.Lv:=λi σ H'=>Bx (∃v2,σ=[some (.ref p),some (.ref q),v2]/\H'=H)
 refine iq (xs:=ws.map V.int) Iv1 ⟨_,rfl,rfl⟩ (λi σ H' _ ⟨_,_,e⟩=>by rw[e];exact Zx.of hq) ?_ ?_
 · intro i x σ H' hx;refine Bx.el ?_;rintro⟨v2,rfl,rfl⟩
   let⟨m,rfl,hm⟩:=g_ hx;have wm:=wb m (qw hm);ext;refine⟨λ_=>?_,λz=>absurd wm z⟩;ext;exact⟨_,rfl,rfl⟩
 · intro σ H';refine Bx.el ?_;rintro⟨v2,rfl,rfl⟩
   ext;exact k
abbrev jW (a:Adr): Prop:=cR P w K mg base a.eJ 3 "check_place" ["self","number","place"] (UW a) []
def tm (T:Zq a)(cX:gI a): jW a:=by
 exists T.uc,["self","number","place"];rintro⟨O,i,p,l,d,n,z,C,j,c,ws,k',rfl,S,e,k0,k⟩;left;refine⟨_,(ae (aF (pm (fl (pv 0)) cX (ao (pv 1))))
     (af (cG (jh (i9 jR AZ ai (pv 2) (fl (pv 0)))) (af (pxr (ao aD))) bb))),?_⟩
 walk_at "0h";let⟨ci,c0,_⟩:=S.at e;ext;exact k
abbrev uD (a:Adr): Prop:=cR P w K mg base a.eJ 3 "words" ["self","number"] (Oz a) []
def B3 (T:Zq a)(cX:gI a): uD a:=by
 exists T.CV,["self","number"];rintro⟨O,i,p,l,d,n,z,C,j,c,ws,rfl,S,e,k⟩;left;refine⟨_,(ae (aF (pm (fl (pv 0)) cX (ao (pv 1))))
     (af (bq (kA pK (by rfl) T.eN PyProof.Rows.Boot.«list» (ao (fF hr.u1 (fl (pv 0)) (pv 1) (λ_ _=>rfl))))))),?_⟩
 walk_at "0h";let⟨ci,c0,_,_,kv,X,x,s,o,ex,hd,dg,ev,hx⟩:=S.at e;ext;exact k
abbrev wN (a:Adr): Prop:=cR P w K mg base a.eJ 4 "word" ["self","number","place"] (RO a) []
def Du (T:Zq a)(gW:jW a): wN a:=by
 exists T.Fd,["self","number","place"];rintro⟨O,i,p,l,d,n,z,C,j,c,ws,k',rfl,S,e,k0,k⟩;left;refine⟨_,(ae (aF (pm (pv 0) gW (aq (pv 1) (ao (pv 2)))))
     (af (bq (hZ fV (fF hr.u1 (fl (pv 0)) (pv 1) (λ_ _=>rfl)) (pv 2))))),?_⟩
 let⟨dx,t,h1,ct⟩:=S.co;let⟨ci,c0,_,⟨wl,_⟩,kv,X,x,s,o,ex,hd,dg,ev,hx⟩:=S.at e;have ea:=GK (ns:=ws) k0.1 (by lia);ext;exact k
abbrev uE (a:Adr): Prop:=cR P w K mg base a.eJ 3 "count" ["self","number"] (OA a) []
def B4 (T:Zq a)(cX:gI a)(kF:tf a): uE a:=by
 exists T.CW,["self","number"];rintro⟨O,i,p,l,d,n,z,C,j,c,ws,rfl,S,e,k⟩;left;refine⟨_,(ae (aF (pm (fl (pv 0)) cX (ao (pv 1))))
     (af (bq (pm (fl (pv 0)) kF (ao (pv 1)))))),?_⟩
 walk_at "0h";let⟨ci,c0,_⟩:=S.at e;ext;exact k
abbrev p5 (a:Adr): Prop:=cR P w K mg base a.eJ 2 "free" ["self"] (RT a) []
def Dv (T:Zq a)(jq:oj a): p5 a:=by
 exists T.Fh,["self"];rintro⟨O,i,p,l,d,n,z,C,rfl,S,k⟩;left;refine⟨_,(af (bq (pm0 (fl (pv 0)) jq))),?_⟩;walk_at "0h";ext;exact k
abbrev wO (a:Adr): Prop:=cR P w K mg base a.eJ 4 "more" ["self","number"] (RP a) []
def Dw (T:Zq a)(oo:uB a): wO a:=by
 exists T.Fe,["self","number"];rintro⟨O,i,p,l,d,n,z,C,j,c,ws,rfl,S,e,k⟩;left;refine⟨_,(af (bq (pm (fl (pv 0)) oo (ao (pv 1))))),?_⟩;walk_at "0h";let⟨ci,c0,cp,_,kv,X,x,s,o,ex,hd,dg,ev,hx⟩:=S.at e;ext;exact k _ (.put S.lv S.ol rfl) (S.go (.put S.lv S.ol rfl) S.ol S.od ⟨kv,X,by rw[va S.ol];exact s.cnt e (by show 0 < c+1;lia),o⟩)
abbrev wQ (a:Adr): Prop:=cR P w K mg base a.eJ 4 "less" ["self","number"] (RQ a) []
def Dx (T:Zq a)(ot:uC a): wQ a:=by
 exists T.Ff,["self","number","count"];rintro⟨O,i,p,l,d,n,z,C,j,c,ws,rfl,S,e,k⟩;left;refine⟨_,(ae (dM 2 nD (pm (fl (pv 0)) ot (ao (pv 1))))
     (ae (cG (ct gM (pv 2) ai) (af (aF (mV (fl (pv 0)) (pv 1) ⟨rfl,rfl,rfl,rfl⟩))) bb)
     (af (bq (pv 2))))),?_⟩
 walk_at "0h";let⟨ci,c0,cp,_,kv,X,x,s,o,ex,hd,dg,ev,hx⟩:=S.at e;have g:∀u,Go1 i O H O (upd H l u):=λu=>.put S.lv S.ol rfl;have dl:d≠l:=s.ld;have pl:p≠l:=i7 h1 hl nofun
 ext;refine d6 (λq=>?_) (λq=>?_)
 · have q:c=1:=by have:c-1=0:=q;lia
   subst q;have isd:IsD (upd H l (.lst ((tal n (gL C j (some (1-1,[])))).map V.int))) d:=.inl ⟨kv,.inl (by rw[ak dl];exact hd)⟩;have kj:V.int j=kV (.inl j):=rfl;ext;have g2:Go1 i O H O (upd (upd H l (.lst ((tal n (gL C j (some (1-1,[])))).map V.int))) d (.dK (h_ kv (.inl j)))):=(g _).trans (.put (g _).lv S.od rfl);have S2:StM a O _ i p l d n z (gL C j (Er 1 ws)):=S.go g2 S.ol S.od ⟨_,_,by rw[va S.od,va S.ol];exact s.drop,λk y e=>by
     split at e
     · cases e
     · exact o k y e⟩
   exact k _ g2 S2
 · have q:c≠1:=λz=>q (by rw[z];rfl)
   ext;exact k _ (g _) (S.go (g _) S.ol S.od ⟨kv,X,by rw[va S.ol,Er,if_neg q];exact s.cnt e (by show 0 < c-1;lia),o⟩)
abbrev yL (a:Adr): Prop:=cR P w K mg base a.eJ 4 "put" ["self","number","place","word"] (UX a) []
def F1 (T:Zq a)(gW:jW a)(iy:mI a): yL a:=by
 exists T.Hf,["self","number","place","word"];rintro⟨O,i,p,l,d,n,z,C,j,c,ws,k',v,rfl,S,e,k0,v0,k⟩;left;refine⟨_,(ae (aF (pm (pv 0) gW (aq (pv 1) (ao (pv 2)))))
     (ae (aF (pf iy (ao (pv 3))))
     (af (mS (pv 3) (uO (fF hr.u1 (fl (pv 0)) (pv 1) (λ_ _=>rfl)) (pv 2) set_list))))),?_⟩
 let⟨dx,t,h1,ct⟩:=S.co;let⟨ci,c0,cp,⟨wl,wb⟩,kv,X,x,s,o,ex,hd,dg,ev,hx⟩:=S.at e;have ix:ixN (ws.map V.int).length k'=some k'.toNat:=Ka k0.1 (by lia);have ox:=o j x ex;have wk:WOk z (ws.set k'.toNat v):=⟨by rw[abD];exact wl,λw m=>(acN m).elim (wb w) λq=>by rw[q];exact v0⟩;ext;refine⟨λ_=>?_,λz=>absurd v0 z⟩;ext;exact k _ (.put S.lv ox rfl) (S.go (.put S.lv ox rfl) S.ol S.od ⟨kv,X,by rw[va ox,<-adA];exact s.row e ex wk,o⟩)
abbrev wR (a:Adr): Prop:=cR P w K mg base a.eJ 4 "gone" ["self","number"] (HN) []
def Dy (T:Zq a): wR a:=cN.okS ["self","number","count"] T.Fg (by walk_at "sc") (λ_ _ _ _ h=>h.elim) (λ_ _ _ _ _ _ _ _ _ _ _ h=>h.elim)
def Dz (R:cN K a.eJ "made" "Store.made" (cS 37 3) ["self","words","count"] Zz) (T:Zq a)
   (gX:jV a)
   (m_:cR P w K mg base a.fJ 2 "taken" ["self","count"] (Kn a) []) :
   cR P w K mg base a.eJ 4 "made" ["self","words","count"] (F0 a) Zz:=by
 refine R.ok ur (by walk_at "l0") ?_;intro f cdv A outer s H vs Q E hr;rintro⟨O,i,p,l,d,n,z,C,q,ws,c,rfl,S,hq,oq,w,cp,fr,k⟩;left;refine⟨_,(ae (aF (pm (pv 0) gX (ao (pv 1))))
     (ae (dM 3 ur.nd (pm (fl (pv 0)) m_ (ao (pv 2))))
     (ae (j_ hr.u1 (fl (pv 0)) (pv 3) (kA pK (by rfl) T.eN PyProof.Rows.Boot.«list» (ao (pv 1))) rfl)
     (af (bq (pv 3)))))),?_⟩
 walk_at "0h";let⟨kv,X,s,o⟩:=S.st;have pl:p≠l:=i7 h1 hl nofun
 have ql:q≠l:=λz=>oq (by rw[z];exact S.ol);have dl:d≠l:=s.ld;have hd:=(Hz s.dc).1;have kl:kv.length < sizeLine:=by have:=s.len;have:=S.bd.1;rw[sizeLine_eq];lia
 ext;rintro j ⟨j0,j1,cj⟩;have cn:C j=none:=by
   cases e:C j with
   | none=>rfl
   | some y=>have:=(S.at e).2.1;rw[e] at cj;exact absurd cj this
 have g:Go1 i O H O (upd H l (.lst ((tal n (gL C j (some (c,[])))).map V.int))):=.put S.lv S.ol rfl;have h11:upd H l (.lst ((tal n (gL C j (some (c,[])))).map V.int)) p=some (.ins a.eJ dx (fS t z d)):=by rw[ak pl];exact h1
 have hq1:upd H l (.lst ((tal n (gL C j (some (c,[])))).map V.int)) q=some (.lst (ws.map V.int)):=by rw[ak ql];exact hq
 ext;intro x hx;have hx0:H x=none:=by rw[ak λz=>by rw[z,ah] at hx;cases hx] at hx;exact hx
 have g2:Go1 i O H (lab O x i) (upd (upd H l (.lst ((tal n (gL C j (some (c,[])))).map V.int))) x (.lst (ws.map V.int))):=g.trans (.new g.lv hx);have ol2:lab O x i l=some i:=by rw[gK (aj hl hx0)];exact S.ol
 have od2:lab O x i d=some i:=by rw[gK (aj hd hx0)];exact S.od
 have g3:Go1 i O H (lab O x i) (upd (upd (upd H l (.lst ((tal n (gL C j (some (c,[])))).map V.int))) x (.lst (ws.map V.int))) d (.dK (putK kv (.inl j) (.ref x)))):=g2.trans (.put g2.lv od2 rfl);have xd:d≠x:=aj hd hx0;have xp:p≠x:=aj h1 hx0;have dp:sE (upd (upd H l (.lst ((tal n (gL C j (some (c,[])))).map V.int))) x (.lst (ws.map V.int))) d (.int j) (.ref x) (upd (upd (upd H l (.lst ((tal n (gL C j (some (c,[])))).map V.int))) x (.lst (ws.map V.int))) d (.dK (putK kv (.inl j) (.ref x)))):=sE.k (k:=.inl j) (by rw[ak xd,ak dl];exact hd) kl;ext;exact k j _ _ cn ⟨j0,j1⟩ g3 (S.go g3 ol2 od2 ⟨_,_,by rw[va od2,UI g.lv hx,va S.ol];exact s.new cn ⟨j0,j1⟩ cp w (Kg hx0),λk y e=>by
   split at e
   · cases e;exact if_pos rfl
   · rw[gK (aj (s.xr k y e).2.2.choose_spec.choose_spec.2.1 (Kg hx0))];exact o k y e⟩)
end
structure HdM (a:Adr)(O:Lab)(H:Hp)(i:Pt)(p l:Addr)(n:Nat): Prop where
 lv:Lv O H
 op:O p=some i
 ol:O l=some i
 n64:n<=64
 st:∃dx bs,∃st:Nat,H p=some (.ins a.iY dx [("marked",.ref l),("standing",.int st)])/\H l=some (.lst ((bs:List Bool).map V.bl))/\bs.length=n/\st < n
section
variable {a:Adr}{O O':Lab}{H H':Hp}{i:Pt}{p l:Addr}{n:Nat}{P:zP}
def HdM.oth (S:HdM a O H i p l n)(g:Go P O H O' H')(h:¬P i): HdM a O' H' i p l n:=by
 have k:∀b u,O b=some i->H b=some u->H' b=some u:=λb u e q=>(g.st b u q λj z y=>h (by rw[<-qI (z.symm.trans e)];exact y)).1;let⟨dx,bs,st,e1,e2,e3⟩:=S.st;exact⟨g.lv,g.lb S.lv S.op h,g.lb S.lv S.ol h,S.n64,dx,bs,st,k _ _ S.op e1,k _ _ S.ol e2,e3⟩
end
def UY (a:Adr): Sp:=λvs H Q _=>∃O i p l n,∃f:Int,vs=[.ref p,.int f]/\HdM a O H i p l n/\0<=f/\f < n/\∀H',Go1 i O H O H'->HdM a O H' i p l n->Q .non H'
structure HdS (a:Adr)(O:Lab)(H:Hp)(i:Pt)(p l dx:Addr)(bs:List Bool)(st:Nat): Prop where
 lv:Lv O H
 op:O p=some i
 ol:O l=some i
 ob:H p=some (.ins a.iY dx [("marked",.ref l),("standing",.int st)])
 ls:H l=some (.lst (bs.map V.bl))
def Ww (a:Adr): Sp:=λvs H Q _=>∃O i p l dx bs st,∃f:Int,vs=[.ref p,.int f]/\HdS a O H i p l dx bs st/\0<=f/\f < bs.length/\∀H',Go1 i O H O H'->HdS a O H' i p l dx (bs.set f.toNat false) st->Q .non H'
def RU (a:Adr): Sp:=λvs H Q _=>∃(p dx:Addr) (n:Nat),vs=[.ref p,.int n]/\H p=some (.ins a.iY dx [])/\1<=n/\n<=64/\∀l H',H l=none->H' p=some (.ins a.iY dx [("marked",.ref l),("standing",.int (0:Nat))])->H' l=some (.lst ((qq n false).map V.bl))->(∀b o,H b=some o->b≠p->H' b=some o)->Q .non H'
def Ko:∀n:Nat,(qq n [V.bl false]).flatten=(qq n false).map V.bl
 | 0=>rfl
 | n+1=>by rw[QB,Q0,Ko n];rfl
section
variable [Gn]{a:Adr}{Zz:zu}
abbrev nS (a:Adr): Prop:=cR P w K mg base a.iY 1 "mark" ["self","frame"] (UY a) []
def F2 (T:Zq a): nS a:=by
 exists T.Hg,["self","frame"];rintro⟨O,i,p,l,n,f',rfl,S,f0,f1,k⟩;left;refine⟨_,(af (mS vI (uO (fl (pv 0)) (pv 1) set_list))),?_⟩;let⟨dx,bs,st,h1,h2,bl,sl⟩:=S.st;have ix:ixN (bs.map V.bl).length f'=some f'.toNat:=by unfold ixN;rw[qa,if_pos f0,if_pos (by lia)]
 have g:Go1 i O H O (upd H l (.lst ((bs.map V.bl).set f'.toNat (.bl true)))):=.put S.lv S.ol rfl;ext;exact k _ g ⟨g.lv,S.op,S.ol,S.n64,dx,bs.set f'.toNat true,st,by rw[ak (i7 h1 h2 nofun)];exact h1,by rw[ah,adA],by rw[abD];exact bl,sl⟩
abbrev uF (a:Adr): Prop:=cR P w K mg base a.iY 1 "unmark" ["self","frame"] (Ww a) []
def B5 (T:Zq a): uF a:=by
 exists T.CY,["self","frame"];rintro⟨O,i,p,l,dx,bs,st,f',rfl,S,f0,f1,k⟩;left;refine⟨_,(af (mS vI (uO (fl (pv 0)) (pv 1) set_list))),?_⟩;let⟨lv,op,ol,h1,h2⟩:=S;have ix:ixN (bs.map V.bl).length f'=some f'.toNat:=by unfold ixN;rw[qa,if_pos f0,if_pos f1]
 have g:Go1 i O H O (upd H l (.lst ((bs.map V.bl).set f'.toNat (.bl false)))):=.put lv ol rfl;ext;exact k _ g ⟨g.lv,op,ol,by rw[ak (i7 h1 h2 nofun)];exact h1,by rw[ah,adA]⟩
abbrev uG (a:Adr): Prop:=cR P w K mg base a.iY 2 "chosen" ["self"] (HN) []
def B6 (T:Zq a): uG a:=cN.okS ["self","frame"] T.CZ (by walk_at "sc") (λ_ _ _ _ h=>h.elim) (λ_ _ _ _ _ _ _ _ _ _ _ h=>h.elim)
abbrev rX (a:Adr): Prop:=jw P w K mg base a.iY 1 ["self","many"] (RU a) []
def yp (T:Zq a): rX a:=by
 exists T.y4,["self","many"];rintro⟨p,dx,n,rfl,hp,n1,n64,k⟩;left;refine⟨_,(ae (cG (jh (i9 jR jR ai (pv 1) (kO (by rfl) T.n9))) (af uq) bb)
     (ae (fR (pv 0) (dL II (eS (ao vI)) (pv 1)) rfl)
     (af (fR (pv 0) ai rfl)))),?_⟩
 have n0:-(2^63)<=(n:Int):=by lia
 have n3:(n:Int) < 2^63:=by lia
 have n2:[V.bl false].length*(n:Int).toNat<=sizeLine:=by rw[sizeLine_eq];show 1*_<=_;lia
 ext;intro q hq;generalize hh:upd _ q _=H1;let⟨s1,e1⟩:=eQ hq hh;clear hh;have hp1:=s1 _ _ hp;ext;intro l hl;generalize hh:upd _ l _=H2;let⟨s2,e2⟩:=eQ hl hh;clear hh;have e2:H2 l=some (.lst ((qq n false).map V.bl)):=by rw[e2,Qk,Ko]
 have hp2:=s2 _ _ hp1;have npl:p≠l:=aj hp1 hl;ext;exact k l _ (sQ s1 hl) (by rw[ah,iK,jg (by exfalso),iK];rfl) (by rw[ak npl.symm,ak npl.symm];exact e2) λb o e nb=>by rw[ak nb,ak nb];exact s2 _ _ (s1 _ _ e)
end
structure PA where
 (p f fl fd s sl sd h hl:Addr)
abbrev fP (x:PA)(z:Int): List (Str×V):=[("frame_store",.ref x.f),("slot_store",.ref x.s),("hand",.ref x.h),("length",.int z)]
structure PoM (a:Adr)(O:Lab)(H:Hp)(k:Nat)(x:PA)(nf ns:Nat)(z:Int)(C D:Rm): Prop where
 ob:∃dx,v0 O H x.p=some (.ins a.fN dx (fP x z))
 fr:StM a O H (some (k,.fr)) x.f x.fl x.fd nf z C
 sl:StM a O H (some (k,.sl)) x.s x.sl x.sd ns z D
 hd:HdM a O H (some (k,.hd)) x.h x.hl nf
def PP (k:Nat): Pt->Prop:=λi=>i=some (k,.fr)\/i=some (k,.sl)\/i=some (k,.hd)
section
variable {a:Adr}{O O':Lab}{H H':Hp}{k:Nat}{x:PA}{nf ns:Nat}{z:Int}{C D C':Rm}
def PoM.goF (M:PoM a O H k x nf ns z C D)(g:Go1 (some (k,.fr)) O H O' H')(S:StM a O' H' (some (k,.fr)) x.f x.fl x.fd nf z C'): PoM a O' H' k x nf ns z C' D/\Go (PP k) O H O' H' :=
 ⟨⟨M.ob.imp λ_ e=>g.v0 _ _ e,S,M.sl.oth g nofun,M.hd.oth g nofun⟩,g.mono λ_ e=>.inl e⟩
def PoM.goS (M:PoM a O H k x nf ns z C D)(g:Go1 (some (k,.sl)) O H O' H')(S:StM a O' H' (some (k,.sl)) x.s x.sl x.sd ns z C'): PoM a O' H' k x nf ns z C C'/\Go (PP k) O H O' H' :=
 ⟨⟨M.ob.imp λ_ e=>g.v0 _ _ e,M.fr.oth g nofun,S,M.hd.oth g nofun⟩,g.mono λ_ e=>.inr (.inl e)⟩
def PoM.goH (M:PoM a O H k x nf ns z C D)(g:Go1 (some (k,.hd)) O H O' H')(S:HdM a O' H' (some (k,.hd)) x.h x.hl nf): PoM a O' H' k x nf ns z C D/\Go (PP k) O H O' H' :=
 ⟨⟨M.ob.imp λ_ e=>g.v0 _ _ e,M.fr.oth g nofun,M.sl.oth g nofun,S⟩,g.mono λ_ e=>.inr (.inr e)⟩
def PoM.o1 (M:PoM a O H k x nf ns z C D): ∃dx,H x.p=some (.ins a.fN dx (fP x z)):=M.ob.imp λ_ e=>(fQ e).1
def PoM.same (M:PoM a O H k x nf ns z C D)(s:Zy H H'): PoM a O H' k x nf ns z C D:=(M.goH (.same M.hd.lv s) ⟨M.hd.lv.same s,M.hd.op,M.hd.ol,M.hd.n64,by let⟨dx,bs,st,e1,e2,e3⟩:=M.hd.st;exact ⟨dx,bs,st,s _ _ e1,s _ _ e2,e3⟩⟩).1
end
def RV (a:Adr): Sp:=λvs H Q _=>∃O k x nf ns z C D j c ws i,vs=[.ref x.p,.int j,.int i]/\PoM a O H k x nf ns z C D/\C j=some (c,ws)/\(0<=i/\i < z)/\∀H',PoM a O H' k x nf ns z C D->Go (PP k) O H O H'->Q (.int (ws.getD i.toNat 0)) H'
def UZ (a:Adr): Sp:=λvs H Q _=>∃O k x nf ns z C D j c ws i v,vs=[.ref x.p,.int j,.int i,.int v]/\PoM a O H k x nf ns z C D/\C j=some (c,ws)/\(0<=i/\i < z)/\(0<=v/\v < 2^64)/\∀H',PoM a O H' k x nf ns z (gL C j (some (c,ws.set i.toNat v))) D->Go (PP k) O H O H'->Q .non H'
def RW (a:Adr): Sp:=λvs H Q _=>∃O k x nf ns z C D,vs=[.ref x.p]/\PoM a O H k x nf ns z C D/\Q (.int (((tal nf C).count 0:Nat)+((tal ns D).count 0:Nat):Int)) H
def Wx (a:Adr): Sp:=λvs H Q _=>∃O k x nf ns z C D q ws c,vs=[.ref x.p,.ref q,.int c]/\PoM a O H k x nf ns z C D/\H q=some (.lst (ws.map V.int))/\O q≠some (some (k,.fr))/\WOk z ws/\0 < c/\0∈tal nf C ∧
 ∀j O' H',C j=none->0<=j/\j < nf->PoM a O' H' k x nf ns z (gL C j (some (c,ws))) D->Go (PP k) O H O' H'->Q (.int j) H'
section
variable [Gn]{a:Adr}{Zz:zu}
abbrev tq (a:Adr): Prop:=cR P w K mg base a.fN 3 "room" ["self"] (RW a) []
def F3 (T:Zq a)(jj:p5 a): tq a:=by
 exists T.Hh,["self"];rintro⟨O,k',x,nf,ns,z,C,D,rfl,M,k⟩;left;refine⟨_,(af (bq (dL kL (pm0 (fl (pv 0)) jj) (pm0 (fl (pv 0)) jj)))),?_⟩;walk_at "0e";let⟨d2,t2,f2,_⟩:=M.sl.co;have m1:=M.fr;have m2:=M.sl;ext;exact k
abbrev tD (a:Adr): Prop:=cR P w K mg base a.fN 5 "word" ["self","frame","place"] (RV a) []
def F4 (T:Zq a)(p8:wN a)(iW:nS a): tD a:=by
 exists T.Hj,["self","frame","place","word"];rintro⟨O,k',x,nf,ns,z,C,D,j,c,ws,i,rfl,M,e,i0,k⟩;left;refine⟨_,(ae (dM 3 nD (pm (fl (pv 0)) p8 (aq (pv 1) (ao (pv 2)))))
     (ae (aF (pm (fl (pv 0)) iW (ao (pv 1))))
     (af (bq (pv 3))))),?_⟩
 walk_at "0e";have m1:=M.fr;have m3:=M.hd;let⟨_,_,_,f3,_⟩:=M.hd.st;let⟨⟨j0,j1,_⟩,_⟩:=M.fr.at e;ext;intro H1 g S;let⟨M1,g1⟩:=M.goH g S;ext;exact k H1 M1 g1
abbrev vh (a:Adr): Prop:=cR P w K mg base a.fN 5 "put" ["self","frame","place","word"] (UZ a) []
def HR (T:Zq a)(tE:yL a)(iW:nS a): vh a:=by
 exists T.Jg,["self","frame","place","word"];rintro⟨O,k',x,nf,ns,z,C,D,j,c,ws,i,v,rfl,M,e,i0,v0,k⟩;left;refine⟨_,(ae (aF (pm (fl (pv 0)) tE (aq (pv 1) (aq (pv 2) (ao (pv 3))))))
     (af (aF (pm (fl (pv 0)) iW (ao (pv 1)))))),?_⟩
 walk_at "0e";have m1:=M.fr;let⟨⟨j0,j1,_⟩,_⟩:=M.fr.at e;ext;intro H1 g S;let⟨M1,g1⟩:=M.goF g S;let⟨dx1,h11⟩:=M1.o1;have m3:=M1.hd;let⟨_,_,_,f3,_⟩:=M1.hd.st;ext;intro H2 g2 S2;let⟨M2,g2⟩:=M1.goH g2 S2;ext;exact k H2 M2 (g1.trans g2)
abbrev nU (a:Adr): Prop:=cR P w K mg base a.fN 5 "brought_in" ["self","words","count"] (Wx a) []
def vi (T:Zq a) (jG:cR P w K mg base a.eJ 4 "made" ["self","words","count"] (F0 a) []) (iW:nS a):nU a:=by
 exists T.wj,["self","words","count","frame"];rintro⟨O,k',x,nf,ns,z,C,D,q,ws,c,rfl,M,hq,oq,w,cp,fr,k⟩;left;refine⟨_,(ae (dM 3 nD (pm (fl (pv 0)) jG (aq (pv 1) (ao (pv 2)))))
     (ae (aF (pm (fl (pv 0)) iW (ao (pv 3))))
     (af (bq (pv 3))))),?_⟩
 walk_at "0e";have m1:=M.fr;ext;intro j O1 H1 cj jb g S;let⟨M1,g1⟩:=M.goF g S;let⟨dx1,h11⟩:=M1.o1;have m3:=M1.hd;let⟨_,_,_,f3,_⟩:=M1.hd.st;let⟨j0,j1⟩:=jb;ext;intro H2 g2 S2;let⟨M2,g2⟩:=M1.goH g2 S2;ext;exact k j O1 H2 cj ⟨j0,j1⟩ M2 (g1.trans g2)
end
def RX (a:Adr): Sp:=λvs H Q _=>∃(y l:Addr),vs=[.ref y,.ref l]/\H l=some (.lst [])/\Q (.ref y) H
def U0 (a:Adr): Sp:=λvs H Q _=>∃O k x nf ns z C D,vs=[.ref x.p]/\PoM a O H k x nf ns z C D/\0∈tal nf C/\∀q H',v0 O H' q=some (.lst [])->Zy H H'->Q (.ref q) H'
def RY (a:Adr): Sp:=λvs H Q E=>∃O k x nf z C D q ws,vs=[.ref x.p,.ref q]/\PoM a O H k x nf 0 z C D/\H q=some (.lst (ws.map V.int))/\O q=none/\WOk z ws ∧
 (0∈tal nf C->∀t m j O' H',C j=none->(0<=j/\j < nf)->v0 O' H' t=some (.tup [.int j,.ref m])->v0 O' H' m=some (.lst [])->PoM a O' H' k x nf 0 z (gL C j (some (1,ws))) D->Go (PP k) O H O' H'->Q (.ref t) H') ∧
 (0∉tal nf C->E (.ref a.jC) none H)
def Kp {K:qv}{a:Addr}{g:TG}{tb:TS}{D:Ends}{σ:St}{H:Hp}(e:Zx K H a [])(q:D.nx σ H):
   ∃W:Nat->Nat->St->Hp->Prop,(∃m,W 0 m σ H)/\∀i m σ H,W i m σ H ->
     ((Itl K a).stop i H/\D.nx σ H)\/((Itl K a).go i H/\∃N:St->Hp->Prop,(∀σ' H',N σ' H'->∃m',m' < m/\W (i+1) m' σ' H')/\∀x H',(Itl K a).yld i H x H'->g x σ H' λσ2 H2=>tb { D with nx:=N,ct:=N,bk:=D.nx } σ2 H2) :=
 iq (xs:=[]) (λ_ σ' H'=>σ'=σ/\H'=H) ⟨rfl,rfl⟩ (λ_ _ _ _ h=>by rw[h.2];exact e) (λ_ _ _ _ h=>nomatch h) (λ_ _ h=>by rw[h.1,h.2];exact q)
section
variable [Gn]{a:Adr}{Zz:zu}
abbrev B7 (a:Adr): Prop:=ZY P w K mg base 5 "moved_by" ["leaf","moves"] (RX a) []
def HS (T:Zq a)(jd:m8 a)(eP:iS a): B7 a:=by
 exists T.Jh,["leaf","moves","way","frame","slot"];rintro⟨y,l,rfl,hl,k⟩;left;refine⟨_,(ae (fo (gP (pv 1)) (kK (n:=3) rfl (eV (gn 2 nD) (eV (gn 3 nD) (eV (gn 4 nD) jv))))
     (ae (cG (PW.pt (pG (ct gM (pv 2) aD) (pG (g9 (isi (aq (pv 0) (ao (eX (v:=.ref a.dN) (by rfl) T.eM rfl))))) (pF (ct gM (fl (pv 0)) (pv 3)))))) (af (bq (pk jd (aq (fl (pv 0)) (ao (pv 4)))))) bb)
     (af (cG (PW.pt (pG (ct gM (pv 2) aD) (pG (g9 (isi (aq (pv 0) (ao (eX (v:=.ref a.fL) (by rfl) T.fU rfl))))) (pF (ct gM (fl (pv 0)) (pv 4)))))) (af (bq (pk eP (aq (fl (pv 0)) (ao (pv 3)))))) bb))))
     (af (bq (pv 0)))),?_⟩
 ext;refine Kp (Zx.of hl) ?_;ext;exact k
abbrev tF (a:Adr): Prop:=cR P w K mg base a.fN 5 "put_out" ["self"] (U0 a) []
def Ap (T:Zq a) (jj:p5 a) (ou:uG a) (p9:wR a) (jG:cR P w K mg base a.eJ 4 "made" ["self","words","count"] (F0 a) []):tF a:=by
 exists T.Bq,["self","frame","content"];rintro⟨O,k',x,nf,ns,z,C,D,rfl,M,rm,k⟩;left;refine⟨_,(ae (cG (ct Gu (pm0 (fl (pv 0)) jj) ai) (af (bq (eS jx))) bb)
     (ae (dM 1 nD (pm0 (fl (pv 0)) ou))
     (ae (dM 2 nD (pm (fl (pv 0)) p9 (ao (pv 1))))
     (af (bq (eS (ao (fM (aq aD (aq (pv 1) (ao (pm (fl (pv 0)) jG (aq (hZ iI (pv 2) ai) (ao (hZ iI (pv 2) ai))))))))))))))),?_⟩
 walk_at "0e";have m1:=M.fr;have:=acL.mpr rm;ext;intro q hq;generalize hh:upd _ q _=H1;let⟨s1,e1⟩:=eQ hq hh;clear hh;exact k q H1 (gG e1 (M.hd.lv.no hq)) s1
abbrev yM (a:Adr): Prop:=cR P w K mg base a.fN 6 "made" ["self","words"] (RY a) []
def F5 (T:Zq a)(gX:jV a)(kG:tq a)(nh:tF a)(kY:nU a): yM a:=by
 exists T.Hi,["self","words","moves"];rintro⟨O,k',x,nf,z,C,D,q,ws,rfl,M,hq,oq,w,k1,k2⟩;left;refine⟨_,(ae (aF (pm (fl (pv 0)) gX (ao (pv 1))))
     (ae (cG (ct gM (pm0 (pv 0) kG) ai) (af (pxr (ao aD))) bb)
     (ae (dM 2 nD (pm0 (pv 0) nh))
     (af (bq (fM (aq (pm (pv 0) kY (aq (pv 1) (ao ai))) (ao (pv 2))))))))),?_⟩
 walk_at "0e";have m1:=M.fr;have n0:(tal 0 D).count 0=0:=rfl;ext;refine d6 (λc=>?_) (λc=>?_)
 · ext
   exact k2 (λh=>by have:=acL.mpr h;lia)
 · have rm:0∈tal nf C:=acL.mp (by lia)
   ext;intro m H1 hm s1;have M1:=M.same s1;have hq1:=s1 _ _ hq;have oq2:O q≠some (some (k',.fr)):=by rw[oq];exact nofun
   let⟨dx1,h11⟩:=M1.o1;ext;intro j O2 H2 cj jb M2 g2;have gg:=(Go.same (P:=PP k') M.hd.lv s1).trans g2;ext;intro t ht;generalize hh:upd _ t _=H3;let⟨s3,e3⟩:=eQ ht hh;clear hh;exact k1 rm t m j O2 H3 cj jb (gG e3 (gg.lv.no ht)) (v0S s3 _ _ (g2.v0 _ _ hm)) (M2.same s3) (gg.trans (.same gg.lv s3))
abbrev tG (a:Adr): Prop:=cR P w K mg base a.fN 6 "fetched" ["self","slot"] (HN) []
def Aq (T:Zq a): tG a:=cN.okS ["self","slot","content","moves","frame"] T.Br (by walk_at "sc") (λ_ _ _ _ h=>h.elim) (λ_ _ _ _ _ _ _ _ _ _ _ h=>h.elim)
end
def roomOf (C D:Rm): Lf->Option (Int×List Int)
 | .held _ j=>C j | .out _ j=>D j | _=>none
def Jw (C D:Rm)(o:zN): Lf->Rm×Rm
 | .held _ j=>(gL C j o,D) | .out _ j=>(C,gL D j o) | _=>(C,D)
def OB (a:Adr): Sp:=λvs H Q _=>∃O k x nf ns z C D y g,vs=[.ref x.p,.ref y]/\PoM a O H k x nf ns z C D/\iC a H y g/\(g.kind=1\/g.kind=2->roomOf C D g≠none)/\Q (.int (cnt (roomOf C D g))) H
def OC (a:Adr): Sp:=λvs H Q _=>∃O k x nf ns z C D y g,vs=[.ref x.p,.ref y]/\PoM a O H k x nf ns z C D/\iC a H y g/\(g.kind=1\/g.kind=2->roomOf C D g≠none)/\∀q H',H q=none->H' q=some (.lst (((roomOf C D g).elim (qq z.toNat 0) (·.2)).map V.int))->Zy H H'->Q (.ref q) H'
def RZ (a:Adr): Sp:=λvs H Q _=>∃O k x nf ns z C D y g,vs=[.ref x.p,.ref y]/\PoM a O H k x nf ns z C D/\iC a (v0 O H) y g/\(g.kind=1\/g.kind=2->roomOf C D g≠none)/\∀H',PoM a O H' k x nf ns z (Jw C D ((roomOf C D g).map λx=>(x.1+1,x.2)) g).1 (Jw C D ((roomOf C D g).map λx=>(x.1+1,x.2)) g).2->Go (PP k) O H O H'->Q .non H'
def R0 (a:Adr): Sp:=λvs H Q _=>∃O k x nf ns z C D y g,vs=[.ref x.p,.ref y]/\PoM a O H k x nf ns z C D/\iC a (v0 O H) y g/\(g.kind=1\/g.kind=2->roomOf C D g≠none)/\∀H',PoM a O H' k x nf ns z (Jw C D ((roomOf C D g).bind λx=>Er x.1 x.2) g).1 (Jw C D ((roomOf C D g).bind λx=>Er x.1 x.2) g).2->Go (PP k) O H O H'->Q .non H'
def HU:∀n:Nat,(qq n [V.int 0]).flatten=(qq n (0:Int)).map V.int
 | 0=>rfl
 | n+1=>by rw[QB,Q0,HU n];rfl
def some_of {α:Type}{o:Option α}(h:o≠none): ∃x,o=some x:=by
 cases o with
 | none=>exact absurd rfl h
 | some x=>exact⟨x,rfl⟩
section
variable [Gm]{a:Adr}{H:Hp}{y:Addr}{g:Lf}
def iC.ty (T:Zq a)(l:iC a H y g): TyE K H (.ref y) (.ref (g.cls a)):=by
 let⟨dy,h⟩:=l;cases g
 · exact T.NW h
 · exact T.Rg h
 · exact T.UB h
 · exact T.NX h
def Et (T:Zq a)(g:Lf): Qe K (.ref (g.cls a)) (.ref a.dN)=some (decide (g.kind=1)):=by
 cases g
 · exact T.bg
 · exact T.bM
 · exact T.cy
 · exact T.bo
def Kr (T:Zq a)(g:Lf): Qe K (.ref (g.cls a)) (.ref a.fL)=some (decide (g.kind=2)):=by
 cases g
 · exact T.bL
 · exact T.cw
 · exact T.cH
 · exact T.bP
def HV (h:g.kind=1): ∃r j,g=.held r j:=by cases g<;>first | exact⟨_,_,rfl⟩ | cases h
def Ks (h:g.kind=2): ∃r j,g=.out r j:=by cases g<;>first | exact⟨_,_,rfl⟩ | cases h
def Ku {C D:Rm}(h1:¬g.kind=1)(h2:¬g.kind=2): roomOf C D g=none/\∀o,Jw C D o g=(C,D):=by cases g<;>first | exact absurd rfl h1 | exact absurd rfl h2 | exact⟨rfl,λ_=>rfl⟩
end
section
variable [Gn]{a:Adr}{Zz:zu}
abbrev p_ (a:Adr): Prop:=cR P w K mg base a.fN 4 "count" ["self","leaf"] (OB a) []
def DA (T:Zq a)(lQ:uE a): p_ a:=by
 exists T.Fj,["self","leaf"];rintro⟨O,k',x,nf,ns,z,C,D,y,g,rfl,M,lf,ip,k⟩;left;refine⟨_,(ae (cG (g9 (isi (aq (pv 1) (ao (eX (v:=.ref a.dN) (by rfl) T.eM rfl))))) (af (bq (pm (fl (pv 0)) lQ (ao (fl (pv 1)))))) bb)
     (ae (cG (g9 (isi (aq (pv 1) (ao (eX (v:=.ref a.fL) (by rfl) T.fU rfl))))) (af (bq (pm (fl (pv 0)) lQ (ao (fl (pv 1)))))) bb)
     (af (bq ai)))),?_⟩
 walk_at "0e";let⟨d2,t2,f2,_⟩:=M.sl.co;have m1:=M.fr;have m2:=M.sl;have ty:=lf.ty T;have kh:=Et T g;have ko:=Kr T g;ext;refine dI (λq=>?_) (λq=>?_)
 · let⟨r,j,rfl⟩:=HV q
   let⟨⟨c,ws⟩,e⟩:=some_of (ip (.inl rfl));let⟨dy,ly⟩:=lf;rw[e] at k;have e:C j=some (c,ws):=e;have ly:H y=some (.ins a.dN dy [("rights",.int r),("frame",.int j)]):=ly;ext;exact k
 ext;refine dI (λq2=>?_) (λq2=>?_)
 · let⟨r,j,rfl⟩:=Ks q2
   let⟨⟨c,ws⟩,e⟩:=some_of (ip (.inr rfl));let⟨dy,ly⟩:=lf;rw[e] at k;have e:D j=some (c,ws):=e;have ly:H y=some (.ins a.fL dy [("rights",.int r),("slot",.int j)]):=ly;ext;exact k
 rw[(Ku (C:=C) (D:=D) q q2).1] at k;ext;exact k
abbrev wU (a:Adr): Prop:=cR P w K mg base a.fN 4 "words" ["self","leaf"] (OC a) []
def DB (T:Zq a)(lR:uD a): wU a:=by
 exists T.Fi,["self","leaf"];rintro⟨O,k',x,nf,ns,z,C,D,y,g,rfl,M,lf,ip,k⟩;left;refine⟨_,(ae (cG (g9 (isi (aq (pv 1) (ao (eX (v:=.ref a.dN) (by rfl) T.eM rfl))))) (af (bq (pm (fl (pv 0)) lR (ao (fl (pv 1)))))) bb)
     (ae (cG (g9 (isi (aq (pv 1) (ao (eX (v:=.ref a.fL) (by rfl) T.fU rfl))))) (af (bq (pm (fl (pv 0)) lR (ao (fl (pv 1)))))) bb)
     (af (bq (dL II (eS (ao ai)) (fl (pv 0))))))),?_⟩
 walk_at "0e";let⟨d2,t2,f2,_⟩:=M.sl.co;have m1:=M.fr;have m2:=M.sl;have ty:=lf.ty T;have kh:=Et T g;have ko:=Kr T g;ext;refine dI (λq=>?_) (λq=>?_)
 · let⟨r,j,rfl⟩:=HV q
   let⟨⟨c,ws⟩,e⟩:=some_of (ip (.inl rfl));let⟨dy,ly⟩:=lf;rw[e] at k;have e:C j=some (c,ws):=e;have ly:H y=some (.ins a.dN dy [("rights",.int r),("frame",.int j)]):=ly;ext;exact λq hq=>k q _ hq ah (cT hq)
 ext;refine dI (λq2=>?_) (λq2=>?_)
 · let⟨r,j,rfl⟩:=Ks q2
   let⟨⟨c,ws⟩,e⟩:=some_of (ip (.inr rfl));let⟨dy,ly⟩:=lf;rw[e] at k;have e:D j=some (c,ws):=e;have ly:H y=some (.ins a.fL dy [("rights",.int r),("slot",.int j)]):=ly;ext;exact λq hq=>k q _ hq ah (cT hq)
 rw[(Ku (C:=C) (D:=D) q q2).1] at k;have bd:=M.fr.bd;have n0:-(2^63)<=z:=by lia
 have n1:z < 2^63:=by lia
 have n2:[V.int 0].length*z.toNat<=sizeLine:=by rw[sizeLine_eq];show 1*_<=_;lia
 ext;intro l hl;generalize hh:upd _ l _=H1;let⟨s1,e1⟩:=eQ hl hh;clear hh;have h11:=s1 _ _ h1;ext;intro q hq;exact k q _ (sQ s1 hq) (by rw[ah,HU];rfl) (s1.trans (cT hq))
abbrev yN (a:Adr): Prop:=cR P w K mg base a.fN 5 "more" ["self","leaf"] (RZ a) []
def F6 (T:Zq a)(mJ:wO a): yN a:=by
 exists T.Hk,["self","leaf"];rintro⟨O,k',x,nf,ns,z,C,D,y,g,rfl,M,lf0,ip,k⟩;left;refine⟨_,(ae (cG (g9 (isi (aq (pv 1) (ao (eX (v:=.ref a.dN) (by rfl) T.eM rfl))))) (af (aF (pm (fl (pv 0)) mJ (ao (fl (pv 1)))))) bb)
     (af (cG (g9 (isi (aq (pv 1) (ao (eX (v:=.ref a.fL) (by rfl) T.fU rfl))))) (af (aF (pm (fl (pv 0)) mJ (ao (fl (pv 1)))))) bb))),?_⟩
 have lf:=lf0.same v0H;walk_at "0e";let⟨d2,t2,f2,_⟩:=M.sl.co;have m1:=M.fr;have m2:=M.sl;have ty:=lf.ty T;have kh:=Et T g;have ko:=Kr T g;ext;refine dI (λq=>?_) (λq=>?_)
 · let⟨r,j,rfl⟩:=HV q
   let⟨⟨c,ws⟩,e⟩:=some_of (ip (.inl rfl));let⟨dy,ly⟩:=id lf;rw[e] at k;have e:C j=some (c,ws):=e;have ly:H y=some (.ins a.dN dy [("rights",.int r),("frame",.int j)]):=ly;ext;intro H1 g S;let⟨M1,g1⟩:=M.goF g S;have ty1:=(lf0.same λb u e=>v0H _ _ (g.v0 _ _ e)).ty T;ext;exact k H1 M1 g1
 ext;refine dI (λq2=>?_) (λq2=>?_)
 · let⟨r,j,rfl⟩:=Ks q2
   let⟨⟨c,ws⟩,e⟩:=some_of (ip (.inr rfl));let⟨dy,ly⟩:=id lf;rw[e] at k;have e:D j=some (c,ws):=e;have ly:H y=some (.ins a.fL dy [("rights",.int r),("slot",.int j)]):=ly;ext;intro H1 g S;let⟨M1,g1⟩:=M.goS g S;ext;exact k H1 M1 g1
 rw[(Ku (C:=C) (D:=D) q q2).2] at k;ext;exact k H M (.same M.hd.lv (.refl _))
end
section
variable {a:Adr}{O O':Lab}{H H':Hp}{i:Pt}{p l:Addr}{n:Nat}
def HdM.s (M:HdM a O H i p l n): ∃dx bs st,HdS a O H i p l dx bs st/\bs.length=n/\st < n:=by let⟨dx,bs,st,e1,e2,e3,e4⟩:=M.st;exact ⟨dx,bs,st,⟨M.lv,M.op,M.ol,e1,e2⟩,e3,e4⟩
end
section
variable [Gn]{a:Adr}{Zz:zu}
abbrev yO (a:Adr): Prop:=cR P w K mg base a.fN 5 "less" ["self","leaf"] (R0 a) []
def F8 (T:Zq a)(mK:wQ a)(oz:uF a): yO a:=by
 exists T.Hl,["self","leaf"];rintro⟨O,k',x,nf,ns,z,C,D,y,g,rfl,M,lf0,ip,k⟩;left;refine⟨_,(ae (cG (PW.pt (pG (g9 (isi (aq (pv 1) (ao (eX (v:=.ref a.dN) (by rfl) T.eM rfl))))) (pF (ct gM (pm (fl (pv 0)) mK (ao (fl (pv 1)))) ai)))) (af (aF (pm (fl (pv 0)) oz (ao (fl (pv 1)))))) bb)
     (af (cG (g9 (isi (aq (pv 1) (ao (eX (v:=.ref a.fL) (by rfl) T.fU rfl))))) (af (aF (pm (fl (pv 0)) mK (ao (fl (pv 1)))))) bb))),?_⟩
 have lf:=lf0.same v0H;walk_at "0e";let⟨d2,t2,f2,_⟩:=M.sl.co;have m1:=M.fr;have m2:=M.sl;have ty:=lf.ty T;have kh:=Et T g;have ko:=Kr T g;ext;refine dI (λq=>?_) (λq=>?_)
 · let⟨r,j,rfl⟩:=HV q
   let⟨⟨c,ws⟩,e⟩:=some_of (ip (.inl rfl));let⟨dy,ly⟩:=id lf;rw[e] at k;have e:C j=some (c,ws):=e;have ly:H y=some (.ins a.dN dy [("rights",.int r),("frame",.int j)]):=ly;let⟨⟨j0,j1,_⟩,_⟩:=M.fr.at e;ext;intro H1 g S;let⟨M1,g1⟩:=M.goF g S;have lf1:=lf0.same λb u e=>v0H _ _ (g.v0 _ _ e);have ty1:=lf1.ty T;let⟨dx1,h11⟩:=M1.o1;ext;refine d6 (λq3=>?_) (λq3=>?_)
   · let⟨dh,bs,st,hs,bl,sl⟩:=M1.hd.s
     let⟨dy1,ly1⟩:=id lf1;have ly1:H1 y=some (.ins a.dN dy1 [("rights",.int r),("frame",.int j)]):=ly1;have j2:j < bs.length:=by lia
     have hob:=hs.ob;ext;intro H2 g S;let⟨M2,g2⟩:=M1.goH g ⟨S.lv,S.op,S.ol,M1.hd.n64,dh,_,st,S.ob,S.ls,by rw[abD];exact bl,sl⟩;have ty2:=(lf0.same λb u e=>v0H _ _ (g2.v0 _ _ (g1.v0 _ _ e))).ty T;ext;exact k H2 M2 (g1.trans g2)
   · ext
     exact k H1 M1 g1
 ext;refine dI (λq2=>?_) (λq2=>?_)
 · let⟨r,j,rfl⟩:=Ks q2
   let⟨⟨c,ws⟩,e⟩:=some_of (ip (.inr rfl));let⟨dy,ly⟩:=id lf;rw[e] at k;have e:D j=some (c,ws):=e;have ly:H y=some (.ins a.fL dy [("rights",.int r),("slot",.int j)]):=ly;ext;intro H1 g S;let⟨M1,g1⟩:=M.goS g S;ext;exact k H1 M1 g1
 rw[(Ku (C:=C) (D:=D) q q2).2] at k;ext;exact k H M (.same M.hd.lv (.refl _))
end
def R9 (a:Adr): Sp:=λvs H Q _=>∃(p dx:Addr) (n:Nat) (z:Int),vs=[.ref p,.int n,.int z]/\H p=some (.ins a.eJ dx [])/\n<=64/\1<=z/\z<=64/\∀t dt l d H',H t=none->H l=none->H d=none->H' p=some (.ins a.eJ dx (fS t z d))->H' t=some (.ins a.fJ dt [("kept",.ref l)])->H' l=some (.lst ((tal n λ_=>none).map V.int))->H' d=some (.dK [])->(∀b o,H b=some o->b≠p->H' b=some o)->Q .non H'
section
variable [Gn]{a:Adr}{Zz:zu}
abbrev pD (a:Adr): Prop:=jw P w K mg base a.eJ 3 ["self","many","size"] (R9 a) []
def wV (T:Zq a)(kZ:nR a): pD a:=by
 exists T.xW,["self","many","size"];rintro⟨p,dx,n,z,rfl,hp,n64,z1,z64,k⟩;left;refine⟨_,(ae (cG (jh (i9 jR jR ai (pv 2) (kO (by rfl) T.pQ))) (af uq) bb)
     (ae (fR (pv 0) (pk kZ (ao (pv 1))) rfl)
     (ae (fR (pv 0) (pv 2) rfl)
     (af (fR (pv 0) oZ rfl))))),?_⟩
 ext;intro t dt ht hdt _;have npt:=aj hp ht;have npd:=aj hp hdt;refine⟨t,dt,n,rfl,ah,n64,λl H1 hl e1 e2 fr=>⟨rfl,?_⟩⟩;have hp1:H1 p=some (.ins a.eJ dx []):=fr _ _ (by rw[ak npt,ak npd];exact hp) npt;have hl0:H l=none:=by
   cases e:H l with
   | none=>rfl
   | some u=>rw[ak (aj e ht),ak (aj e hdt),e] at hl;cases hl
 have k0:∀b o,H b=some o->H1 b=some o:=λb o e=>fr b o (by rw[ak (aj e ht),ak (aj e hdt)];exact e) (aj e ht);ext;intro d hd;have dp:d≠p:=λz=>by rw[z,ah] at hd;cases hd
 have hd1:H1 d=none:=by rw[ak dp,ak dp] at hd;exact hd
 have hd0:H d=none:=by
   cases e:H d with
   | none=>rfl
   | some u=>rw[k0 _ _ e] at hd1;cases hd1
 have pd:=dp.symm;ext;have tp:t≠p:=npt.symm;have lp:l≠p:=(aj hp hl0).symm;refine k t dt l d _ ht hl0 hd0 (by rw[ah,iK,jg (by exfalso),iK,jg (by exfalso),jg (by exfalso),iK]) (by rw[ak tp,ak (aj e1 hd1),ak tp,ak tp];exact e1) (by rw[ak lp,ak (aj e2 hd1),ak lp,ak lp];exact e2) (by rw[ak dp,ah]) λb o e nb=>by rw[ak nb,ak (aj e hd0),ak nb,ak nb];exact k0 _ _ e
end
def R_ (a:Adr): Sp:=λvs H Q _=>∃(O:Lab) (k:Nat) (p dx:Addr) (nf ns:Nat) (z:Int),vs=[.ref p,.int nf,.int ns,.int z]/\H p=some (.ins a.fN dx [])/\Lv O H/\O p=none/\1<=nf/\nf<=64/\ns<=64/\1<=z/\z<=64/\∀(x:PA) O' H',x.p=p->PoM a O' H' k x nf ns z (λ_=>none) (λ_=>none)->(∀b o,H b=some o->b≠p->H' b=some o)->(∀b o,H b=some o->O' b=O b)->Q .non H'
def Kx (p:Addr)(H H':Hp): Prop:=∀b o,H b=some o->b≠p->H' b=some o
def Kx.mk {p y dy:Addr}{H H':Hp}{o o':HO}(hy:H y=none)(hdy:H dy=none)(f:∀b u,upd (upd H dy o) y o' b=some u->b≠y->H' b=some u){b:Addr}{u:HO}(e:H b=some u): H' b=some u:=f b u (by rw[ak (aj e hy),ak (aj e hdy)];exact e) (aj e hy)
def B8 {y dy b:Addr}{H:Hp}{o o':HO}(h:upd (upd H dy o) y o' b=none): H b=none:=by
 by_cases c:b=y
 · rw[c,ah] at h;cases h
 · rw[ak c] at h
   by_cases c2:b=dy
   · rw[c2,ah] at h;cases h
   · rw[ak c2] at h;exact h
section
variable [Gn]{a:Adr}{Zz:zu}
abbrev rY (a:Adr): Prop:=jw P w K mg base a.fN 5 ["self","frames","slots","size"] (R_ a) []
def yq (T:Zq a)(jH:pD a)(mq:rX a): rY a:=by
 exists T.y_,["self","frames","slots","size"];rintro⟨O,k',p,dx,nf,ns,z,rfl,hp,L,op,f1,f64,s64,z1,z64,k⟩;left;refine⟨_,(ae (fR (pv 0) (pk jH (aq (pv 1) (ao (pv 3)))) rfl)
     (ae (fR (pv 0) (pk jH (aq (pv 2) (ao (pv 3)))) rfl)
     (ae (fR (pv 0) (pk mq (ao (pv 1))) rfl)
     (af (fR (pv 0) (pv 3) rfl))))),?_⟩
 ext;intro f df hf hdf _;have npf:=aj hp hf;refine⟨f,df,nf,z,rfl,ah,f64,z1,z64,λt1 dt1 l1 d1 H1 ht1 hl1 hd1 a1 a2 a3 a4 fr1=>⟨rfl,?_⟩⟩;have k1:∀{b u},H b=some u->H1 b=some u:=λe=>Kx.mk (p:=p) hf hdf fr1 e;have hp1:=k1 hp;have ht1:=B8 ht1;have hl1:=B8 hl1;have hd1:=B8 hd1;ext;generalize hh:upd H1 p _=H2;have hp2:H2 p=some (.ins a.fN dx [("frame_store",.ref f)]):=by rw[<-hh];exact ah
 have k2:Kx p H1 H2:=λb u e nb=>by rw[<-hh,ak nb];exact e
 clear hh;intro s ds hs hds _;refine⟨s,ds,ns,z,rfl,ah,s64,z1,z64,λt2 dt2 l2 d2 H3 ht2 hl2 hd2 b1 b2 b3 b4 fr2=>⟨rfl,?_⟩⟩;have k3:∀{b u},H2 b=some u->H3 b=some u:=λe=>Kx.mk (p:=p) hs hds fr2 e;have hp3:=k3 hp2;have ht2:=B8 ht2;have hl2:=B8 hl2;have hd2:=B8 hd2;ext;generalize hh:upd H3 p _=H4;have hp4:H4 p=some (.ins a.fN dx [("frame_store",.ref f),("slot_store",.ref s)]):=by rw[<-hh,ah,jg (by exfalso),iK]
 have k4:Kx p H3 H4:=λb u e nb=>by rw[<-hh,ak nb];exact e
 clear hh;intro h dh hh hdh _;refine⟨h,dh,nf,rfl,ah,f1,f64,λhl H5 hhl c1 c2 fr3=>⟨rfl,?_⟩⟩;have k5:∀{b u},H4 b=some u->H5 b=some u:=λe=>Kx.mk (p:=p) hh hdh fr3 e;have hp5:=k5 hp4;have hhl:=B8 hhl;ext;generalize hx:upd (upd H5 p _) p _=H6;have hp6:H6 p=some (.ins a.fN dx (fP ⟨p,f,l1,d1,s,l2,d2,h,hl⟩ z)):=by rw[<-hx,ah,jg (by exfalso),jg (by exfalso),jg (by exfalso),iK,jg (by exfalso),jg (by exfalso),iK]
 have k6:Kx p H5 H6:=λb u e nb=>by rw[<-hx,ak nb,ak nb];exact e
 clear hx;have n1:∀{b},H b=none->b≠p:=λe=>(aj hp e).symm;have n2:∀{b},H2 b=none->b≠p:=λe=>(aj hp2 e).symm;have n4:∀{b},H4 b=none->b≠p:=λe=>(aj hp4 e).symm;have c12:∀{b u},H1 b=some u->b≠p->H4 b=some u:=λe n=>k4 _ _ (k3 (k2 _ _ e n)) n;have c16:∀{b u},H1 b=some u->b≠p->H6 b=some u:=λe n=>k6 _ _ (k5 (c12 e n)) n;have c36:∀{b u},H3 b=some u->b≠p->H6 b=some u:=λe n=>k6 _ _ (k5 (k4 _ _ e n)) n;have no2:∀{b},H2 b=none->H b=none:=λ{b} e=>by
   cases q:H b with
   | none=>rfl
   | some u=>rw[k2 _ _ (k1 q) (n2 e)] at e;cases e
 have no4:∀{b},H4 b=none->H b=none:=λ{b} e=>by
   cases q:H b with
   | none=>rfl
   | some u=>rw[c12 (k1 q) (n4 e)] at e;cases e
 have w1:=c16 a1 (n1 hf);have w2:=c16 a2 (n1 ht1);have w3:=c16 a3 (n1 hl1);have w4:=c16 a4 (n1 hd1);have v1:=c36 b1 (n2 hs);have v2:=c36 b2 (n2 ht2);have v3:=c36 b3 (n2 hl2);have v4:=c36 b4 (n2 hd2);have u1:=k6 _ _ c1 (n4 hh);have u2:=k6 _ _ c2 (n4 hhl);have q1:∀{b c u},H1 b=some u->b≠p->H2 c=none->c≠b:=λe n h=>(aj (k2 _ _ e n) h).symm;have q2:∀{b c u},H1 b=some u->b≠p->H4 c=none->c≠b:=λe n h=>(aj (c12 e n) h).symm;have q3:∀{b c u},H3 b=some u->b≠p->H4 c=none->c≠b:=λe n h=>(aj (k4 _ _ e n) h).symm
 let O':Lab:=λb=>if b=l1\/b=d1 then some (some (k',.fr)) else if b=l2\/b=d2 then some (some (k',.sl)) else if b=h\/b=hl then some (some (k',.hd)) else O b
 have oF:∀b,b=l1\/b=d1->O' b=some (some (k',.fr)):=λb e=>if_pos e;have m1:∀{c},H2 c=none->¬(c=l1\/c=d1):=λe z=>z.elim (q1 a3 (n1 hl1) e) (q1 a4 (n1 hd1) e);have m2:∀{c},H4 c=none->¬(c=l1\/c=d1):=λe z=>z.elim (q2 a3 (n1 hl1) e) (q2 a4 (n1 hd1) e);have m3:∀{c},H4 c=none->¬(c=l2\/c=d2):=λe z=>z.elim (q3 b3 (n2 hl2) e) (q3 b4 (n2 hd2) e);have oS:∀b,b=l2\/b=d2->H2 b=none->O' b=some (some (k',.sl)):=λb e n=>(if_neg (m1 n)).trans (if_pos e);have oH:∀b,b=h\/b=hl->H4 b=none->O' b=some (some (k',.hd)):=λb e n=>(if_neg (m2 n)).trans ((if_neg (m3 n)).trans (if_pos e));have oN:∀{b C dx fs},H6 b=some (.ins C dx fs)->b≠h->O' b=O b:=λe n=>(if_neg λz=>z.elim (i7 e w3 nofun) (i7 e w4 nofun)).trans ((if_neg λz=>z.elim (i7 e v3 nofun) (i7 e v4 nofun)).trans (if_neg λz=>z.elim n (i7 e u2 nofun)));have lv:Lv O' H6:=λb n=>by
   by_cases z:b=p
   · exact⟨_,by rw[z];exact hp6⟩
   by_cases c:H b=none
   · by_cases x1:b=l1\/b=d1
     · exact x1.elim (λx=>⟨_,by rw[x];exact w3⟩) λx=>⟨_,by rw[x];exact w4⟩
     by_cases x2:b=l2\/b=d2
     · exact x2.elim (λx=>⟨_,by rw[x];exact v3⟩) λx=>⟨_,by rw[x];exact v4⟩
     by_cases x3:b=h\/b=hl
     · exact x3.elim (λx=>⟨_,by rw[x];exact u1⟩) λx=>⟨_,by rw[x];exact u2⟩
     exact absurd ((if_neg x1).trans ((if_neg x2).trans ((if_neg x3).trans (L.no c)))) n
   · let⟨u,e⟩:=some_of c
     exact⟨u,c16 (k1 e) z⟩
 have st0:∀{l d:Addr} {n:Nat} {i:Pt},O' l=some i->O' d=some i->H6 l=some (.lst ((tal n λ_=>none).map V.int))->H6 d=some (.dK [])->∃kv X,StX (vw O' i H6) l d n z (λ_=>none) kv X/\∀j x,X j=some x->O' x=some i:=λo1 o2 e1 e2=>⟨[],λ_=>none,⟨HE e1 (.inr o1),HE e2 (.inr o2),aaX,λ_=>rfl,λ_=>rfl,nofun,λ_ _=>rfl⟩,nofun⟩;have e1:=oF l1 (.inl rfl);have e2:=oF d1 (.inr rfl);have e3:=oS l2 (.inl rfl) hl2;have e4:=oS d2 (.inr rfl) hd2;refine k ⟨p,f,l1,d1,s,l2,d2,h,hl⟩ O' H6 rfl ⟨⟨dx,gG hp6 ((oN hp6 (aj hp4 hh)).trans op)⟩,⟨lv,⟨df,t1,dt1,gG w1 ((oN w1 (q2 a1 (n1 hf) hh).symm).trans (L.no hf)),gG w2 ((oN w2 (q2 a2 (n1 ht1) hh).symm).trans (L.no ht1))⟩,⟨f64,z1,z64⟩,e1,e2,st0 e1 e2 w3 w4⟩,⟨lv,⟨ds,t2,dt2,gG v1 ((oN v1 (q3 b1 (n2 hs) hh).symm).trans (L.no (no2 hs))),gG v2 ((oN v2 (q3 b2 (n2 ht2) hh).symm).trans (L.no (no2 ht2)))⟩,⟨s64,z1,z64⟩,e3,e4,st0 e3 e4 v3 v4⟩,⟨lv,oH h (.inl rfl) hh,oH hl (.inr rfl) hhl,f64,dh,_,0,u1,u2,qO,by lia⟩⟩ (λb o e nb=>c16 (k1 e) nb) λb o e=>?_;have nb:∀{c},H c=none->b≠c:=λn=>aj e n;exact(if_neg λz=>z.elim (nb hl1) (nb hd1)).trans ((if_neg λz=>z.elim (nb (no2 hl2)) (nb (no2 hd2))).trans (if_neg λz=>z.elim (nb (no4 hh)) (nb (no4 hhl))))
end
abbrev mL:=Int×Int×Int×Int
def vj (r:mL): List V:=[.int r.1,.int r.2.1,.int r.2.2.1,.int r.2.2.2]
def iz (m t g:Int): Int:=abK (adN g t) (m-1)
abbrev Wy (m:Int)(d:Addr): List (Str×V):=[("many",.int m),("lines",.ref d)]
abbrev KL:=List (Key×V)
def OkM (m:Int): Prop:=m=0\/m=1\/m=2\/m=4\/m=8\/m=16\/m=32\/m=64
structure LnS (H:Hp)(m:Int)(kl:KL)(N:mL->Prop): Prop where
 ik:∃ks:zm,jZ kl ks
 nd:(kl.map (·.1)).Nodup
 at':∀k v,fE kl (.inl k)=some v->∃r t,v=.ref t/\H t=some (.tup (vj r))/\N r/\k=iz m r.1 r.2.1
 rg:∀k v,fE kl (.inl k)=some v->0<=k/\k < 64
 om:OkM m
section
variable {H H':Hp}{t:Addr}{m k:Int}{kl:KL}{N N':mL->Prop}{r:mL}
def LnS.keep (L:LnS H m kl N)(h:∀b xs,H b=some (.tup xs)->H' b=some (.tup xs)): LnS H' m kl N :=
 ⟨L.ik,L.nd,λk v e=>by let⟨r,t,h1,h2,h3⟩:=L.at' k v e;exact ⟨r,t,h1,h _ _ h2,h3⟩,L.rg,L.om⟩
def LnS.mono (L:LnS H m kl N)(h:∀r,N r->N' r): LnS H m kl N' :=
 ⟨L.ik,L.nd,λk v e=>by let⟨r,t,h1,h2,h3,h4⟩:=L.at' k v e;exact ⟨r,t,h1,h2,h r h3,h4⟩,L.rg,L.om⟩
def LY {g t0:Int}(ok:OkM m)(h:0 < m)(h1:0<=t0)(h2:0<=g): 0<=iz m t0 g/\iz m t0 g < 64:=by
 unfold iz;rw[K9 h2 h1,PyProof.Rows.bitAnd_pp (Int.natCast_nonneg _) (by lia)];have:=Nat.and_le_right (n:=((g.toNat ^^^ t0.toNat:Nat):Int).toNat) (m:=(m-1).toNat);unfold OkM at ok;lia
def LnS.len (L:LnS H m kl N): kl.length<=64:=by
 let⟨ks,ek⟩:=L.ik;have e:ks.length=kl.length:=by have:=congrArg Qg ek;simpa using this.symm
 have nd:=sO ek L.nd;have sub:∀k∈ks,k∈(abG 64).map λn:Nat=>(n:Int):=λk hk=>by
   let⟨v,hv⟩:=qZ.mp ((ja ek).mp hk);let⟨a0,a1⟩:=L.rg k v hv;exact Qa.mpr ⟨k.toNat,acB.mpr (by lia),by lia⟩
 have:=nd.length_le_of_subset sub;rw[qa,Qf] at this;lia
def LnS.put (L:LnS H m kl N)(ht:H t=some (.tup (vj r)))(hr:N r)(hp:0<=iz m r.1 r.2.1/\iz m r.1 r.2.1 < 64): LnS H m (putK kl (.inl (iz m r.1 r.2.1)) (.ref t)) N:=by
 let⟨ks,ek⟩:=L.ik;refine⟨?_,?_,λj v e=>?_,λj v e=>?_,L.om⟩
 · cases e:fE kl (.inl (iz m r.1 r.2.1)) with
   | none=>exact⟨ks++[iz m r.1 r.2.1],by unfold jZ;rw[sD _ e,qu,qu,ek];rfl⟩
   | some v=>exact⟨ks,by unfold jZ;rw[tW e];exact ek⟩
 · cases e:fE kl (.inl (iz m r.1 r.2.1)) with
   | none=>exact E1 _ L.nd e
   | some v=>rw[tW e];exact L.nd
 · rw[jA] at e
   by_cases z:j=iz m r.1 r.2.1
   · rw[if_pos (by rw[z])] at e
     cases e;exact⟨r,t,rfl,ht,hr,z⟩
   · rw[if_neg (λw=>z (QC w))] at e
     exact L.at' j v e
 · rw[jA] at e
   by_cases z:j=iz m r.1 r.2.1
   · rw[z];exact hp
   · rw[if_neg (λw=>z (QC w))] at e
     exact L.rg j v e
def LnS.drop (L:LnS H m kl N)(k:Int): LnS H m (h_ kl (.inl k)) N:=by
 let⟨ks,ek⟩:=L.ik;have vd:∀j v,fE (h_ kl (.inl k)) (.inl j)=some v->fE kl (.inl j)=some v:=λj v e=>by
   rw[kr] at e;by_cases z:j=k
   · rw[if_pos (by rw[z])] at e;cases e
   · rw[if_neg (λw=>z (QC w))] at e;exact e
 exact⟨⟨_,pV ek⟩,sG L.nd,λj v e=>L.at' j v (vd j v e),λj v e=>L.rg j v (vd j v e),L.om⟩
end
def Sb {K:qv}{H:Hp}{x y:Addr}{a b c d:Int}{Q:VK}(h1:H x=some (.tup [.int a,.int b]))(h2:H y=some (.tup [.int c,.int d]))(q:Q (.bl (!decide (a=c/\b=d))) H): Uj K (.ref x) (.ref y) H Q:=by
 refine⟨.tuple [.int a,.int b],.tuple [.int c,.int d],.tup (SqT.of h1) (jB K H [a,b]),.tup (SqT.of h2) (jB K H [c,d]),(Tid.SL [a,b]).shaped (by decide),(Tid.SL [c,d]).shaped (by decide),?_,?_⟩
 · simp[SeqAt.noMix,SeqAt.noMixAll]
 · have e:aeO (.tuple [.int a,.int b]) (.tuple [.int c,.int d])=decide (a=c/\b=d):=by
     simp only [aeO,PySem.Spec.sameAll];by_cases h1:a=c<;>by_cases h2:b=d<;>simp[h1,h2]
   rw[e];exact q
def LZ {m:Int}(h:OkM m): inV (.int m) [.int 0,.int 1,.int 2,.int 4,.int 8,.int 16,.int 32,.int 64]=true:=by
 have e:=Bc m [0,1,2,4,8,16,32,64];have e':inV (.int m) [.int 0,.int 1,.int 2,.int 4,.int 8,.int 16,.int 32,.int 64]=decide (m∈[0,1,2,4,8,16,32,64]):=e;rw[e'];unfold OkM at h;simpa using h
def Eu {α:Type}{ks:List α}{i:Nat}{c:α}(h:ks[i]?=some c)(nd:ks.Nodup): c∉ks.take i/\ks.take (i+1)=ks.take i++[c]:=by
 have t1:ks.take (i+1)=ks.take i++[c]:=by rw[qQ,h];rfl
 refine⟨λm=>?_,t1⟩;have nd2:(ks.take (i+1)).Nodup:=List.Sublist.nodup (acR _ _) nd;rw[t1,acW] at nd2;exact nd2.2.2 c m c (by simp) rfl
def HW {r r':mL}(h:vj r=vj r'): r=r':=by
 let⟨a,b,c,d⟩:=r;let⟨a',b',c',d'⟩:=r';simp only [vj,List.cons.injEq,V.int.injEq] at h;let⟨rfl,rfl,rfl,rfl,_⟩:=h;rfl
def F9 {O:Lab}{H:Hp}{b:Addr}{i:Pt}{o:HO}(h:O b=some i): v0 O (upd H b o)=v0 O H:=funext λc=>by
 unfold v0;by_cases z:c=b
 · rw[z,h,if_neg nofun,if_neg nofun]
 · rw[ak z]
structure NrO (a:Adr)(H:Hp)(p d:Addr)(m:Int)(kl:KL): Prop where
 ob:∃dx,H p=some (.ins a.ic dx (Wy m d))
 ln:H d=some (.dK kl)
structure NeM (a:Adr)(O:Lab)(H:Hp)(i:Pt)(p d:Addr)(m:Int)(N:mL->Prop)(J:Option mL): Prop where
 lv:Lv O H
 op:O p=none
 od:O d=some i
 ob:∃dx,H p=some (.ins a.ic dx (Wy m d))
 ln:∃kl,H d=some (.dK kl)/\LnS (v0 O H) m kl N/\∀r,J=some r->∃t,fE kl (.inl (iz m r.1 r.2.1))=some (.ref t)/\v0 O H t=some (.tup (vj r))
structure DrS (O:Lab)(H H':Hp)(i:Pt)(d:Addr)(m:Int)(kl kv:KL)(N bad:mL->Prop)(done:zm): Prop where
 hd:H' d=some (.dK kv)
 ln:LnS (v0 O H') m kv (λr=>N r/\(iz m r.1 r.2.1∈done->¬bad r))
 rest:∀k∉done,fE kv (.inl k)=fE kl (.inl k)
 go:Go1 i O H O H'
section
variable {a:Adr}{O O':Lab}{H H' H2:Hp}{i:Pt}{p d t:Addr}{m c:Int}{kl kv:KL}{N N' bad:mL->Prop}{J:Option mL}{P:zP}{done:zm}{r:mL}
def NeM.oth (S:NeM a O H i p d m N J)(g:Go P O H O' H')(h:¬P i): NeM a O' H' i p d m N J:=by
 let⟨lv,op,od,⟨dx,h1⟩,kl,h2,L,jn⟩:=S;let⟨e1,e2⟩:=g.st p _ h1 λj z=>by rw[op] at z;cases z
 exact⟨g.lv,e2.trans op,g.lb lv od h,⟨dx,e1⟩,kl,(g.st d _ h2 λj z y=>h (by rw[<-qI (z.symm.trans od)];exact y)).1,L.keep (λb xs e=>g.v0 _ _ e),λr e=>by let⟨t,q1,q2⟩:=jn r e;exact ⟨t,q1,g.v0 _ _ q2⟩⟩
def NeM.mono (S:NeM a O H i p d m N J)(h:∀r,N r->N' r): NeM a O H i p d m N' J:=by let⟨kl,e,L,j⟩:=S.ln;exact ⟨S.lv,S.op,S.od,S.ob,kl,e,L.mono h,j⟩
def NeM.jno (S:NeM a O H i p d m N J): NeM a O H i p d m N none:=by let⟨kl,e,L,_⟩:=S.ln;exact ⟨S.lv,S.op,S.od,S.ob,kl,e,L,λ_ z=>(nomatch z)⟩
def LnS.say (L:LnS H m kl N)(h:∀k t r,fE kl (.inl k)=some (.ref t)->H t=some (.tup (vj r))->N r->k=iz m r.1 r.2.1->N' r): LnS H m kl N' :=
 ⟨L.ik,L.nd,λk v e=>by let⟨r,t,h1,h2,h3,h4⟩:=L.at' k v e;exact ⟨r,t,h1,h2,h k t r (by rw[<-h1];exact e) h2 h3 h4,h4⟩,L.rg,L.om⟩
def dropped {k:Int}{v:V}(e:fE (h_ kv (.inl c)) (.inl k)=some v): k≠c:=λz=>by rw[z,kr,if_pos rfl] at e;cases e
def DrS.keep (I:DrS O H H2 i d m kl kv N bad done)(g2:fE kv (.inl c)=some (.ref t))(g3:v0 O H2 t=some (.tup (vj r)))(nb:¬bad r): DrS O H H2 i d m kl kv N bad (done++[c]) :=
 ⟨I.hd,I.ln.say λk t' r' e1 e2 e3 e4=>⟨e3.1,λz=>(q_.mp z).elim e3.2 λz=>by
   rw[e4,qc.mp z,g2] at e1;cases e1;rw[g3] at e2;rw[<-HW (HO.tup.inj (qI e2))];exact nb⟩,λk hk=>I.rest k λz=>hk (QM _ z),I.go⟩
def DrS.drop (I:DrS O H H2 i d m kl kv N bad done)(od:O d=some i): DrS O H (upd H2 d (.dK (h_ kv (.inl c)))) i d m kl (h_ kv (.inl c)) N bad (done++[c]) :=
 ⟨ah,by
   rw[F9 od];exact(I.ln.drop c).say λk t r e1 _ e3 e4=>⟨e3.1,λz=>(q_.mp z).elim e3.2 λz=>absurd (e4.trans (qc.mp z)) (dropped e1)⟩,λk hk=>by
   rw[kr,if_neg (λw=>hk (by rw[QC w];simp))];exact I.rest k λz=>hk (QM _ z),I.go.trans (.put I.go.lv od rfl)⟩
def DrS.fin {ks:zm}(I:DrS O H H2 i d m kl kv N bad ks)(ek:jZ kl ks): LnS (v0 O H2) m kv (λr=>N r/\¬bad r):=I.ln.say λk t r e1 _ e3 e4=>⟨e3.1,e3.2 (by
 rw[<-e4];refine qW λn=>?_;rw[I.rest k n] at e1;exact n ((ja ek).mpr (by rw[e1];rfl)))⟩
end
def Sd (a:Adr): Sp:=λvs H Q E=>∃(p dx:Addr) (m:Int),vs=[.ref p,.int m]/\H p=some (.ins a.ic dx [])/\OkM m/\∀d H',H d=none->NrO a H' p d m []->(∀b u,H b=some u->b≠p->H' b=some u)->Q .non H'
def Wz (a:Adr): Sp:=λvs H Q _=>∃(p d:Addr) (m t g:Int) (kl:KL),vs=[.ref p,.int t,.int g]/\NrO a H p d m kl/\Q (.int (iz m t g)) H
def WB (a:Adr): Sp:=λvs H Q _=>∃(p d:Addr) (m t g:Int) (kl:KL) (N:mL->Prop) (H0:Hp),vs=[.ref p,.int t,.int g]/\NrO a H p d m kl/\Zy H0 H/\LnS H0 m kl N ∧
 (∀H',LnS H0 m kl (λr=>N r/\¬(r.1=t/\r.2.1=g))->Zy H H'->Q .non H')/\(∀x y,N (t,g,x,y)->(∃tt,fE kl (.inl (iz m t g))=some (.ref tt)/\H0 tt=some (.tup (vj (t,g,x,y))))->∀q H',H' q=some (.tup [.int x,.int y])->H q=none->Zy H H'->Q (.ref q) H')
def WC (a:Adr): Sp:=λvs H Q _=>∃O i p d m N J,∃t g f r:Int,vs=[.ref p,.int t,.int g,.int f,.int r]/\NeM a O H i p d m N J/\0<=t/\0<=g/\N (t,g,f,r)/\∀H',Go1 i O H O H'->NeM a O H' i p d m N (if 0 < m then some (t,g,f,r) else none)->Q .non H'
def U1 (a:Adr): Sp:=λvs H Q _=>∃O i p d m N J,∃t g:Int,vs=[.ref p,.int t,.int g]/\NeM a O H i p d m N J/\∀H',Go1 i O H O H'->NeM a O H' i p d m (λr=>N r/\¬(r.1=t/\r.2.1=g)) none->Q .non H'
def SU (a:Adr)(sel:mL->Int): Sp:=λvs H Q _=>∃O i p d m N J,∃x:Int,vs=[.ref p,.int x]/\NeM a O H i p d m N J/\∀H',Go1 i O H O H'->NeM a O H' i p d m (λr=>N r/\¬sel r=x) none->Q .non H'
section
variable [Gn]{a:Adr}{Zz:zu}
abbrev rZ (a:Adr): Prop:=jw P w K mg base a.ic 1 ["self","many"] (Sd a) []
def yr (T:Zq a): rZ a:=by
 exists T.Aa,["self","many"];rintro⟨p,dx,m,rfl,hp,ok,k1⟩;left;refine⟨_,(ae (cG (ct vP (pv 1) (eX (v:=.ref a.nO) (by rfl) T.d5 rfl)) (af uq) bb)
     (ae (fR (pv 0) (pv 1) rfl)
     (af (fR (pv 0) oZ rfl)))),?_⟩
 have qs:=T.Rt H;symm;rw[if_pos rfl,LZ ok];symm;intro d hd;have hdp:d≠p:=λz=>by rw[z,ah] at hd;cases hd
 have hd0:H d=none:=by rw[ak hdp] at hd;exact hd
 symm;rw[iK,jg (by exfalso),iK];refine k1 d _ hd0 ⟨⟨dx,ah⟩,by rw[ak hdp];exact ah⟩ λb u eb nb=>?_;rw[ak nb,ak (aj eb hd0),ak nb];exact eb
abbrev jI (a:Adr): Prop:=cR P w K mg base a.ic 1 "place_for" ["self","task","page"] (Wz a) []
def wW (T:Zq a): jI a:=by
 exists T.xY,["self","task","page"];rintro⟨p,d,m,t,g,kl,rfl,S,k⟩;left;refine⟨_,(af (bq (dL AY (dL TU (pv 2) (pv 1)) (dL ji (fl (pv 0)) ai)))),?_⟩;let⟨⟨dx,h1⟩,h2⟩:=S;symm;exact k
abbrev rc (a:Adr): Prop:=cR P w K mg base a.ic 2 "found" ["self","task","page"] (WB a) []
def DC (T:Zq a)(gq:jI a): rc a:=by
 exists T.Fk,["self","task","page","line"];rintro⟨p,d,m,t,g,kl,N,H0,rfl,S,s0,L,k1,k2⟩;left;refine⟨_,(ae (dM 3 nD (GA hr.u1 (fl (pv 0)) (pm (pv 0) gq (aq (pv 1) (ao (pv 2)))) ⟨rfl,rfl,rfl,rfl⟩))
     (ae (cG (PW.pt (Sz (ct A0 (pv 3) jS) (Mi (ct (IK hr.units) (oX A5 (pv 3) vM (pI ai)) (fM (aq (pv 1) (ao (pv 2)))))))) (af (bq jS)) bb)
     (af (bq (oX A5 (pv 3) (pI ai) vM))))),?_⟩
 have SA:=S;let⟨⟨dx,h1⟩,h2⟩:=S;have gg:=kg.k (k:=Qn (iz m t g)) h2;have id1:IsD H d:=.inl ⟨kl,Rd.of h2⟩;cases e0:fE kl (.inl (iz m t g)) with
 | none =>
   rw[e0] at gg;symm;exact k1 _ (L.say λk t r e1 _ h5 h6=>⟨h5,λz=>by rw[h6,z.1,z.2,e0] at e1;cases e1⟩) (.refl _)
 | some v =>
   let⟨r,tt,rfl,q0,nr,_⟩:=L.at' _ _ e0;have q3:=s0 _ _ q0;rw[e0] at gg;symm;refine⟨λq=>absurd q.2 (show ¬HT.sIx 4 4 (some 2)=4 by decide),λu hu=>?_⟩;have ec:yU (vj r) none (some 2)=[.int r.1,.int r.2.1]:=rfl;rw[ec];have s1:Zy H (upd H u (.tup [.int r.1,.int r.2.1])):=cT hu;have e1:upd H u (.tup [.int r.1,.int r.2.1]) u=some (.tup [.int r.1,.int r.2.1]):=ah;generalize upd H u (.tup [.int r.1,.int r.2.1])=H1 at s1 e1;symm;intro v hv;have s2:Zy H1 (upd H1 v (.tup [.int t,.int g])):=cT hv;have e2:upd H1 v (.tup [.int t,.int g]) v=some (.tup [.int t,.int g]):=ah;generalize upd H1 v (.tup [.int t,.int g])=H2 at s2 e2;refine Sb (s2 _ _ e1) e2 ?_;symm;by_cases c:r.1=t/\r.2.1=g
   · rw[decide_eq_true c]
     have q32:=s2 _ _ (s1 _ _ q3);symm;have nn:∀{w},H2 w=none->H w=none:=λ{w} h=>by
       cases e:H w with
       | none=>rfl
       | some u=>rw[s2 _ _ (s1 _ _ e)] at h;cases h
     refine⟨λq=>absurd q.1 (show ¬HT.sIx 4 0 (some 2)=0 by decide),λw hw=>?_⟩;exact k2 _ _ (by rw[<-c.1,<-c.2];exact nr) ⟨tt,e0,by rw[<-c.1,<-c.2];exact q0⟩ w _ ah (nn hw) ((s1.trans s2).trans (cT hw))
   · rw[decide_eq_false c]
     symm;exact k1 _ (L.say λk t' r' e1 h4 h5 h6=>⟨h5,λz=>c (by
       rw[h6,z.1,z.2,e0] at e1;cases e1;rw[q0] at h4;rw[HW (HO.tup.inj (qI h4))];exact z)⟩) (s1.trans s2)
abbrev yP (a:Adr): Prop:=cR P w K mg base a.ic 2 "note" ["self","task","page","frame","rights"] (WC a) []
def F_ (T:Zq a)(gq:jI a): yP a:=by
 exists T.Hm,["self","task","page","frame","rights"];rintro⟨O,i,p,d,m,N,J,t,g,f',r,rfl,S,t0,g0,n,k⟩;left;refine⟨_,(af (cG (ct Gu (fl (pv 0)) ai) (af (j_ hr.u1 (fl (pv 0)) (pm (pv 0) gq (aq (pv 1) (ao (pv 2)))) (fM (aq (pv 1) (aq (pv 2) (aq (pv 3) (ao (pv 4)))))) rfl)) bb)),?_⟩;let⟨lv,op,od,⟨dx,h1⟩,kl,h2,L,jn⟩:=S;have npd:p≠d:=i7 h1 h2 nofun
 have l64:=L.len;symm;refine dI (λc=>?_) (λc=>?_)
 · symm
   intro u hu;have s1:Zy H (upd H u (.tup (vj (t,g,f',r)))):=cT hu;have e1:upd H u (.tup (vj (t,g,f',r))) u=some (.tup (vj (t,g,f',r))):=ah;show Tz 0 _ (upd H u (.tup (vj (t,g,f',r)))) _;generalize upd H u (.tup (vj (t,g,f',r)))=H1 at s1 e1;have h12:=s1 _ _ h1;have h22:=s1 _ _ h2;have S1:NrO a H1 p d m kl:=⟨⟨dx,h12⟩,h22⟩;have dp:=sE.k (k:=Qn (iz m t g)) (v:=V.ref u) h22 (by rw[sizeLine_eq];lia);have gx:Go1 i O H O (upd H1 d (.dK (putK kl (.inl (iz m t g)) (.ref u)))):=.trans (.same lv s1) (.put (lv.same s1) od rfl);symm;refine k _ gx ⟨gx.lv,op,od,⟨dx,by rw[ak npd];exact h12⟩,_,ah,?_,?_⟩
   · rw[F9 od]
     exact(L.keep λb xs e=>v0S s1 _ _ e).put (r:=(t,g,f',r)) (gG e1 (lv.no hu)) n (LY L.om c t0 g0)
   · rw[if_pos c,F9 od]
     intro r' e;cases e;exact⟨u,by rw[jA,if_pos rfl],gG e1 (lv.no hu)⟩
 · symm
   rw[if_neg c] at k;exact k _ (.same lv (.refl _)) ⟨lv,op,od,⟨dx,h1⟩,kl,h2,L,λ_ z=>(nomatch z)⟩
abbrev uH (a:Adr): Prop:=cR P w K mg base a.ic 3 "forget" ["self","task","page"] (U1 a) []
def B9 (T:Zq a)(jJ:rc a)(gq:jI a): uH a:=by
 exists T.C2,["self","task","page"];rintro⟨O,i,p,d,m,N,J,t,g,rfl,S,k⟩;left;refine⟨_,(af (cG (ct vK (pm (pv 0) jJ (aq (pv 1) (ao (pv 2)))) jS) (af (aF (mV (fl (pv 0)) (pm (pv 0) gq (aq (pv 1) (ao (pv 2)))) ⟨rfl,rfl,rfl,rfl⟩))) bb)),?_⟩;let⟨lv,op,od,⟨dx,h1⟩,kl,h2,L,jn⟩:=S;have npd:p≠d:=i7 h1 h2 nofun
 have SA:NrO a H p d m kl:=⟨⟨dx,h1⟩,h2⟩;symm;refine⟨v0H (O:=O),L,λH1 L1 s1=>?_,λx y nr ev q H1 hq _ s1=>?_⟩
 · symm
   exact k _ (.same lv s1) ⟨lv.same s1,op,od,⟨dx,s1 _ _ h1⟩,kl,s1 _ _ h2,L1.keep (λb xs e=>v0S s1 _ _ e),λ_ z=>(nomatch z)⟩
 · let⟨_,ev,_⟩:=ev
   have S1:NrO a H1 p d m kl:=⟨⟨dx,s1 _ _ h1⟩,s1 _ _ h2⟩;have h12:=s1 _ _ h1;have h22:=s1 _ _ h2;have id1:IsD H1 d:=.inl ⟨kl,Rd.of h22⟩;have kn:V.int (iz m t g)=kV (Qn (iz m t g):Key):=rfl;have gx:Go1 i O H O (upd H1 d (.dK (h_ kl (.inl (iz m t g))))):=.trans (.same lv s1) (.put (lv.same s1) od rfl);symm;refine k _ gx ⟨gx.lv,op,od,⟨dx,by rw[ak npd];exact h12⟩,_,ah,?_,λ_ z=>(nomatch z)⟩;rw[F9 od];exact((L.keep λb xs e=>v0S s1 _ _ e).drop _).say λj t' r e1 _ h5 h6=>⟨h5,λz=>dropped e1 (by rw[h6,z.1,z.2])⟩
abbrev nj (a:Adr): Prop:=cR P w K mg base a.ic 1 "forget_task" ["self","task"] (SU a (λr=>r.1)) []
def uh (T:Zq a): nj a:=by
 exists T.uX,["self","task","place"];rintro⟨O,j,p,d,m,N,J,x,rfl,S,k⟩;left;refine⟨_,(af (fo (gP (kA (uR hr.hd) (by rfl) T.eN PyProof.Rows.Boot.«list» (ao (fl (pv 0))))) (gn 2 nD)
     (af (cG (ct gM (hZ iI (fF hr.u1 (fl (pv 0)) (pv 2) (λ_ _=>rfl)) ai) (pv 1)) (af (aF (mV (fl (pv 0)) (pv 2) ⟨rfl,rfl,rfl,rfl⟩))) bb)))),?_⟩
 let⟨lv,op,od,⟨dx,h1⟩,kl,h2,L,jn⟩:=S;let⟨ks,ek⟩:=L.ik;have kl':ks.length=kl.length:=by have:=congrArg Qg ek;simpa using this.symm
 have l64:=L.len;have knd:=sO ek L.nd;symm;intro q hq;have s1:Zy H (upd H q (.lst (ks.map V.int))):=cT hq;have e1:upd H q (.lst (ks.map V.int)) q=some (.lst (ks.map V.int)):=ah;generalize upd H q (.lst (ks.map V.int))=H1 at s1 e1;have oq:=lv.no hq;symm
 let Iv1:L2.Lv:=λi σ H'=>Bx (∃(v:zJ) (kv:KL),σ=[some (.ref p),some (.int x),v]/\DrS O H1 H' j d m kl kv N (λr=>r.1=x) (ks.take i))
 refine iq (xs:=ks.map V.int) Iv1 ⟨_,kl,rfl,s1 _ _ h2,(L.keep λb xs e=>v0S s1 _ _ e).mono λr h=>⟨h,λz=>nomatch z⟩,λ_ _=>rfl,.same (lv.same s1) (.refl _)⟩ (λi σ H' _ q'=>by let⟨_,_,_,w⟩:=q'.o;exact Zx.of (w.go.st _ _ e1 λj z=>by rw[oq] at z;cases z).1) ?_ ?_
 · intro i v σ H2 hi;refine Bx.el ?_;rintro⟨v1,kv,rfl,I⟩
   let⟨c,rfl,hc⟩:=g_ hi;let⟨nc,tk⟩:=Eu hc knd;have hp2:=(I.go.st _ _ (s1 _ _ h1) λj z=>by rw[op] at z;cases z).1;have hd2:=I.hd;obtain⟨v0,e0⟩:∃v,fE kv (.inl c)=some v:=by
     rw[I.rest c nc];exact qZ.mp ((ja ek).mp (qw hc))
   let⟨r,t,rfl,g0,nr,_⟩:=I.ln.at' _ _ e0;have g3:=v0H _ _ g0;have gg:=kg.k (k:=Qn c) hd2;rw[e0] at gg;have id2:IsD H2 d:=.inl ⟨kv,Rd.of hd2⟩;have kn:V.int c=kV (Qn c:Key):=rfl;symm;refine d6 (λe=>?_) (λe=>?_)
   · have I3:=I.drop (c:=c) od
     have e3:=I3.hd;symm;exact⟨_,_,rfl,by rw[tk];exact I3⟩
   · exact⟨_,_,rfl,by rw[tk];exact I.keep e0 g0 e⟩
 · intro σ H2;refine Bx.el ?_;rintro⟨v1,kv,rfl,I⟩
   rw[qa,qN] at I;exact k H2 (.trans (.same lv s1) I.go) ⟨I.go.lv,op,od,⟨dx,(I.go.st _ _ (s1 _ _ h1) λj z=>by rw[op] at z;cases z).1⟩,kv,I.hd,I.fin ek,λ_ z=>(nomatch z)⟩
abbrev jX (a:Adr): Prop:=cR P w K mg base a.ic 1 "forget_frame" ["self","frame"] (SU a (λr=>r.2.2.1)) []
def tH (T:Zq a): jX a:=by
 exists T.ud,["self","frame","place"];rintro⟨O,j,p,d,m,N,J,x,rfl,S,k⟩;left;refine⟨_,(af (fo (gP (kA (uR hr.hd) (by rfl) T.eN PyProof.Rows.Boot.«list» (ao (fl (pv 0))))) (gn 2 nD)
     (af (cG (ct gM (hZ iI (fF hr.u1 (fl (pv 0)) (pv 2) (λ_ _=>rfl)) ai) (pv 1)) (af (aF (mV (fl (pv 0)) (pv 2) ⟨rfl,rfl,rfl,rfl⟩))) bb)))),?_⟩
 let⟨lv,op,od,⟨dx,h1⟩,kl,h2,L,jn⟩:=S;let⟨ks,ek⟩:=L.ik;have kl':ks.length=kl.length:=by have:=congrArg Qg ek;simpa using this.symm
 have l64:=L.len;have knd:=sO ek L.nd;symm;intro q hq;have s1:Zy H (upd H q (.lst (ks.map V.int))):=cT hq;have e1:upd H q (.lst (ks.map V.int)) q=some (.lst (ks.map V.int)):=ah;generalize upd H q (.lst (ks.map V.int))=H1 at s1 e1;have oq:=lv.no hq;symm
 let Iv1:L2.Lv:=λi σ H'=>Bx (∃(v:zJ) (kv:KL),σ=[some (.ref p),some (.int x),v]/\DrS O H1 H' j d m kl kv N (λr=>r.2.2.1=x) (ks.take i))
 refine iq (xs:=ks.map V.int) Iv1 ⟨_,kl,rfl,s1 _ _ h2,(L.keep λb xs e=>v0S s1 _ _ e).mono λr h=>⟨h,λz=>nomatch z⟩,λ_ _=>rfl,.same (lv.same s1) (.refl _)⟩ (λi σ H' _ q'=>by let⟨_,_,_,w⟩:=q'.o;exact Zx.of (w.go.st _ _ e1 λj z=>by rw[oq] at z;cases z).1) ?_ ?_
 · intro i v σ H2 hi;refine Bx.el ?_;rintro⟨v1,kv,rfl,I⟩
   let⟨c,rfl,hc⟩:=g_ hi;let⟨nc,tk⟩:=Eu hc knd;have hp2:=(I.go.st _ _ (s1 _ _ h1) λj z=>by rw[op] at z;cases z).1;have hd2:=I.hd;obtain⟨v0,e0⟩:∃v,fE kv (.inl c)=some v:=by
     rw[I.rest c nc];exact qZ.mp ((ja ek).mp (qw hc))
   let⟨r,t,rfl,g0,nr,_⟩:=I.ln.at' _ _ e0;have g3:=v0H _ _ g0;have gg:=kg.k (k:=Qn c) hd2;rw[e0] at gg;have id2:IsD H2 d:=.inl ⟨kv,Rd.of hd2⟩;have kn:V.int c=kV (Qn c:Key):=rfl;symm;refine d6 (λe=>?_) (λe=>?_)
   · have I3:=I.drop (c:=c) od
     have e3:=I3.hd;symm;exact⟨_,_,rfl,by rw[tk];exact I3⟩
   · exact⟨_,_,rfl,by rw[tk];exact I.keep e0 g0 e⟩
 · intro σ H2;refine Bx.el ?_;rintro⟨v1,kv,rfl,I⟩
   rw[qa,qN] at I;exact k H2 (.trans (.same lv s1) I.go) ⟨I.go.lv,op,od,⟨dx,(I.go.st _ _ (s1 _ _ h1) λj z=>by rw[op] at z;cases z).1⟩,kv,I.hd,I.fin ek,λ_ z=>(nomatch z)⟩
end
abbrev mf (sh pl nr ss d:Addr)(w:Int): List (Str×V):=[("shape",.ref sh),("pool",.ref pl),("near",.ref nr),("shares",.ref ss),("spaces",.ref d),("walks",.int w)]
structure Ms where
 (ns:zm) (low:Int) (nf nz:Nat) (C D:Rm) (ts L:zm) (T:Int->Mf) (w m:Int) (N:mL->Prop) (J:Option mL) (Ln:zq) (S:ShM)
structure Mx where
 (dx sh:Addr) (pl:PA) (nr ln ss kd d:Addr)
def MP (k:Nat): Pt->Prop:=λi=>∃j,i=some (k,j)
structure MmI (a:Adr)(O:Lab)(H:Hp)(k:Nat)(p:Addr)(σ:Ms)(x:Mx)(z_:zv): Prop where
 lv:Lv O H
 gd:Good σ.ns σ.low
 ob:O p=some (pt k .mem)/\H p=some (.ins a.fq x.dx (mf x.sh x.pl.p x.nr x.ss x.d σ.w))
 sh:u_ a.eK (v0 O H) x.sh σ.ns σ.low
 pl:PoM a O H k x.pl σ.nf σ.nz (plc σ.low) σ.C σ.D
 nr:NeM a O H (pt k .nr) x.nr x.ln σ.m σ.N σ.J
 ss:SsM a O H k x.ss x.kd σ.Ln σ.S
 hd:O x.d=some (pt k .sd)/\H x.d=some (.dK z_)
 ks:z_.map (·.1)=σ.ts.map Qn
 nd:σ.ts.Nodup
 t0:∀t∈σ.ts,0<=t
 l64:σ.L.length < 64
 sp:∀t∈σ.ts,∃y,fE z_ (.inl t)=some (.ref y)/\SpM a O H (pt k (.sp t)) y σ.ns σ.low t σ.L (σ.T t)
def Ms.at (σ:Ms)(t:Int)(M:Mf): Ms:={ σ with T:=λk=>if k=t then M else σ.T k }
def fgN (g:Lf)(N:mL->Prop): mL->Prop:=λr=>N r/\∀q f,g=.held q f->r.2.2.1≠f
def chL (σ:Ms)(f:Option (Int×List Int)->Option (Int×List Int))(g:Lf): Ms:={ σ with C:=(Jw σ.C σ.D (f (roomOf σ.C σ.D g)) g).1,D:=(Jw σ.C σ.D (f (roomOf σ.C σ.D g)) g).2,N:=fgN g σ.N,J:=none }
def wX:Option (Int×List Int)->Option (Int×List Int):=aeS λx=>(x.1+1,x.2)
def se:Option (Int×List Int)->Option (Int×List Int):=λo=>o.bind λx=>Er x.1 x.2
def InR (σ:Ms)(g:Lf): Prop:=(g.kind=1\/g.kind=2->roomOf σ.C σ.D g≠none)/\g.kind≠3
section
variable {a:Adr}{O O':Lab}{H H':Hp}{k:Nat}{p y:Addr}{σ:Ms}{x:Mx}{z_:zv}{P:zP}{C' D':Rm}{T':Int->Mf}{w' t:Int}{N':mL->Prop}{J':Option mL}{M':Mf}{S':ShM}
def MmI.gen (M:MmI a O H k p σ x z_)(g:Go P O H O' H')(hs:¬P (pt k .sd))(ob:O' p=some (pt k .mem)/\H' p=some (.ins a.fq x.dx (mf x.sh x.pl.p x.nr x.ss x.d w')))(pl:PoM a O' H' k x.pl σ.nf σ.nz (plc σ.low) C' D')(nr:NeM a O' H' (pt k .nr) x.nr x.ln σ.m N' J')(ss:SsM a O' H' k x.ss x.kd σ.Ln S')
   (sp:∀t∈σ.ts,∀y,fE z_ (.inl t)=some (.ref y)->SpM a O H (pt k (.sp t)) y σ.ns σ.low t σ.L (σ.T t)->SpM a O' H' (pt k (.sp t)) y σ.ns σ.low t σ.L (T' t)):MmI a O' H' k p { σ with C:=C',D:=D',T:=T',w:=w',N:=N',J:=J',S:=S' } x z_ :=
 ⟨g.lv,M.gd,ob,M.sh.same g.v0,pl,nr,ss,(g.kp M.hd.1 hs M.hd.2).symm,M.ks,M.nd,M.t0,M.l64,λt ht=>by let⟨y,h1,h2⟩:=M.sp t ht;exact ⟨y,h1,sp t ht y h1 h2⟩⟩
def PoM.oth {x:PA}{nf ns:Nat}{z:Int}{C D:Rm}(M:PoM a O H k x nf ns z C D)(g:Go P O H O' H')(h:∀i,PP k i->¬P i): PoM a O' H' k x nf ns z C D:=⟨M.ob.imp λ_ e=>g.v0 _ _ e,M.fr.oth g (h _ (.inl rfl)),M.sl.oth g (h _ (.inr (.inl rfl))),M.hd.oth g (h _ (.inr (.inr rfl)))⟩
def Kv {j:Pj}(h:j≠.fr/\j≠.sl/\j≠.hd): ∀i,PP k i->¬i=pt k j:=λi e z=>by subst z;rcases e with e | e | e<;>cases e<;>simp at h
def Kw {j:Pj}(h:j≠.ss/\∀s,j≠.so s/\j≠.lo s): ∀i,SP k i->¬i=pt k j:=λi e z=>by subst z;rcases e with e | ⟨s,e | e⟩<;>cases e<;>first | exact h.1 rfl | exact(h.2 s).1 rfl | exact(h.2 s).2 rfl
def MmI.part {j:Pj}(M:MmI a O H k p σ x z_)(g:Go1 (pt k j) O H O' H')(h1:j≠.fr/\j≠.sl/\j≠.hd)(h2:j≠.ss/\∀s,j≠.so s/\j≠.lo s)(h3:j≠.sd)(ob:O' p=some (pt k .mem)/\H' p=some (.ins a.fq x.dx (mf x.sh x.pl.p x.nr x.ss x.d w')))(nr:NeM a O' H' (pt k .nr) x.nr x.ln σ.m N' J')
   (sp:∀t∈σ.ts,∀y,fE z_ (.inl t)=some (.ref y)->SpM a O H (pt k (.sp t)) y σ.ns σ.low t σ.L (σ.T t)->SpM a O' H' (pt k (.sp t)) y σ.ns σ.low t σ.L (T' t)):MmI a O' H' k p { σ with T:=T',w:=w',N:=N',J:=J' } x z_/\Go (MP k) O H O' H' :=
 ⟨M.gen g (λz=>h3 (by cases z;rfl)) ob (M.pl.oth g (Kv h1)) nr (M.ss.oth g (Kw h2)) sp,g.mono λ_ e=>⟨_,e⟩⟩
def MmI.same (M:MmI a O H k p σ x z_)(s:Zy H H'): MmI a O H' k p σ x z_ :=
 M.gen (P:=λ_=>False) (.same M.lv s) id ⟨M.ob.1,s _ _ M.ob.2⟩ (M.pl.same s) (M.nr.oth (P:=λ_=>False) (.same M.lv s) id) (M.ss.same s) λ_ _ _ _ S=>S.same s
def MmI.pool (M:MmI a O H k p σ x z_)(P':PoM a O' H' k x.pl σ.nf σ.nz (plc σ.low) C' D')(g:Go (PP k) O H O' H'): MmI a O' H' k p { σ with C:=C',D:=D' } x z_/\Go (MP k) O H O' H':=by
 have n:∀{j},j≠.fr/\j≠.sl/\j≠.hd->¬PP k (pt k j):=λh z=>Kv h _ z rfl;refine⟨M.gen g (n ⟨nofun,nofun,nofun⟩) (g.kp M.ob.1 (n ⟨nofun,nofun,nofun⟩) M.ob.2).symm P' (M.nr.oth g (n ⟨nofun,nofun,nofun⟩)) (M.ss.oth g λi e z=>?_) λ_ _ _ _ S=>S.oth g (n ⟨nofun,nofun,nofun⟩),g.mono λi e=>?_⟩
 · rcases e with rfl | ⟨s,rfl | rfl⟩<;>(rcases z with z | z | z<;>cases z)
 · rcases e with e | e | e<;>exact⟨_,e⟩
def MmI.shr (M:MmI a O H k p σ x z_)(ss:SsM a O' H' k x.ss x.kd σ.Ln S')(g:Go (SP k) O H O' H'): MmI a O' H' k p { σ with S:=S' } x z_/\Go (MP k) O H O' H':=by
 have n:∀{j},(j≠.ss/\∀s,j≠.so s/\j≠.lo s)->¬SP k (pt k j):=λh z=>Kw h _ z rfl;have q:∀{j:Pj},(∀s,j≠.so s/\j≠.lo s)->j≠.ss->¬SP k (pt k j):=λh1 h2=>n ⟨h2,h1⟩;refine⟨M.gen g (q (λ_=>⟨nofun,nofun⟩) nofun) (g.kp M.ob.1 (q (λ_=>⟨nofun,nofun⟩) nofun) M.ob.2).symm (M.pl.oth g λi e z=>?_) (M.nr.oth g (q (λ_=>⟨nofun,nofun⟩) nofun)) ss λ_ _ _ _ S=>S.oth g (q (λ_=>⟨nofun,nofun⟩) nofun),g.mono λi e=>?_⟩
 · rcases e with rfl | rfl | rfl<;>(rcases z with z | ⟨s,z | z⟩<;>cases z)
 · rcases e with e | ⟨s,e | e⟩<;>exact⟨_,e⟩
def MmI.near (M:MmI a O H k p σ x z_)(g:Go1 (pt k .nr) O H O' H')(N:NeM a O' H' (pt k .nr) x.nr x.ln σ.m N' J'): MmI a O' H' k p { σ with N:=N',J:=J' } x z_/\Go (MP k) O H O' H' :=
 M.part g ⟨nofun,nofun,nofun⟩ ⟨nofun,λ_=>⟨nofun,nofun⟩⟩ nofun (g.kp M.ob.1 nofun M.ob.2).symm N λ_ _ _ _ S=>S.oth g nofun
def MmI.wY (M:MmI a O H k p σ x z_)(h:∀r,σ.N r->N' r): MmI a O H k p { σ with N:=N' } x z_:={ M with nr:=M.nr.mono h }
def MmI.jno (M:MmI a O H k p σ x z_): MmI a O H k p { σ with J:=none } x z_:={ M with nr:=M.nr.jno }
def MmI.task (M:MmI a O H k p σ x z_)(hy:fE z_ (.inl t)=some (.ref y))(S:SpM a O' H' (pt k (.sp t)) y σ.ns σ.low t σ.L M')(g:Go1 (pt k (.sp t)) O H O' H'): MmI a O' H' k p (σ.at t M') x z_/\Go (MP k) O H O' H':=by
 refine M.part g ⟨nofun,nofun,nofun⟩ ⟨nofun,λ_=>⟨nofun,nofun⟩⟩ nofun (g.kp M.ob.1 nofun M.ob.2).symm (M.nr.oth g nofun) λt' _ y' hy' S'=>?_
 by_cases e:t'=t
 · subst e
   rw[hy] at hy';cases hy';exact S.vb λn=>by rw[if_pos rfl]
 · rw[if_neg e]
   exact S'.oth g λz=>e (by cases z;rfl)
def MmI.walk (M:MmI a O H k p σ x z_): MmI a O (upd H p (.ins a.fq x.dx (mf x.sh x.pl.p x.nr x.ss x.d w'))) k p { σ with w:=w' } x z_/\Go (MP k) O H O (upd H p (.ins a.fq x.dx (mf x.sh x.pl.p x.nr x.ss x.d w'))) :=
 have g:Go1 (pt k .mem) O H O (upd H p (.ins a.fq x.dx (mf x.sh x.pl.p x.nr x.ss x.d w'))):=.put M.lv M.ob.1 rfl
 M.part g ⟨nofun,nofun,nofun⟩ ⟨nofun,λ_=>⟨nofun,nofun⟩⟩ nofun ⟨M.ob.1,ah⟩ (M.nr.oth g nofun) λ_ _ _ _ S=>S.oth g nofun
def MmI.vb {T':Int->Mf}(M:MmI a O H k p σ x z_)(h:∀t∈σ.ts,T' t=σ.T t): MmI a O H k p { σ with T:=T' } x z_:={ M with sp:=λt ht=>by let⟨y,h1,h2⟩:=M.sp t ht;exact ⟨y,h1,by rw[show (⟨σ.ns,σ.low,σ.nf,σ.nz,σ.C,σ.D,σ.ts,σ.L,T',σ.w,σ.m,σ.N,σ.J,σ.Ln,σ.S⟩:Ms).T t=σ.T t from h t ht];exact h2⟩ }
def Lv.new {b:Addr}{u:HO}(L:Lv O H)(h:H b=none)(e:H' b=some u): v0 O H' b=some u:=gG e (L.no h)
end
section
variable [Gm]{a:Adr}
def SW (T:Zq a)(g:Lf): Qe K (.ref (g.cls a)) (.ref a.dG)=some (decide (g.kind=0)):=by
 cases g
 · exact T.aM
 · exact T.bh
 · exact T.bN
 · exact T.aO
def SX {g:Lf}(h:g.kind=3): ∃r s i,g=.named r s i:=by cases g<;>first | exact⟨_,_,_,rfl⟩ | cases h
def Ew (T:Zq a)(g:Lf): Qe K (.ref (g.cls a)) (.ref a.dH)=some (decide (g.kind=3)):=by
 cases g
 · exact T.aN
 · exact T.bj
 · exact T.bO
 · exact T.aP
end
def U2 (a:Adr): Sp:=λvs H Q E=>∃O k p σ x z_ t,vs=[.ref p,.int t]/\MmI a O H k p σ x z_/\(t∉σ.ts->E (.ref a.fH) none H)/\(t∈σ.ts->∀y,fE z_ (.inl t)=some (.ref y)->Q (.ref y) H)
def Ga (a:Adr): Sp:=λvs H Q _=>∃O k p σ x z_,vs=[.ref p]/\MmI a O H k p σ x z_/\Q (.int (((tal σ.nf σ.C).count 0:Nat)+((tal σ.nz σ.D).count 0:Nat):Int)) H
def WD (a:Adr): Sp:=λvs H Q _=>∃O k p σ x z_ y g,vs=[.ref p,.ref y]/\MmI a O H k p σ x z_/\iC a (v0 O H) y g/\g.kind≠3/\∀y',iC a (v0 O H) y' g->Q (.ref y') H
def WG (a:Adr): Sp:=λvs H Q _=>∃O k p σ x z_ y g,vs=[.ref p,.ref y]/\MmI a O H k p σ x z_/\iC a H y g/\∀H',MmI a O H' k p { σ with N:=fgN g σ.N,J:=none } x z_->Go (MP k) O H O H'->Q .non H'
def WH (a:Adr)(f:Option (Int×List Int)->Option (Int×List Int)): Sp:=λvs H Q _=>∃O k p σ x z_ y g,vs=[.ref p,.ref y]/\MmI a O H k p σ x z_/\iC a (v0 O H) y g/\InR σ g/\∀H',MmI a O H' k p (chL σ f g) x z_->Go (MP k) O H O H'->Q .non H'
section
variable [Gn]{a:Adr}{Zz:zu}
abbrev iZ (a:Adr): Prop:=ZY P w K mg base 1 "space_of" ["memory","task"] (U2 a) []
def HX (T:Zq a): iZ a:=by
 exists T.Jj,["memory","task"];rintro⟨O,k',p,σ',x,z_,t,rfl,M,k0,k1⟩;left;refine⟨_,(ae (cG (ct (pc hr.u1) (pv 1) (fl (pv 0))) (af (pxr (ao aD))) bb)
     (af (bq (fF hr.u1 (fl (pv 0)) (pv 1) (λ_ _=>rfl))))),?_⟩
 have h1:=M.ob.2;have gg:=kg.k (k:=Qn t) M.hd.2;by_cases c:t∈σ'.ts
 · let⟨y,hv,_⟩:=M.sp t c
   rw[hv] at gg;ext;exact k1 c y hv
 · have hv:fE z_ (.inl t)=none:=by
     cases e:fE z_ (.inl t) with
     | none=>rfl
     | some v=>exact absurd ((ja (show jZ z_ σ'.ts from M.ks)).mpr (by rw[e];rfl)) c
   rw[hv] at gg;ext;exact k0 c
abbrev yQ (a:Adr): Prop:=ZY P w K mg base 4 "room_left" ["memory"] (Ga a) []
def Gb (T:Zq a)(kG:tq a): yQ a:=by
 exists T.Hu,["memory"];rintro⟨O,k',p,σ',x,z_,rfl,M,k⟩;left;refine⟨_,(af (bq (pm0 (fl (pv 0)) kG))),?_⟩;have h1:=M.ob.2;have P:=M.pl;let⟨dx,h2⟩:=P.o1;symm;exact k
abbrev nq (a:Adr): Prop:=ZY P w K mg base 4 "content_leaf" ["memory","leaf"] (WD a) []
def As (T:Zq a)(oA:uy a): nq a:=by
 exists T.BD,["memory","leaf"];rintro⟨O,k',p,σ',x,z_,y,g,rfl,M,lf0,kd,k⟩;left;refine⟨_,(ae (cG (g9 (isi (aq (pv 1) (ao (eX (v:=.ref a.dH) (by rfl) T.dJ rfl))))) (af (bq (pm (fl (pv 0)) oA (aq (fl (pv 1)) (ao (fl (pv 1))))))) bb)
     (af (bq (pv 1)))),?_⟩
 have lf:=lf0.same v0H;have ty:=lf.ty T;have kn:=Ew T g;ext;exact k y lf0
abbrev lJ (a:Adr): Prop:=ZY P w K mg base 2 "forget_content" ["memory","leaf"] (WG a) []
def wZ (T:Zq a)(gY:jX a): lJ a:=by
 exists T.x6,["memory","leaf"];rintro⟨O,k',p,σ',x,z_,y,g,rfl,M,lf,k⟩;left;refine⟨_,(af (cG (g9 (isi (aq (pv 1) (ao (eX (v:=.ref a.dN) (by rfl) T.eM rfl))))) (af (aF (pm (fl (pv 0)) gY (ao (fl (pv 1)))))) bb)),?_⟩;have h1:=M.ob.2;have N:=M.nr;let⟨dn,n1⟩:=M.nr.ob;have ty:=lf.ty T;have kh:=Et T g;ext;refine dI (λq=>?_) (λq=>?_)
 · let⟨r,j,rfl⟩:=HV q
   let⟨dy,ly⟩:=lf;have ly:H y=some (.ins a.dN dy [("rights",.int r),("frame",.int j)]):=ly;ext;intro H1 g1 N1;let⟨M1,e1⟩:=M.near g1 N1;ext;exact k _ (M1.wY λr z=>⟨z.1,λ_ _ e=>by cases e;exact z.2⟩) e1
 · ext
   exact k _ (M.jno.wY λr z=>⟨z,λ_ _ e=>absurd (by rw[e];rfl) q⟩) (.same M.lv (.refl _))
abbrev tI (a:Adr): Prop:=ZY P w K mg base 6 "content_more" ["memory","leaf"] (WH a wX) []
def Au (T:Zq a)(tJ:yN a)(iF:lJ a): tI a:=by
 exists T.BE,["memory","leaf"];rintro⟨O,k',p,σ',x,z_,y,g,rfl,M,lf0,ir,k⟩;left;refine⟨_,(ae (aF (pm (fl (pv 0)) tJ (ao (pv 1))))
     (af (aF (pf iF (aq (pv 0) (ao (pv 1))))))),?_⟩
 have h1:=M.ob.2;have P:=M.pl;let⟨dx,h2⟩:=P.o1;have ip:=ir.1;ext;intro H1 P1 g1;let⟨M1,e1⟩:=M.pool P1 g1;have lf:=(lf0.same e1.v0).same v0H;ext;intro H2 M2 e2;ext;exact k _ M2 (e1.trans e2)
abbrev nA (a:Adr): Prop:=ZY P w K mg base 6 "content_less" ["memory","leaf"] (WH a se) []
def Av (T:Zq a)(tK:yO a)(iF:lJ a): nA a:=by
 exists T.BF,["memory","leaf"];rintro⟨O,k',p,σ',x,z_,y,g,rfl,M,lf0,ir,k⟩;left;refine⟨_,(ae (aF (pm (fl (pv 0)) tK (ao (pv 1))))
     (af (aF (pf iF (aq (pv 0) (ao (pv 1))))))),?_⟩
 have h1:=M.ob.2;have P:=M.pl;let⟨dx,h2⟩:=P.o1;have ip:=ir.1;ext;intro H1 P1 g1;let⟨M1,e1⟩:=M.pool P1 g1;have lf:=(lf0.same e1.v0).same v0H;ext;intro H2 M2 e2;ext;exact k _ M2 (e1.trans e2)
end
def spT (sp:Sp): Sp:=λvs H Q E=>sp vs H (λv H'=>(∀b xs,H b=some (.tup xs)->H' b=some (.tup xs))->Q v H') E
def WK {P:Program}{w:World}{K:qv}{mg:zf}{base:Heap}{CX:CXT}{k:Nat}{f:Addr}{fd:FuncData}{ps:zq}{sp:Sp}(F:lw P w K mg base CX k f fd ps sp): lw P w K mg base CX k f fd ps (spT sp) :=
 ⟨λvs H Q E h=>F.len vs H _ E h,λA outer s H args us vs Q E hr e0 b r h=>PySem.codeAny_mono (F.run A outer s H args us vs _ E hr e0 b r h) λr s' q=>by
   match r,q with
   | .ok (.ret u),⟨v,H',a1,a2,a3,a4,a5,a6⟩=>exact⟨v,H',a1,a2,a3,a4,a5,a6 a3.tups⟩
   | .ok .next,q=>exact q
   | .ok .brk,q=>exact q
   | .ok .cont,q=>exact q
   | .error e,q=>exact q⟩
def SY {P:Program}{w:World}{K:qv}{mg:zf}{base:Heap}{k:Nat}{x:Str}{ps:zq}{sp:Sp}{Zz:zu}(h:ZY P w K mg base k x ps sp Zz): ZY P w K mg base k x ps (spT sp) Zz :=
 by let⟨f,fd,ds,F,r⟩:=h;exact ⟨f,fd,ds,WK F,r⟩
def yt (σ:Ms)(f:Option (Int×List Int)->Option (Int×List Int))(d:Int): Lf->Ms
 | .named _ s _=>{ σ with S:=setM σ.S s ((σ.S s).map λq=>(q.1,q.2+d)) }
 | g=>chL σ f g
def SZ (σ:Ms): Lf->Prop
 | .named _ s _=>∃gs u,σ.S s=some (gs,u)/\1 < u
 | g=>InR σ g
def WL (a:Adr)(f:Option (Int×List Int)->Option (Int×List Int))(d:Int): Sp:=λvs H Q _=>∃O k p σ x z_ y g,vs=[.ref p,.ref y]/\MmI a O H k p σ x z_/\iC a (v0 O H) y g/\SZ σ g/\∀H',MmI a O H' k p (yt σ f d g) x z_->Go (MP k) O H O H'->Q .non H'
def WM (a:Adr): Sp:=λvs H Q _=>∃(p l:Addr),vs=[.ref p,.ref l]/\H l=some (.lst [])/\Q .non H
def U3 (a:Adr): Sp:=λvs H Q _=>∃O k p σ x z_,vs=[.ref p]/\MmI a O H k p σ x z_/\Q (.int σ.w) H
def Jx (a:Adr): Sp:=λvs H Q _=>∃O k p σ x z_,vs=[.ref p]/\MmI a O H k p σ x z_/\σ.ts.length < 64/\∀q ns H',H' q=some (.lst (List.map V.int ns))->ns.Perm σ.ts->ns.Pairwise (·<=·)->H q=none->Zy H H'->Q (.ref q) H'
def OD {z_:zv}{ts:zm}{t:Int}(h:z_.map (·.1)=ts.map Qn): t∈ts↔(fE z_ (.inl t)).isSome=true:=ja (show jZ z_ ts from h)
def S7 {z_:zv}{ts:zm}{t:Int}(h:z_.map (·.1)=ts.map Qn)(n:t∉ts): fE z_ (.inl t)=none:=by
 cases e:fE z_ (.inl t) with
 | none=>rfl
 | some v=>exact absurd ((OD h).mpr (by rw[e];rfl)) n
section
variable [Gn]{a:Adr}{Zz:zu}
abbrev yR (a:Adr): Prop:=ZY P w K mg base 7 "move_task" ["space","moves"] (HN) []
def Gc (T:Zq a): yR a:=d8.okS ["space","moves","page","leaf","moved"] T.Hv (by walk_at "sc") (λ_ _ _ _ h=>h.elim) (λ_ _ _ _ _ _ _ _ _ _ _ h=>h.elim)
abbrev w9 (a:Adr): Prop:=ZY P w K mg base 6 "move_share" ["shares","name","moves"] (HN) []
def DE (T:Zq a): w9 a:=d8.okS ["shares","name","moves","part","leaf"] T.Fz (by walk_at "sc") (λ_ _ _ _ h=>h.elim) (λ_ _ _ _ _ _ _ _ _ _ _ h=>h.elim)
abbrev oB (a:Adr): Prop:=ZY P w K mg base 8 "move_leaves" ["memory","moves"] (WM a) []
def B_ (T:Zq a)(gY:jX a)(tL:yR a)(oC:uA a)(rj:w9 a): oB a:=by
 exists T.C9,["memory","moves","way","frame","slot","task","name","many","uses"];rintro⟨p,l,rfl,h,k⟩;left;refine⟨_,(ae (cG (ct gM (ln (ao (pv 1))) ai) (af JL) bb)
     (ae (fo (gP (pv 1)) (kK (n:=3) rfl (eV (gn 2 nD) (eV (gn 3 nD) (eV (gn 4 nD) jv))))
     (af (aF (pm (fl (pv 0)) gY (ao (pv 3))))))
     (ae (fo (gP (kA (uR hr.hd) (by rfl) T.eN PyProof.Rows.Boot.«list» (ao (fl (pv 0))))) (gn 5 nD)
     (af (aF (pf tL (aq (fF hr.u1 (fl (pv 0)) (pv 5) (λ_ _=>rfl)) (ao (pv 1)))))))
     (af (fo (gP (pm0 (fl (pv 0)) oC)) (kK (n:=3) rfl (eV (gn 6 nD) (eV (gn 7 nD) (eV (gn 8 nD) jv))))
     (af (aF (pf rj (aq (fl (pv 0)) (aq (pv 6) (ao (pv 1)))))))))))),?_⟩
 ext
abbrev Ca (a:Adr): Prop:=ZY P w K mg base 1 "walks_of" ["memory"] (U3 a) []
def HY (T:Zq a): Ca a:=by
 exists T.Jk,["memory"];rintro⟨O,k',p,σ',x,z_,rfl,M,k⟩;left;refine⟨_,(af (bq (fl (pv 0)))),?_⟩;have h1:=M.ob.2;ext;exact k
abbrev w_ (a:Adr): Prop:=ZY P w K mg base 1 "live_tasks" ["memory"] (Jx a) []
def DF (T:Zq a): w_ a:=by
 exists T.Fw,["memory"];rintro⟨O,k',p,σ',x,z_,rfl,M,l64,k⟩;left;refine⟨_,(af (bq (mU (vT hr.hd) (by rfl) T.cW PyProof.Rows.Boot.«sorted» (ao (fl (pv 0)))))),?_⟩;have h1:=M.ob.2;have hd:=M.hd.2;have ik:jZ z_ σ'.ts:=M.ks;ext;intro q ns hq pm st;generalize hh:upd _ q _=H1;let⟨s1,e1⟩:=eQ hq hh;clear hh;exact k q ns H1 e1 pm st hq s1
abbrev xf (a:Adr): Prop:=ZY P w K mg base 7 "count_more" ["memory","leaf"] (spT (WL a wX 1)) []
def DG (T:Zq a)(oE:ux a)(nB:tI a): xf a:=by
 refine SY ?_;exists T.Fx,["memory","leaf"];rintro⟨O,k',p,σ',x,z_,y,g,rfl,M,lf0,ok,k⟩;left;refine⟨_,(af (cG (g9 (isi (aq (pv 1) (ao (eX (v:=.ref a.dH) (by rfl) T.dJ rfl))))) (af (aF (pm (fl (pv 0)) oE (ao (fl (pv 1)))))) (af (aF (pf nB (aq (pv 0) (ao (pv 1)))))))),?_⟩;have lf:=lf0.same v0H;have ty:=lf.ty T;have kn:=Ew T g;ext;refine dI (λq=>?_) (λq=>?_)
 · let⟨r,s',j,rfl⟩:=SX q
   let⟨dy,ly⟩:=id lf;have ly:H y=some (.ins a.dH dy [("rights",.int r),("name",.str s'),("part",.int j)]):=ly;have h1:=M.ob.2;let⟨ds,h2⟩:=M.ss.ob;have h2:=v0H _ _ h2;let⟨gs,u,e,_⟩:=ok;have SV:SsV a O H k' x.ss x.kd σ'.Ln σ'.S s' gs u:=⟨M.ss,e⟩;ext;intro H1 S1 g1;let⟨M1,e1⟩:=M.shr S1 g1;have k:=k H1;simp only [yt,e,QD] at k;exact k M1 e1
 · have ir:InR σ' g:=by cases g<;>first | exact ok | exact absurd rfl q
   have ek:yt σ' wX 1 g=chL σ' wX g:=by cases g<;>first | rfl | exact absurd rfl q
   rw[ek] at k;ext;exact k
abbrev rn (a:Adr): Prop:=ZY P w K mg base 7 "count_less" ["memory","leaf"] (spT (WL a se (-1))) []
def DH (T:Zq a)(oG:uz a)(iO:nA a): rn a:=by
 refine SY ?_;exists T.Fy,["memory","leaf","part"];rintro⟨O,k',p,σ',x,z_,y,g,rfl,M,lf0,ok,k⟩;left;refine⟨_,(af (cG (g9 (isi (aq (pv 1) (ao (eX (v:=.ref a.dH) (by rfl) T.dJ rfl))))) (af (fo (gP (pm (fl (pv 0)) oG (ao (fl (pv 1))))) (gn 2 nD)
     (af (aF (pf iO (aq (pv 0) (ao (pv 2)))))))) (af (aF (pf iO (aq (pv 0) (ao (pv 1)))))))),?_⟩
 have lf:=lf0.same v0H;have ty:=lf.ty T;have kn:=Ew T g;ext;refine dI (λq=>?_) (λq=>?_)
 · let⟨r,s',j,rfl⟩:=SX q
   let⟨dy,ly⟩:=id lf;have ly:H y=some (.ins a.dH dy [("rights",.int r),("name",.str s'),("part",.int j)]):=ly;have h1:=M.ob.2;let⟨ds,h2⟩:=M.ss.ob;have h2:=v0H _ _ h2;let⟨gs,u,e,u1⟩:=ok;have SV:SsV a O H k' x.ss x.kd σ'.Ln σ'.S s' gs u:=⟨M.ss,e⟩;ext;intro q H1 hq S1 g1;let⟨M1,e1⟩:=M.shr S1 g1;have hq1:=v0H _ _ hq;have k:=k H1;simp only [yt,e,QD] at k;ext;refine Kp (Zx.of hq1) ?_;ext;exact k M1 e1
 · have ir:InR σ' g:=by cases g<;>first | exact ok | exact absurd rfl q
   have ek:yt σ' se (-1) g=chL σ' se g:=by cases g<;>first | rfl | exact absurd rfl q
   rw[ek] at k;ext;exact k
end
section
variable {a:Adr}{O O1:Lab}{H H1:Hp}{y p:Addr}{t n:Int}{M':Mf}{k:Nat}{σ:Ms}{x:Mx}{z_:zv}
def MmI.add (M0:MmI a O H k p σ x z_)(hn:n∉σ.ts)(n0:0<=n)(S:SpM a O1 H1 (pt k (.sp n)) y σ.ns σ.low n σ.L M')(g:Go1 (pt k (.sp n)) O H O1 H1):
   MmI a O1 (upd H1 x.d (.dK (putK z_ (.inl n) (.ref y)))) k p { σ with ts:=σ.ts++[n],T:=λk=>if k=n then M' else σ.T k } x (putK z_ (.inl n) (.ref y))/\Go (MP k) O H O1 (upd H1 x.d (.dK (putK z_ (.inl n) (.ref y)))):=by
 have M:=(M0.part g ⟨nofun,nofun,nofun⟩ ⟨nofun,λ_=>⟨nofun,nofun⟩⟩ nofun (g.kp M0.ob.1 nofun M0.ob.2).symm (M0.nr.oth g nofun) λt ht _ _ S=>S.oth g λz=>hn (by cases z;exact ht)).1;have hv:=S7 M.ks hn;have G:Go1 (pt k .sd) O1 H1 O1 (upd H1 x.d (.dK (putK z_ (.inl n) (.ref y)))):=.put M.lv M.hd.1 rfl;refine⟨⟨G.lv,M.gd,(G.kp M.ob.1 nofun M.ob.2).symm,M.sh.same G.v0,M.pl.oth G (Kv ⟨nofun,nofun,nofun⟩),M.nr.oth G nofun,M.ss.oth G (Kw ⟨nofun,λ_=>⟨nofun,nofun⟩⟩),⟨M.hd.1,ah⟩,?_,?_,λt h=>?_,M.l64,λt h=>?_⟩,(g.mono λ_ e=>⟨_,e⟩).trans (G.mono λ_ e=>⟨_,e⟩)⟩
 · rw[sD _ hv,qu,M.ks,qu];rfl
 · refine acW.mpr ⟨M.nd,by simp,λa ha b hb=>?_⟩
   rw[qc.mp hb];exact λz=>hn (z ▸ ha)
 · rcases q_.mp h with h | h
   · exact M.t0 t h
   · rw[qc.mp h];exact n0
 by_cases e:t=n
 · subst e
   exact⟨y,by rw[jA,if_pos rfl],(S.oth G nofun).vb λm=>by show (if t=t then M' else _) m=_;rw[if_pos rfl]⟩
 · let⟨y',h1,h2⟩:=M.sp t ((q_.mp h).resolve_right λz=>e (qc.mp z))
   exact⟨y',by rw[jA,if_neg (λz=>e (QC z))];exact h1,(h2.oth G nofun).vb λm=>by show (if t=n then M' else _) m=_;rw[if_neg e]⟩
def MmI.del (M:MmI a O H k p σ x z_): MmI a O (upd H x.d (.dK (h_ z_ (.inl t)))) k p { σ with ts:=σ.ts.filter λj=>decide (j≠t) } x (h_ z_ (.inl t))/\Go (MP k) O H O (upd H x.d (.dK (h_ z_ (.inl t)))):=by
 have G:Go1 (pt k .sd) O H O (upd H x.d (.dK (h_ z_ (.inl t)))):=.put M.lv M.hd.1 rfl;refine⟨⟨G.lv,M.gd,(G.kp M.ob.1 nofun M.ob.2).symm,M.sh.same G.v0,M.pl.oth G (Kv ⟨nofun,nofun,nofun⟩),M.nr.oth G nofun,M.ss.oth G (Kw ⟨nofun,λ_=>⟨nofun,nofun⟩⟩),⟨M.hd.1,ah⟩,pV (show jZ z_ σ.ts from M.ks),M.nd.filter _,λt h=>M.t0 t (abB.mp h).1,M.l64,λj h=>?_⟩,G.mono λ_ e=>⟨_,e⟩⟩;let⟨h,hk⟩:=abB.mp h;let⟨y,h1,h2⟩:=M.sp j h;exact⟨y,by rw[kr,if_neg λz=>by rw[QC z] at hk;simp at hk];exact h1,h2.oth G nofun⟩
end
abbrev Zd:=List (Int×Lf)
structure LsT (M:Mf)(ls:Zd): Prop where
 ri:ls.Pairwise λa b=>a.1 < b.1
 me:∀n g,(n,g)∈ls↔M n=some g
def vm (f:Option (Int×List Int)->Option (Int×List Int))(d:Int)(σ:Ms)(gs:zU): Ms:=gs.foldl (λσ g=>yt σ f d g) σ
def U4 (f:Option (Int×List Int)->Option (Int×List Int))(d:Int)(σ:Ms)(gs:zU): Prop:=∀(i:Nat) g,gs[i]?=some g->SZ (vm f d σ (gs.take i)) g
def Ky {a:Adr}{Z:Hp}{M:Mf}{R:Rs}(w:RwM a Z M R): ∃gs:List Lf,gs.length=R.length/\(∀(i:Nat) n x g,R[i]?=some (n,x)->gs[i]?=some g->iC a Z x g)/\LsT M ((R.map (·.1)).zip gs):=by
 have ex:∀(R:Rs),(∀n x,(n,x)∈R->∃g,M n=some g/\iC a Z x g)->∃gs:List Lf,gs.length=R.length/\(∀(i:Nat) n x g,R[i]?=some (n,x)->gs[i]?=some g->iC a Z x g/\M n=some g):=by
   intro R
   induction R with
   | nil=>intro _;exact⟨[],rfl,λi n x g h=>by cases h⟩
   | cons r R ih =>
     intro h;let⟨gs,l,q⟩:=ih λn x hm=>h n x (qB _ hm);let⟨g,e,lf⟩:=h r.1 r.2 qG;refine⟨g::gs,by rw[qJ,qJ,l],λi n x g' h1 h2=>?_⟩;cases i with
     | zero=>cases h1;cases h2;exact⟨lf,e⟩
     | succ i=>exact q i n x g' (by simpa using h1) (by simpa using h2)
 let⟨gs,l,q⟩:=ex R w.so;have at':∀{n g},(n,g)∈(R.map (·.1)).zip gs->M n=some g/\n∈R.map (·.1):=λ{n g} h=>by
   let⟨i,hi⟩:=aec h;rw[QW] at hi;let⟨h1,h2⟩:=hi;rw[qx] at h1;let⟨⟨n',x⟩,e,rfl⟩:=qP.mp h1;exact⟨(q i n' x g e h2).2,Qa.mpr ⟨_,qw e,rfl⟩⟩
 refine⟨gs,l,λi n x g h1 h2=>(q i n x g h1 h2).1,⟨?_,λn g=>⟨λh=>(at' h).1,λh=>?_⟩⟩⟩
 · have e:((R.map (·.1)).zip gs).map (·.1)=R.map (·.1):=List.map_fst_zip (by rw[qa];lia)
   have p:(((R.map (·.1)).zip gs).map (·.1)).Pairwise (· < ·):=by rw[e];exact abl.mpr w.ri
   exact abl.mp p
 · let⟨x,hx⟩:=w.al n g h
   let⟨i,hi⟩:=aec hx;have il:=(qg.mp hi).1;have eg:gs[i]?=some gs[i]:=qi (by lia);have:=(q i n x _ hi eg).2;rw[h] at this;cases this;exact qw (i:=i) (QW.mpr ⟨by rw[qx,hi];rfl,eg⟩)
def Yx (a:Adr): Sp:=λvs H Q _=>∃O k p σ x z_,∃n:Nat,vs=[.ref p]/\MmI a O H k p σ x z_/\(∀j:Nat,j < n->(j:Int)∈σ.ts)/\(n:Int)∉σ.ts/\Q (.int n) H
abbrev Lst (σ:Ms)(n:Nat): Prop:=(∀j:Nat,j < n->(j:Int)∈σ.ts)/\(n:Int)∉σ.ts/\σ.ts.length < 60
def Ms.add (σ:Ms)(n:Int)(M:Mf): Ms:={ σ with ts:=σ.ts++[n],T:=λk=>if k=n then M else σ.T k }
def Mz (a:Adr)(O:Lab)(H:Hp)(k:Nat)(p:Addr)(σ:Ms): Prop:=∃x z_,MmI a O H k p σ x z_
def U5 (a:Adr): Sp:=λvs H Q _=>∃O k p σ n,vs=[.ref p]/\Mz a O H k p σ/\Lst σ n/\∀O' H',Mz a O' H' k p (σ.add n λ_=>none)->Go (MP k) O H O' H'->Q (.int n) H'
def Cb (a:Adr): Sp:=λvs H Q E=>∃O k p σ t n,vs=[.ref p,.int t]/\Mz a O H k p σ/\Lst σ n/\(t∉σ.ts->E (.ref a.fH) none H)/\(t∈σ.ts->∀ls,LsT (σ.T t) ls->U4 wX 1 σ (ls.map (·.2))) ∧
 (t∈σ.ts->∀ls,LsT (σ.T t) ls->∀O' H',Mz a O' H' k p ((vm wX 1 σ (ls.map (·.2))).add n (σ.T t))->Go (MP k) O H O' H'->Q (.int n) H')
def Ex (a:Adr): Sp:=λvs H Q E=>∃O k p σ t,vs=[.ref p,.int t]/\Mz a O H k p σ/\(t∉σ.ts->E (.ref a.fH) none H)/\(t∈σ.ts->∀ls,LsT (σ.T t) ls->U4 se (-1) σ (ls.map (·.2))) ∧
 (t∈σ.ts->∀ls,LsT (σ.T t) ls->∀H',(let σ':=vm se (-1) σ (ls.map (·.2));Mz a O H' k p { σ' with ts:=σ'.ts.filter (λj=>decide (j≠t)),N:=λr=>σ'.N r/\¬r.1=t,J:=none })->Go (MP k) O H O H'->Q .non H')
def HZ {f:Option (Int×List Int)->Option (Int×List Int)}{d:Int}: ∀{gs:zU} {σ:Ms},(vm f d σ gs).ts=σ.ts/\(vm f d σ gs).T=σ.T/\(vm f d σ gs).ns=σ.ns/\(vm f d σ gs).low=σ.low/\(vm f d σ gs).L=σ.L
 | [],_=>⟨rfl,rfl,rfl,rfl,rfl⟩
 | g::gs,σ=>by
   have h:=HZ (f:=f) (d:=d) (gs:=gs) (σ:=yt σ f d g);have e:(yt σ f d g).ts=σ.ts/\(yt σ f d g).T=σ.T/\(yt σ f d g).ns=σ.ns/\(yt σ f d g).low=σ.low/\(yt σ f d g).L=σ.L:=by cases g<;>exact⟨rfl,rfl,rfl,rfl,rfl⟩
   exact⟨h.1.trans e.1,h.2.1.trans e.2.1,h.2.2.1.trans e.2.2.1,h.2.2.2.1.trans e.2.2.2.1,h.2.2.2.2.trans e.2.2.2.2⟩
section
variable [Gn]{a:Adr}{Zz:zu}
abbrev k8 (a:Adr): Prop:=ZY P w K mg base 1 "least_free_task" ["memory"] (Yx a) []
def vo (T:Zq a): k8 a:=by
 exists T.wo,["memory","task"];rintro⟨O,k',p,σ',x,z_,n,rfl,M,hj,hn,k⟩;left;refine⟨_,(ae (dM 1 nD ai)
     (ae (Mm J0 (ct (Ur hr.u1) (pv 1) (fl (pv 0))) (af (dM 1 nD (dL kL (pv 1) ai))))
     (af (bq (pv 1))))),?_⟩
 have h1:=M.ob.2;have hd:=M.hd.2;symm;refine⟨λm σ H'=>H'=H/\∃t:Nat,σ=[some (.ref p),some (.int t)]/\t<=n/\m=n-t,⟨_,rfl,0,rfl,qV _,rfl⟩,?_⟩;rintro m σ H' ⟨rfl,t,rfl,tn,rfl⟩;have gg:=kg.k (k:=Qn (t:Int)) hd;by_cases c:t=n
 · subst c
   rw[S7 M.ks hn] at gg;symm;exact k
 · have q:=(OD M.ks).mp (hj t (by lia))
   cases hv:fE z_ (.inl (t:Int)) with
   | none=>rw[hv] at q;cases q
   | some v =>
     rw[hv] at gg;symm;refine⟨λσ H2=>H2=H'/\σ=[some (.ref p),some (.int (t+1))],?_,?_⟩
     · rintro σ' H2 ⟨rfl,rfl⟩
       exact⟨n-(t+1),by lia,rfl,t+1,rfl,by lia,rfl⟩
     · symm
       exact rfl
abbrev xg (a:Adr): Prop:=ZY P w K mg base 5 "begin_task" ["memory"] (U5 a) []
def DI (T:Zq a)(ib:k8 a)(iE:lG a): xg a:=by
 exists T.Fv,["memory","task"];rintro⟨O,k',p,σ',n,rfl,⟨x,z_,M⟩,⟨hj,hn,kl⟩,k⟩;left;refine⟨_,(ae (dM 1 nD (pf ib (ao (pv 0))))
     (ae (j_ hr.u1 (fl (pv 0)) (pv 1) (pk iE (aq (fl (pv 0)) (ao (pv 1)))) rfl)
     (af (bq (pv 1))))),?_⟩
 have h1:=M.ob.2;have hd:=M.hd.2;have gd:=M.gd;have l64:=M.l64;symm;refine λy dy hy hdy _=>?_;generalize hh:upd _ y (HO.ins _ dy [])=H1;have s1:Zy H H1:=λb u e=>by rw[<-hh,ak (aj e hy),ak (aj e hdy)];exact e
 have e1:H1 y=some (.ins a.eR dy []):=by rw[<-hh];exact ah
 clear hh;have lv1:=M.lv.same s1;have oy:=M.lv.no hy;have S1:=M.sh.same (v0S s1);symm;intro H2 F;let⟨O2,Y2,kp⟩:=F (pt k' (.sp n));have g2:Go1 (pt k' (.sp n)) O H O2 H2:=⟨Y2.lv,λb u e _=>kp b u (s1 _ _ e) (aj e hy),λb u e=>⟨u,(kp b u (s1 _ _ e) (aj e hy)).1⟩⟩;have h12:=(g2.kp M.ob.1 nofun h1).1;have hd2:=(g2.kp M.hd.1 nofun hd).1;have klk:z_.length=σ'.ts.length:=by have:=congrArg Qg M.ks;simpa using this
 have dp:=sE.k (k:=Qn (n:Int)) (v:=.ref y) hd2 (by rw[sizeLine_eq];lia);symm;let⟨M3,e3⟩:=M.add hn (by lia) Y2 g2;exact k O2 _ ⟨x,_,M3⟩ e3
end
def Cd {f:Option (Int×List Int)->Option (Int×List Int)}{d:Int}{σ:Ms}{gs:zU}{g:Lf}{i:Nat}(h:gs[i]?=some g): vm f d σ (gs.take (i+1))=yt (vm f d σ (gs.take i)) f d g:=by
 unfold vm;rw[qQ,h,List.foldl_append];rfl
section
variable [Gn]{a:Adr}{Zz:zu}
abbrev yS (a:Adr): Prop:=ZY P w K mg base 8 "fork_task" ["memory","task"] (Cb a) []
def Gd (T:Zq a)(eG:iZ a)(ib:k8 a)(iw:mH a)(rp:xf a)(rq:wI a): yS a:=by
 exists T.Hy,["memory","task","space","child","page","leaf"];rintro⟨O,k',p,σ',t,n,rfl,⟨x,z_,M⟩,⟨hj,hn,kl⟩,k0,ok,k⟩;left;refine⟨_,(ae (dM 2 nD (pf eG (aq (pv 0) (ao (pv 1)))))
     (ae (dM 3 nD (pf ib (ao (pv 0))))
     (ae (fo (gP (pm0 (pv 2) iw)) (kK (n:=2) rfl (eV (gn 4 nD) (eV (gn 5 nD) jv)))
     (af (aF (pf rp (aq (pv 0) (ao (pv 5)))))))
     (ae (j_ hr.u1 (fl (pv 0)) (pv 3) (pm (pv 2) rq (ao (pv 3))) rfl)
     (af (bq (pv 3))))))),?_⟩
 walk_at "0d";let⟨_,_,_,g1,_⟩:=S.sy;symm;intro q ls Rr H1 RA rw' s1;let⟨gs,gl,lg,LT⟩:=Ky rw';have eg:((Rr.map (·.1)).zip gs).map (·.2)=gs:=List.map_snd_zip (by rw[qa];lia);have ok:=ok ht _ LT;have k:=k ht _ LT;rw[eg] at ok k;clear k0 LT eg;have q0:=RA.l;have rl:=v0H _ _ q0;have r64:=rw'.le;symm
 let Iv1:L2.Lv:=λi σ H'=>Bx (∃v4 v5,σ=[some (.ref p),some (.int t),some (.ref y),some (.int n),v4,v5]/\MmI a O H' k' p (vm wX 1 σ' (gs.take i)) x z_/\Go (MP k') O H1 O H')
 refine iq (xs:=ls.map V.ref) Iv1 ⟨L2.j2 _ _ ⟨rfl,M.same s1,.same (M.lv.same s1) (.refl _)⟩⟩ (λi σ H' _ z=>?_) ?_ ?_
 · let⟨_,_,_,_,z⟩:=z.o
   exact Zx.of (fQ (z.v0 _ _ q0)).1
 · intro i z σ H2 hi;refine Bx.el ?_;rintro⟨v4,v5,rfl,M2,e2⟩
   rw[qx,qP] at hi;let⟨u,hu,rfl⟩:=hi;have il:i < Rr.length:=by rw[<-RA.n];exact(qg.mp hu).1
   have er:Rr[i]?=some Rr[i]:=qi il;have hg:gs[i]?=some gs[i]:=qi (by lia);generalize Rr[i]=r at er;generalize gs[i]=g at hg;let⟨m,xa⟩:=r;have hu2:=(fQ (e2.v0 _ _ (RA.t i u _ hu er))).1;have l2:=((lg i m xa g er hg).same (v0S s1)).same e2.v0;have okk:=ok i g hg;have tk:=Cd (f:=wX) (d:=1) (σ:=σ') hg;symm;intro H3 M3 g3 _;rw[<-tk] at M3;exact⟨L2.j2 _ _ ⟨rfl,M3,e2.trans g3⟩⟩
 intro σ H2;refine Bx.el ?_;rintro⟨v4,v5,rfl,M2,e2⟩;rw[qa,RA.n,<-gl,qN] at M2;let⟨c1,c2,_⟩:=HZ (f:=wX) (d:=1) (gs:=gs) (σ:=σ');let⟨y2,hy2,S2⟩:=M2.sp t (by rw[c1];exact ht);rw[hy] at hy2;cases hy2;let⟨_,_,_,gy2,_⟩:=S2.sy;have h12:=M2.ob.2;have ne:pt k' (.sp t)≠pt k' (.sp n):=λz=>hn (by cases z;exact ht);symm;intro y' O3 H3 Y3 g3;have h13:=(g3.kp M2.ob.1 nofun h12).1;have hd3:=(g3.kp M2.hd.1 nofun M2.hd.2).1;have klk:z_.length=σ'.ts.length:=by have:=congrArg Qg M.ks;simpa using this
 have dp:=sE.k (k:=Qn (n:Int)) (v:=.ref y') hd3 (by rw[sizeLine_eq];lia);symm;let⟨M3,e3⟩:=M2.add (by rw[c1];exact hn) (by lia) (Y3.vb (M':=σ'.T t) λn=>by rw[c2]) g3;exact k O3 _ ⟨x,_,M3⟩ (((Go.same M.lv s1).trans e2).trans e3)
abbrev vp (a:Adr): Prop:=ZY P w K mg base 8 "end_task" ["memory","task"] (Ex a) []
def H_ (T:Zq a)(eG:iZ a)(iw:mH a)(jK:rn a)(ky:nj a): vp a:=by
 exists T.Jl,["memory","task","space","page","leaf"];rintro⟨O,k',p,σ',t,rfl,⟨x,z_,M⟩,k0,ok,k⟩;left;refine⟨_,(ae (dM 2 nD (pf eG (aq (pv 0) (ao (pv 1)))))
     (ae (fo (gP (pm0 (pv 2) iw)) (kK (n:=2) rfl (eV (gn 3 nD) (eV (gn 4 nD) jv)))
     (af (aF (pf jK (aq (pv 0) (ao (pv 4)))))))
     (ae (aF (pm (fl (pv 0)) ky (ao (pv 1))))
     (af (aF (mV (fl (pv 0)) (pv 1) ⟨rfl,rfl,rfl,rfl⟩)))))),?_⟩
 walk_at "0d";let⟨_,_,_,g1,_⟩:=S.sy;symm;intro q ls Rr H1 RA rw' s1;let⟨gs,gl,lg,LT⟩:=Ky rw';have eg:((Rr.map (·.1)).zip gs).map (·.2)=gs:=List.map_snd_zip (by rw[qa];lia);have ok:=ok ht _ LT;have k:=k ht _ LT;rw[eg] at ok k;clear k0 LT eg;have q0:=RA.l;have rl:=v0H _ _ q0;have r64:=rw'.le;symm
 let Iv1:L2.Lv:=λi σ H'=>Bx (∃v3 v4,σ=[some (.ref p),some (.int t),some (.ref y),v3,v4]/\MmI a O H' k' p (vm se (-1) σ' (gs.take i)) x z_/\Go (MP k') O H1 O H')
 refine iq (xs:=ls.map V.ref) Iv1 ⟨L2.j2 _ _ ⟨rfl,M.same s1,.same (M.lv.same s1) (.refl _)⟩⟩ (λi σ H' _ z=>?_) ?_ ?_
 · let⟨_,_,_,_,z⟩:=z.o
   exact Zx.of (fQ (z.v0 _ _ q0)).1
 · intro i z σ H2 hi;refine Bx.el ?_;rintro⟨v3,v4,rfl,M2,e2⟩
   rw[qx,qP] at hi;let⟨u,hu,rfl⟩:=hi;have il:i < Rr.length:=by rw[<-RA.n];exact(qg.mp hu).1
   have er:Rr[i]?=some Rr[i]:=qi il;have hg:gs[i]?=some gs[i]:=qi (by lia);generalize Rr[i]=r at er;generalize gs[i]=g at hg;let⟨m,xa⟩:=r;have hu2:=(fQ (e2.v0 _ _ (RA.t i u _ hu er))).1;have l2:=((lg i m xa g er hg).same (v0S s1)).same e2.v0;have okk:=ok i g hg;have tk:=Cd (f:=se) (d:=-1) (σ:=σ') hg;symm;intro H3 M3 g3 _;rw[<-tk] at M3;exact⟨L2.j2 _ _ ⟨rfl,M3,e2.trans g3⟩⟩
 intro σ H2;refine Bx.el ?_;rintro⟨v3,v4,rfl,M2,e2⟩;rw[qa,RA.n,<-gl,qN] at M2;have h12:=M2.ob.2;have NN:=M2.nr;let⟨dn,n1⟩:=M2.nr.ob;symm;intro H3 g3 N3;let⟨M3,e3⟩:=M2.near g3 N3;have h13:=M3.ob.2;have hd3:=M3.hd.2;symm;refine⟨.inl ⟨z_,.inl hd3⟩,_,rfl,z_,.inl t,_,hd3,rfl,hy,?_⟩;symm;let⟨M4,e4⟩:=M3.del (t:=t);exact k _ ⟨x,_,M4⟩ ((((Go.same M.lv s1).trans e2).trans e3).trans e4)
end
def Kq (p:Addr)(H H':Hp): Prop:=∀b u,H b=some u->b≠p->H' b=some u
section
variable {p q x dx b:Addr}{H H1 H2:Hp}{o o1 o2 u:HO}
def mkd (hx:H1 x=none)(hd:H1 dx=none)(k:Kq x (upd (upd H1 dx o1) x o2) H2)(e:H1 b=some u): H2 b=some u :=
 k b u (by rw[ak (aj e hx),ak (aj e hd)];exact e) (aj e hx)
def Ey (hx:H1 x=none)(hd:H1 dx=none): Zy H1 (upd (upd H1 dx o1) x o2):=λb u e=>by rw[ak (aj e hx),ak (aj e hd)];exact e
end
def lS (m:Nat)(r:Int): List Lf:=qq m (.fresh r)
def fgP (N:mL->Prop)(t n m:Int): mL->Prop:=λr=>N r/\¬(r.1=t/\n<=r.2.1/\r.2.1 < n+m)
def Ms.fg (σ:Ms)(t n m:Int): Ms:={ σ with N:=fgP σ.N t n m,J:=none }
def LvR (M:Mf)(n:Int)(m:Nat)(gs:zU): Prop:=gs.length=m/\∀(j:Nat) g,gs[j]?=some g->M (n+j)=some g
abbrev Se (σ:Ms): Prop:=∀q,InP σ.ns q->q∈σ.L
def OG (a:Adr): Sp:=λvs H Q _=>∃O k p σ x z_ t n m,vs=[.ref p,.int t,.int n,.int m]/\MmI a O H k p σ x z_/\fO σ.ns n m/\∀H',MmI a O H' k p (σ.fg t n m) x z_->Go (MP k) O H O H'->Q .non H'
def Ce (a:Adr): Sp:=λvs H Q E=>∃O k p σ t n m r,vs=[.ref p,.int t,.int n,.int m,.int r]/\Mz a O H k p σ/\Se σ/\(t∉σ.ts->E (.ref a.fH) none H)/\(t∈σ.ts->¬fO σ.ns n m->E (.ref a.eI) none H)/\(t∈σ.ts->fO σ.ns n m->¬OkR r->∀H',Zy H H'->E (.ref a.eO) none H') ∧
 (t∈σ.ts->fO σ.ns n m->OkR r->∀j:Nat,(j:Int) < m->(∀i:Nat,i < j->σ.T t (n+i)=none)->(σ.T t (n+j)).isSome=true->Flt H E a.gA [("page",.int (n+j))]) ∧
 (t∈σ.ts->fO σ.ns n m->OkR r->(∀i:Nat,(i:Int) < m->σ.T t (n+i)=none)->∀O' H',Mz a O' H' k p (σ.at t ((σ.T t).lay n (lS m.toNat r)))->Go (MP k) O H O' H'->Q .non H')
def rA (a:Adr): Sp:=λvs H Q E=>∃O k p σ t n m,vs=[.ref p,.int t,.int n,.int m]/\Mz a O H k p σ/\(t∉σ.ts->E (.ref a.fH) none H)/\(t∈σ.ts->¬fO σ.ns n m->E (.ref a.eI) none H) ∧
 (t∈σ.ts->fO σ.ns n m->∀j,Hole (σ.T t) n m.toNat j->Flt H E a.cP (mG (.int t) (.int ((n+j)*plc σ.low)) (.str "unmap")))/\(t∈σ.ts->fO σ.ns n m->∀gs,LvR (σ.T t) n m.toNat gs->U4 se (-1) ((σ.at t ((σ.T t).gone n m)).fg t n m) gs) ∧
 (t∈σ.ts->fO σ.ns n m->∀gs,LvR (σ.T t) n m.toNat gs->∀H',Mz a O H' k p (vm se (-1) ((σ.at t ((σ.T t).gone n m)).fg t n m) gs)->Go (MP k) O H O H'->Q .non H')
def Ez (a:Adr): Sp:=λvs H Q E=>∃O k p σ t n m r,vs=[.ref p,.int t,.int n,.int m,.int r]/\Mz a O H k p σ/\(t∉σ.ts->E (.ref a.fH) none H)/\(t∈σ.ts->¬fO σ.ns n m->E (.ref a.eI) none H)/\(t∈σ.ts->fO σ.ns n m->¬OkR r->∀H',Zy H H'->E (.ref a.eO) none H') ∧
 (t∈σ.ts->fO σ.ns n m->OkR r->∀j,Hole (σ.T t) n m.toNat j->Flt H E a.cP (mG (.int t) (.int ((n+j)*plc σ.low)) (.str "rights")))/\(t∈σ.ts->fO σ.ns n m->OkR r->Jt (σ.T t) n m.toNat->∀O' H',Mz a O' H' k p ((σ.at t ((σ.T t).chg n m r)).fg t n m)->Go (MP k) O H O' H'->Q .non H')
def LvR.of {M:Mf}{n:Int}{m:Nat}(h:Jt M n m): ∃gs,LvR M n m gs:=by
 induction m with
 | zero=>exact⟨[],rfl,λj g z=>by cases z⟩
 | succ m ih =>
   let⟨gs,l,q⟩:=ih λi hi=>h i (by lia);let⟨g,e⟩:=qZ.mp (h m (by lia));refine⟨gs++[g],by rw[qd,l];rfl,λj g' z=>?_⟩;by_cases c:j < gs.length
   · rw[qR c] at z;exact q j g' z
   · have:=(qg.mp z).1
     rw[qd] at this;have ej:j=gs.length:=by simp at this;lia
     rw[ej,qF (qe _),QK] at z;cases z;rw[ej,l];exact e
section
variable [Gn]{a:Adr}{Zz:zu}
abbrev nC (a:Adr): Prop:=ZY P w K mg base 4 "forget_pages" ["memory","task","first","many"] (OG a) []
def Aw (T:Zq a)(dR:ig a)(oJ:uH a): nC a:=by
 exists T.BG,["memory","task","first","many","page"];rintro⟨O,k',p,σ',x,z_,t,n,m,rfl,M,st,k⟩;left;refine⟨_,(af (fo (gP (pm (fl (pv 0)) dR (aq (pv 2) (ao (pv 3))))) (gn 4 nD)
     (af (aF (pm (fl (pv 0)) oJ (aq (pv 1) (ao (pv 4)))))))),?_⟩
 have h1:=M.ob.2;have h3:ShG a H x.sh σ'.ns σ'.low:=⟨M.sh.same v0H,M.gd⟩;let⟨dxs,ts,f1,f2⟩:=id h3.1;symm;refine⟨λ_ q H1 s1 e1 hq=>?_,λz=>absurd st z⟩;have q0:v0 O H1 q=some (.lst ((lA n m.toNat).map V.int)):=M.lv.new hq e1;symm
 let Iv1:L2.Lv:=λi σ H'=>Bx (∃v:Option V,σ=[some (.ref p),some (.int t),some (.int n),some (.int m),v]/\MmI a O H' k' p (σ'.fg t n i) x z_/\Go (MP k') O H1 O H')
 refine iq (xs:=(lA n m.toNat).map V.int) Iv1 ⟨_,rfl,(M.same s1).jno.wY λr z=>⟨z,by lia⟩,.same (M.lv.same s1) (.refl _)⟩ ?_ ?_ ?_
 · intro i σ H' _;refine Bx.el ?_;rintro⟨v,_,_,e⟩
   exact Zx.of (fQ (e.v0 _ _ q0)).1
 · intro i z σ H2 hx;refine Bx.el ?_;rintro⟨v,rfl,M2,e2⟩
   let⟨c,rfl,hc⟩:=g_ hx;let⟨rfl,_⟩:=pX hc;have h12:=M2.ob.2;have NN:=M2.nr;let⟨dn,n1⟩:=M2.nr.ob;symm;intro H3 g3 N3;let⟨M3,e3⟩:=M2.near g3 N3;refine⟨⟨_,rfl,M3.wY λr z=>⟨z.1.1,λw=>?_⟩,e2.trans e3⟩⟩;have z1:=z.1.2;have z2:=z.2;lia
 · intro σ H2;refine Bx.el ?_;rintro⟨v,rfl,M2,e2⟩
   rw[qa,kT] at M2;have em:((m.toNat:Nat):Int)=m:=by have:=st.1.1;lia
   rw[em] at M2;symm;exact k _ M2 ((Go.same M.lv s1).trans e2)
abbrev nV (a:Adr): Prop:=ZY P w K mg base 8 "map_pages" ["memory","task","first","many","rights"] (Ce a) []
def Ge (T:Zq a) (eG:iZ a) (dR:ig a) (kH:sX a) (gm:jw P w K mg base a.dG 2 ["self","rights"] (ku a K) []):nV a:=by
 exists T.Hw,["memory","task","first","many","rights","space","pages"];rintro⟨O,k',p,σ',t,n,m,r,rfl,⟨x,z_,M⟩,hL,k0,k1,k2,k3,k4⟩;left;refine⟨_,(ae (dM 5 nD (pf eG (aq (pv 0) (ao (pv 1)))))
     (ae (dM 6 nD (pm (fl (pv 0)) dR (aq (pv 2) (ao (pv 3)))))
     (af (aF (pm (pv 5) kH (aq (pv 2) (ao (NM (xs:=["page"]) (N':=["memory","task","first","many","rights","space","pages"]) rfl ⟨rfl,by exfalso,by exfalso,by dsimp only [X,lX,Q8];exfalso,by exfalso,by dsimp only [X,lX];exfalso,rfl⟩ (gP (pv 6)) rfl rfl rfl Lx (λ_ _ _ _ _ _=>(pH (i:=0) (by dsimp only [X,i5,i_];exfalso) rfl (by first | exact acG rfl | exact aci rfl))) (λ_ _ _ _ _ _ hx=>AI) (λ_ _ _ _ _ _ hx=>(J_ gm hr.m (by rfl) (by exact T.dP) hx (ao (pv 5)))))))))))),?_⟩
 walk_at "0d";have k1:=k1 ht;have h3:ShG a H x.sh σ'.ns σ'.low:=⟨M.sh.same v0H,M.gd⟩;let⟨dxs,ts,f1,f2⟩:=id h3.1;let⟨_,_,_,g1,_⟩:=S.sy;symm;refine⟨λst q H1 s1 e1 hq1=>?_,k1⟩;have q1:Zx K H1 q ((lA n m.toNat).map V.int):=Zx.of e1;have g11:=s1 _ _ g1;have rln:((lA n m.toNat).map V.int).length=m.toNat:=by rw[qa,kT]
 have m1:=st.1.1;have m64:=st.1.2;have u1:=T.cU;have u2:=T.aC;symm;intro acc hacc;by_cases okr:OkR r
 · let Iv1:L2.Cv:=λi ys H'=>Bx (∃us,ys=us.map V.ref/\H' acc=some (.lst ys)/\Lvs a H' us (lS i r)/\us.length=i/\(∀z∈us,H1 z=none)/\∀b u,H1 b=some u->H' b=some u)
   refine pY (xs:=(lA n m.toNat).map V.int) Iv1 (by rw[rln,sizeLine_eq];lia) ⟨⟨[],rfl,ah,⟨rfl,λi x g h=>(by cases h)⟩,rfl,λz h=>(nomatch h),λb u e=>cT hacc _ _ e⟩⟩ (λi ys H2 z=>?_) (λi v ys H2 hx z R rr=>?_) (λys H2 z=>?_)
   · let⟨us,z1,z2,z3,z4,_,z5⟩:=z.o
     exact⟨z2,Zx.of (z5 _ _ e1),by rw[z1,qa];exact z4⟩
   · let⟨us,z1,z2,z3,z4,z6,z5⟩:=z.o
     symm;intro y' dy' hy' OH _;refine⟨y',dy',a.dG,r,rfl,ah,u1,u2,λ_=>⟨rfl,?_⟩,λw=>absurd okr w⟩;generalize hh:upd (upd (upd _ dy' _) y' _) y' _=H3;let⟨s3,e3⟩:=Oc hy' OH hh;clear hh;have a3:=s3 _ _ z2;refine rr _ _ a3 ⟨⟨us++[y'],by rw[z1,qu];rfl,ah,?_,by rw[qd,z4];rfl,λz hz=>?_,λb u e=>?_⟩⟩
     · have es:lS (i+1) r=lS i r++[.fresh r]:=aeb
       rw[es];have l3:=(z3.same s3).snoc (show iC a H3 y' (.fresh r) from ⟨dy',e3⟩);exact⟨l3.len,λi x g h1 h2=>by let⟨d,e⟩:=l3.at' i x g h1 h2;exact ⟨d,by rw[ak λz=>by rw[z,a3] at e;cases e];exact e⟩⟩
     · rcases q_.mp hz with w | w
       · exact z6 z w
       · rw[qc.mp w]
         cases e:H1 y' with
         | none=>rfl
         | some u=>rw[z5 _ _ e] at hy';cases hy'
     · rw[ak (aj e hacc)];exact s3 _ _ (z5 _ _ e)
   · let⟨xs,z1,z2,LV,xl,zn,s2⟩:=z.o
     rw[rln] at LV xl;subst z1;have s2:Zy H1 H2:=s2;have s02:=s1.trans s2;have M2:=M.same s02;have g12:=s2 _ _ g11;have lv0:Lvs a (v0 O H2) xs (lS m.toNat r):=⟨LV.len,λi z g h1 h2=>by
       let⟨d,e⟩:=LV.at' i z g h1 h2;exact⟨d,(M.lv.same s1).new (zn z (qw h1)) e⟩⟩
     have S2:=S.same s02;have hl2:v0 O H2 acc=some (.lst (xs.map V.ref)):=(M.lv.same s1).new hacc z2;have st2:fO σ'.ns n (xs.length:Nat):=by rw[xl,show ((m.toNat:Nat):Int)=m by lia];exact st
     have fr2:∀j:Nat,j < xs.length->n+j∈σ'.L:=λj hj=>hL _ (by have:=st2.2;unfold InP;lia);have ok2:∀g∈lS m.toNat r,OkR g.rights:=λg hg=>by rw[Q6 hg];exact okr
     symm;refine⟨λj hj pr is d H3 hd s3=>k3 ht st okr j (by lia) pr is d H3 hd (s02.trans s3),λfr O3 H3 S3 g3=>?_⟩;let⟨M3,e3⟩:=M2.task hy S3 g3;symm;exact k4 ht st okr (λi hi=>fr i (by lia)) O3 H3 ⟨x,z_,M3⟩ ((Go.same M.lv s02).trans e3)
 · let Iv2:L2.Cv:=λi ys H'=>Bx (i=0/\ys=[]/\H'=upd H1 acc (.lst []))
   refine pY (xs:=(lA n m.toNat).map V.int) Iv2 (by rw[rln,sizeLine_eq];lia) ⟨⟨rfl,rfl,rfl⟩⟩ (λi ys H2 z=>?_) (λi v ys H2 hx z R rr=>?_) (λys H2 z=>?_)
   · let⟨rfl,rfl,rfl⟩:=z.o
     exact⟨ah,Zx.of (cT hacc _ _ e1),rfl⟩
   · let⟨rfl,rfl,rfl⟩:=z.o
     symm;intro y' dy' hy' OH _;refine⟨y',dy',a.dG,r,rfl,ah,u1,u2,λw=>absurd w okr,λ_=>?_⟩;exact k2 ht st okr _ (s1.trans ((cT hacc).trans (Ey hy' OH)))
   · let⟨w,_⟩:=z.o
     rw[rln] at w;lia
abbrev oK (a:Adr): Prop:=ZY P w K mg base 9 "unmap_pages" ["memory","task","first","many"] (rA a) []
def Cg (T:Zq a)(rB:wH a)(eG:iZ a)(je:nC a)(jK:rn a): oK a:=by
 exists T.C_,["memory","task","first","many","leaves","leaf"];rintro⟨O,k',p,σ',t,n,m,rfl,⟨x,z_,M⟩,k0,k1,k2,ok,k⟩;left;refine⟨_,(ae (dM 4 nD (pm (pf eG (aq (pv 0) (ao (pv 1)))) rB (aq (pv 2) (ao (pv 3)))))
     (ae (aF (pf je (aq (pv 0) (aq (pv 1) (aq (pv 2) (ao (pv 3)))))))
     (af (fo (gP (pv 4)) (gn 5 nD)
     (af (aF (pf jK (aq (pv 0) (ao (pv 5)))))))))),?_⟩
 walk_at "0d";let⟨_,_,_,g1,_⟩:=S.sy;have k1:=k1 ht;have k2:=k2 ht;symm;intro st al l xs H1 S1 hl xl lf g1';let⟨gs,gl,gj⟩:=LvR.of al;have ok:=ok ht st gs ⟨gl,gj⟩;have k:=k ht st gs ⟨gl,gj⟩;let⟨M1,e1⟩:=M.task hy S1 g1';have st1:=st;symm;intro H2 M2 g2;have hl2:=g2.v0 _ _ hl;have l2:=(fQ hl2).1;have m64:=st.1.2;generalize hσ:(σ'.at t ((σ'.T t).gone n m)).fg t n m=σ2 at *;symm
 let Iv1:L2.Lv:=λi σ H'=>Bx (∃v:Option V,σ=[some (.ref p),some (.int t),some (.int n),some (.int m),some (.ref l),v]/\MmI a O H' k' p (vm se (-1) σ2 (gs.take i)) x z_/\Go (MP k') O H2 O H')
 refine iq (xs:=xs.map V.ref) Iv1 ⟨⟨_,rfl,M2,.same M2.lv (.refl _)⟩⟩ (λi σ H' _ z=>?_) ?_ ?_
 · let⟨_,_,_,z⟩:=z.o
   exact Zx.of (fQ (z.v0 _ _ hl2)).1
 · intro i z σ H4 hi;refine Bx.el ?_;rintro⟨v,rfl,M4,e4⟩
   rw[qx,qP] at hi;let⟨u,hu,rfl⟩:=hi;have il:=(qg.mp hu).1;have hg:gs[i]?=some gs[i]:=qi (by lia);generalize gs[i]=g at hg;have l4:=((lf i u g hu (gj i g hg)).same g2.v0).same e4.v0;have okk:=ok i g hg;have tk:=Cd (f:=se) (d:=-1) (σ:=σ2) hg;symm;intro H5 M5 g5 _;rw[<-tk] at M5;exact⟨⟨_,rfl,M5,e4.trans g5⟩⟩
 · intro σ H4;refine Bx.el ?_;rintro⟨v,rfl,M4,e4⟩
   rw[qa,show xs.length=gs.length by lia,qN] at M4;symm;exact k H4 ⟨x,z_,M4⟩ ((e1.trans g2).trans e4)
abbrev mr (a:Adr): Prop:=ZY P w K mg base 9 "change_rights" ["memory","task","first","many","rights"] (Ez a) []
def yu (T:Zq a)(nE:sZ a)(eG:iZ a)(je:nC a): mr a:=by
 exists T.Ac,["memory","task","first","many","rights"];rintro⟨O,k',p,σ',t,n,m,r,rfl,⟨x,z_,M⟩,k0,k1,k2,k3,k⟩;left;refine⟨_,(ae (aF (pm (pf eG (aq (pv 0) (ao (pv 1)))) nE (aq (pv 2) (aq (pv 3) (ao (pv 4))))))
     (af (aF (pf je (aq (pv 0) (aq (pv 1) (aq (pv 2) (ao (pv 3))))))))),?_⟩
 walk_at "0d";let⟨_,_,_,g1,_⟩:=S.sy;have k1:=k1 ht;have k2:=k2 ht;have k3:=k3 ht;symm;intro st okr al O1 H1 S1 g1';let⟨M1,e1⟩:=M.task hy S1 g1';have st1:=st;symm;intro H2 M2 g2;symm;exact k ht st okr al O1 H2 ⟨x,z_,M2⟩ (e1.trans g2)
end
def rC (m:Nat)(r:Int)(s:Str): List Lf:=(abG m).map λi:Nat=>.named r s i
abbrev U6 (S:ShM)(s:Str)(m:Int): Prop:=∀gs u,S s=some (gs,u)->(gs.length:Int)=m
def EA (a:Adr): Sp:=λvs H Q E=>∃O k p σ t s n m r,vs=[.ref p,.int t,.str s,.int n,.int m,.int r]/\Mz a O H k p σ/\Se σ/\s.length<=1000/\(t∉σ.ts->E (.ref a.fH) none H)/\(t∈σ.ts->¬fO σ.ns n m->E (.ref a.eI) none H)/\(t∈σ.ts->fO σ.ns n m->¬OkR r->∀H',Zy H H'->E (.ref a.eO) none H') ∧
 (t∈σ.ts->fO σ.ns n m->OkR r->¬gS s->∀H',Zy H H'->E (.ref a.iu) none H')/\(t∈σ.ts->fO σ.ns n m->OkR r->gS s->∀gs u,σ.S s=some (gs,u)->(gs.length:Int)≠m->∀H',Zy H H'->E (.ref a.iM) none H') ∧
 (t∈σ.ts->fO σ.ns n m->OkR r->gS s->U6 σ.S s m->∀j:Nat,(j:Int) < m->(∀i:Nat,i < j->σ.T t (n+i)=none)->(σ.T t (n+j)).isSome=true->Flt H E a.gA [("page",.int (n+j))]) ∧
 (t∈σ.ts->fO σ.ns n m->OkR r->gS s->U6 σ.S s m->(∀i:Nat,(i:Int) < m->σ.T t (n+i)=none)->s∈σ.Ln/\∀O' H',Mz a O' H' k p { σ.at t ((σ.T t).lay n (rC m.toNat r s)) with S:=Km σ.S s m }->Go (MP k) O H O' H'->Q .non H')
section
variable [Gn]{a:Adr}{Zz:zu}
abbrev oM (a:Adr): Prop:=ZY P w K mg base 8 "share_pages" ["memory","task","name","first","many","rights"] (EA a) []
def Ci (T:Zq a)(eG:iZ a)(dR:ig a)(gw:kS a)(jo:oi a)(kH:sX a)(iD:lF a)(rD:wM a): oM a:=by
 exists T.Dc,["memory","task","name","first","many","rights","space","pages"];rintro⟨O,k',p,σ',t,s',n,m,r,rfl,⟨x,z_,M⟩,hL,sl,k0,k1,k2,k3,k4,k5,k6⟩;left;refine⟨_,(ae (dM 6 nD (pf eG (aq (pv 0) (ao (pv 1)))))
     (ae (dM 7 nD (pm (fl (pv 0)) dR (aq (pv 3) (ao (pv 4)))))
     (ae (aF (pf gw (ao (pv 5))))
     (ae (aF (pm (fl (pv 0)) jo (aq (pv 2) (ao (pv 4)))))
     (ae (aF (pm (pv 6) kH (aq (pv 3) (ao (AJ (xs:=["page"]) (N':=["memory","task","name","first","many","rights","space","pages"]) rfl ⟨rfl,by exfalso,by exfalso,by dsimp only [X,lX,Q8];exfalso,by exfalso,by dsimp only [X,lX];exfalso,rfl⟩ (gP (pv 7)) (λ_ _ _ _ _=>(pH (i:=0) (by dsimp only [X,i_];exfalso) rfl (by first | exact acG rfl | exact aci rfl))) (λ_ _ _ _ _=>AI) (λ_ _ _ _ _=>(J_ iD hr.m (by rfl) (by exact T.dJ) xL (aq (pv 6) (aq (pv 3) (ao (dL ji (pv 0) (pv 4))))))))))))
     (af (aF (pm (fl (pv 0)) rD (aq (pv 2) (ao (pv 4))))))))))),?_⟩
 walk_at "0d";have k1:=k1 ht;have h3:ShG a H x.sh σ'.ns σ'.low:=⟨M.sh.same v0H,M.gd⟩;let⟨dxs,ts,f1,f2⟩:=id h3.1;let⟨_,_,_,g1,_⟩:=S.sy;symm;refine⟨λst q H1 s1 e1 hq1=>?_,k1⟩;have q1:Zx K H1 q ((lA n m.toNat).map V.int):=Zx.of e1;have g11:=s1 _ _ g1;have h11:=s1 _ _ h1;have rln:((lA n m.toNat).map V.int).length=m.toNat:=by rw[qa,kT]
 have m1:=st.1.1;have m64:=st.1.2;symm;refine⟨λokr=>?_,λz=>k2 ht st z _ s1⟩;let⟨ds,hss⟩:=M.ss.ob;have hss:=s1 _ _ (v0H _ _ hss);have SS:=M.ss.same s1;symm;refine⟨λz=>k3 ht st okr z _ s1,λnm ft=>?_,λnm gs u e ne=>k4 ht st okr nm gs u e ne _ s1⟩;symm;intro acc hacc
 let Iv1:L2.Cv:=λi ys H'=>Bx (∃us,ys=us.map V.ref/\H' acc=some (.lst ys)/\Lvs a H' us (rC i r s')/\us.length=i/\(∀z∈us,H1 z=none)/\∀b u,H1 b=some u->H' b=some u)
 refine pY (xs:=(lA n m.toNat).map V.int) Iv1 (by rw[rln,sizeLine_eq];lia) ⟨⟨[],rfl,ah,⟨rfl,λi x g h=>(by cases h)⟩,rfl,λz h=>(nomatch h),λb u e=>cT hacc _ _ e⟩⟩ (λi ys H2 z=>?_) (λi v ys H2 hx z R rr=>?_) (λys H2 z=>?_)
 · let⟨us,z1,z2,z3,z4,_,z5⟩:=z.o
   exact⟨z2,Zx.of (z5 _ _ e1),by rw[z1,qa];exact z4⟩
 · let⟨us,z1,z2,z3,z4,z6,z5⟩:=z.o
   let⟨c,rfl,hc⟩:=g_ hx;let⟨rfl,_⟩:=pX hc;symm;intro y' dy' hy' OH _;refine⟨y',dy',r,n+i-n,s',rfl,ah,λ_=>⟨rfl,?_⟩,λw=>absurd okr w⟩;rw[show n+(i:Int)-n=i by lia];generalize hh:upd (upd (upd _ dy' _) y' _) y' _=H3;let⟨s3,e3⟩:=Oc hy' OH hh;clear hh;have a3:=s3 _ _ z2;refine rr _ _ a3 ⟨⟨us++[y'],by rw[z1,qu];rfl,ah,?_,by rw[qd,z4];rfl,λz hz=>?_,λb u e=>?_⟩⟩
   · have es:rC (i+1) r s'=rC i r s'++[.named r s' i]:=by unfold rC;rw[List.range_succ,qu];rfl
     rw[es];have l3:=(z3.same s3).snoc (show iC a H3 y' (.named r s' i) from ⟨dy',e3⟩);exact⟨l3.len,λi x g h1 h2=>by let⟨d,e⟩:=l3.at' i x g h1 h2;exact ⟨d,by rw[ak λz=>by rw[z,a3] at e;cases e];exact e⟩⟩
   · rcases q_.mp hz with w | w
     · exact z6 z w
     · rw[qc.mp w]
       cases e:H1 y' with
       | none=>rfl
       | some u=>rw[z5 _ _ e] at hy';cases hy'
   · rw[ak (aj e hacc)];exact s3 _ _ (z5 _ _ e)
 · let⟨xs,z1,z2,LV,xl,zn,s2⟩:=z.o
   rw[rln] at LV xl;subst z1;have s2:Zy H1 H2:=s2;have s02:=s1.trans s2;have M2:=M.same s02;have g12:=s2 _ _ g11;have lv0:Lvs a (v0 O H2) xs (rC m.toNat r s'):=⟨LV.len,λi z g h1 h2=>by
     let⟨d,e⟩:=LV.at' i z g h1 h2;exact⟨d,(M.lv.same s1).new (zn z (qw h1)) e⟩⟩
   have S2:=S.same s02;have hl2:v0 O H2 acc=some (.lst (xs.map V.ref)):=(M.lv.same s1).new hacc z2;have st2:fO σ'.ns n (xs.length:Nat):=by rw[xl,show ((m.toNat:Nat):Int)=m by lia];exact st
   have fr2:∀j:Nat,j < xs.length->n+j∈σ'.L:=λj hj=>hL _ (by have:=st2.2;unfold InP;lia);have ok2:∀g∈rC m.toNat r s',OkR g.rights:=λg hg=>by let⟨j,_,rfl⟩:=Qa.mp hg;exact okr
   symm;refine⟨λj hj pr is d H3 hd s3=>k5 ht st okr nm ft j (by lia) pr is d H3 hd (s02.trans s3),λfr O3 H3 S3 g3=>?_⟩;let⟨M3,e3⟩:=M2.task hy S3 g3;let⟨inl,k6⟩:=k6 ht st okr nm ft λi hi=>fr i (by lia);have h13:=M3.ob.2;let⟨d3,hs3⟩:=M3.ss.ob;have hs3:=v0H _ _ hs3;have SS3:=M3.ss;have m3:1<=m/\m<=64:=st.1;symm;intro O4 H4 S4 g4;let⟨M4,e4⟩:=M3.shr S4 g4;symm;exact k6 O4 H4 ⟨x,z_,M4⟩ (((Go.same M.lv s02).trans e3).trans e4)
end
def NI (σ:Ms): Prop:=∀t n f r,σ.N (t,n,f,r)->σ.T t n=some (.held r f)/\OkR r/\∃ws,σ.C f=some (1,ws)
def WN (a:Adr): Sp:=λvs H Q E=>∃O k p σ x z_ t A dd,vs=[.ref p,.int t,.int A,.str dd]/\MmI a O H k p σ x z_/\NI σ/\(dd = "read" ∨ dd = "write")/\(¬InA σ.ns σ.low A->E (.ref a.d7) none H)/\(InA σ.ns σ.low A->∀H',Zy H H'->Q .non H')/\(InA σ.ns σ.low A->∀f r,σ.N (t,A / plc σ.low,f,r)->Ak r dd=true->∀H',Zy H H'->Q (.int f) H')
def Yy (a:Adr): Sp:=λvs H Q _=>∃p y r f,vs=[.ref p,.ref y]/\iC a H y (.held r f)/\Q (.ref y) H
def Sf (a:Adr): Sp:=λvs H Q _=>∃O k p σ x z_ yl g y c,vs=[.ref p,.ref yl,.ref y]/\MmI a O H k p σ x z_/\iC a H yl g/\g.kind≠3/\iC a H y c/\(c.kind=1\/c.kind=2->roomOf σ.C σ.D c≠none)/\Q (.bl (decide (c.kind=0\/1 < cnt (roomOf σ.C σ.D c)))) H
def U7 (a:Adr): Sp:=λvs H Q _=>∃O k p σ x z_ yl g t n f ws,vs=[.ref p,.int t,.int n,.ref yl,.int f]/\MmI a O H k p σ x z_/\iC a H yl g/\g.kind≠3/\OkR g.rights/\σ.C f=some (1,ws)/\0<=t/\0<=n/\σ.N (t,n,f,g.rights)/\∀H',MmI a O H' k p { σ with J:=none } x z_->Go (MP k) O H O H'->Q .non H'
def U8 (a:Adr): Sp:=λvs H Q _=>∃O k p σ x z_ yl g z c t n,vs=[.ref p,.int t,.int n,.ref yl,.ref z]/\MmI a O H k p σ x z_/\iC a H yl g/\g.kind≠3/\iC a (v0 O H) z c/\t∈σ.ts/\InN σ.ns σ.L n c/\∀O' H',MmI a O' H' k p (σ.at t ((σ.T t).put n (some c))) x z_->Go (MP k) O H O' H'->Q .non H'
def WO (a:Adr): Sp:=λvs H Q _=>∃O k p σ x z_ y r f ws t n i,vs=[.ref p,.int t,.int n,.int i,.ref y]/\MmI a O H k p σ x z_/\iC a (v0 O H) y (.held r f)/\OkR r/\σ.C f=some (1,ws)/\0<=t/\0<=n/\σ.N (t,n,f,r)/\(0<=i/\i < plc σ.low)/\∀H',MmI a O H' k p { σ with J:=none } x z_->Go (MP k) O H O H'->Q (.int (ws.getD i.toNat 0)) H'
section
variable [Gn]{a:Adr}{Zz:zu}
abbrev rE (a:Adr): Prop:=ZY P w K mg base 4 "near_frame" ["memory","task","address","deed"] (WN a) []
def DJ (T:Zq a)(jJ:rc a)(iT:lZ a)(pW:Jq a): rE a:=by
 exists T.FA,["memory","task","address","deed","known"];rintro⟨O,k',p,σ',x,z_,t,A',dd,rfl,M,ni,hd,k0,k1,k2⟩;left;refine⟨_,(ae (dM 4 nD (pm (fl (pv 0)) jJ (aq (pv 1) (ao (pm (fl (pv 0)) iT (ao (pv 2)))))))
     (ae (cG (PW.pt (Sz (ct A0 (pv 4) jS) (Mi (jh (g9 (pf pW (aq (hZ iI (pv 4) ai) (ao (pv 3))))))))) (af (bq jS)) bb)
     (af (bq (hZ iI (pv 4) ai))))),?_⟩
 have h1:=M.ob.2;let⟨dn,n1⟩:=M.nr.ob;let⟨kl,n2,L,_⟩:=M.nr.ln;have NO:NrO a H x.nr x.ln σ'.m kl:=⟨⟨dn,n1⟩,n2⟩;have s0:Zy (v0 O H) H:=v0H;have h3:ShG a H x.sh σ'.ns σ'.low:=⟨M.sh.same v0H,M.gd⟩;let⟨dxs,ts,f1,f2⟩:=id h3.1;ext;refine⟨λc=>?_,k0⟩;have k1:=k1 c;ext;refine⟨λH1 _ s1=>?_,λf r nr _ q H1 hq _ s1=>?_⟩
 · ext
   refine dI (λ_=>?_) λz=>absurd rfl z;refine eZ ?_;ext;exact k1 _ s1
 · let⟨_,okr,_⟩:=ni _ _ _ _ nr
   have fin:Ak r dd=true->Q (.int f) H1:=λh=>k2 c f r nr h H1 s1;ext;rcases hd with rfl | rfl
   · refine .inl ⟨rfl,_,rfl,?_⟩
     cases e:decide (r%2=1) with
     | false=>ext;exact k1 _ s1
     | true=>ext;exact fin (Ov e)
   · refine .inr ⟨rfl,_,rfl,?_⟩
     cases e:decide (2<=r) with
     | false=>ext;exact k1 _ s1
     | true=>ext;exact fin (Ow e)
abbrev rF (a:Adr): Prop:=ZY P w K mg base 9 "brought_in" ["memory","content"] (Yy a) []
def DK (T:Zq a)(nG:tG a)(jt:oB a)(eP:iS a): rF a:=by
 exists T.FD,["memory","content","told"];rintro⟨p,y,r,f',rfl,lf,k⟩;left;refine⟨_,(ae (cG (g9 (isi (aq (pv 1) (ao (eX (v:=.ref a.dN) (by rfl) T.eM rfl))))) (af (bq (pv 1))) bb)
     (ae (dM 2 nD (pm (fl (pv 0)) nG (ao (fl (pv 1)))))
     (ae (aF (pf jt (aq (pv 0) (ao (hZ iI (pv 2) ai)))))
     (af (bq (pk eP (aq (fl (pv 1)) (ao (hZ iI (pv 2) ai))))))))),?_⟩
 have ty:=lf.ty T;have kh:=Et T (.held r f');ext;exact k
abbrev mC (a:Adr): Prop:=ZY P w K mg base 5 "needs_new_content" ["memory","leaf","content"] (Sf a) []
def tM (T:Zq a)(jL:p_ a): mC a:=by
 exists T.uf,["memory","leaf","content"];rintro⟨O,k',p,σ',x,z_,yl,g,y,c,rfl,M,ll,kd,lf,ip,k⟩;left;refine⟨_,(ae (cG (g9 (isi (aq (pv 2) (ao (eX (v:=.ref a.dG) (by rfl) T.dP rfl))))) (af (bq vI)) bb)
     (af (bq (AX (Ip (isi (aq (pv 1) (ao (eX (v:=.ref a.dH) (by rfl) T.dJ rfl))))) (Io (ce Gu (pm (fl (pv 0)) jL (ao (pv 2))) ai)))))),?_⟩
 have h1:=M.ob.2;have P:=M.pl;let⟨dp,h2⟩:=P.o1;have ty:=lf.ty T;have kf:=SW T c;have tl:=ll.ty T;have kn:=Ew T g;ext;refine dI (λq=>?_) (λq=>?_)
 · rw[decide_eq_true (.inl q)] at k
   ext;exact k
 ext;have e2:decide (c.kind=0\/1 < cnt (roomOf σ'.C σ'.D c))=decide (1 < cnt (roomOf σ'.C σ'.D c)):=decide_eq_decide.mpr ⟨λz=>z.resolve_left q,.inr⟩;rw[e2] at k;exact k
abbrev rG (a:Adr): Prop:=ZY P w K mg base 5 "note_frame" ["memory","task","page","leaf","frame"] (U7 a) []
def DL (T:Zq a)(jL:p_ a)(eP:iS a)(tN:yP a): rG a:=by
 exists T.FC,["memory","task","page","leaf","frame","rights"];rintro⟨O,k',p,σ',x,z_,yl,g,t,n,f',ws,rfl,M,ll,kd,ok,rh,t0,n0,nr,k⟩;left;refine⟨_,(ae (dM 5 nD (fl (pv 3)))
     (ae (cG (PW.pt (pG (jh (g9 (isi (aq (pv 3) (ao (eX (v:=.ref a.dH) (by rfl) T.dJ rfl)))))) (pF (ct Gu (pm (fl (pv 0)) jL (ao (pk eP (aq (pv 5) (ao (pv 4)))))) ai)))) (af (dM 5 nD (dL AY (pv 5) (kO (by rfl) T.pR)))) bb)
     (af (aF (pm (fl (pv 0)) tN (aq (pv 1) (aq (pv 2) (aq (pv 4) (ao (pv 5)))))))))),?_⟩
 have h1:=M.ob.2;have P:=M.pl;let⟨dp,h2⟩:=P.o1;have tl:=ll.ty T;have kn:=Ew T g;let⟨dl,hl⟩:=id ll;have rr:=En (g:=g);let⟨cg,ng⟩:=Ju T g;ext;intro z dz hz hdz nz;refine⟨z,dz,g.rights,f',rfl,ah,λ_=>⟨rfl,?_⟩,λw=>absurd ok w⟩;generalize hh:upd (upd (upd _ dz _) z _) z _=H1;let⟨s1,e1⟩:=Oc hz hdz hh;clear hh;have M1:=M.same s1;have h11:=s1 _ _ h1;have P1:=M1.pl;have h21:=s1 _ _ h2;have lz:iC a H1 z (.held g.rights f'):=⟨dz,e1⟩;have ip:(Lf.held g.rights f').kind=1\/(Lf.held g.rights f').kind=2->roomOf σ'.C σ'.D (.held g.rights f')≠none:=λ_=>by show σ'.C f'≠none;rw[rh];exact nofun
 have ec:cnt (roomOf σ'.C σ'.D (.held g.rights f'))=1:=by show cnt (σ'.C f')=_;rw[rh];rfl
 have N2:=M1.nr;let⟨d2,n2⟩:=N2.ob;ext;intro H3 g3 N3;let⟨M3,e3⟩:=M1.near g3 N3;ext;exact k H3 M3.jno ((Go.same M.lv s1).trans e3)
abbrev uI (a:Adr): Prop:=ZY P w K mg base 7 "put_content" ["memory","task","page","leaf","content"] (U8 a) []
def Cj (T:Zq a)(rH:wJ a)(gZ:lV a)(eG:iZ a): uI a:=by
 exists T.De,["memory","task","page","leaf","content"];rintro⟨O,k',p,σ',x,z_,yl,g,z,c,t,n,rfl,M,ll,kd,lz,ht,inn,k⟩;left;refine⟨_,(af (cG (g9 (isi (aq (pv 3) (ao (eX (v:=.ref a.dH) (by rfl) T.dJ rfl))))) (af (aF (pm (fl (pv 0)) rH (aq (fl (pv 3)) (aq (fl (pv 3)) (ao (pv 4))))))) (af (aF (pm (pf eG (aq (pv 0) (ao (pv 1)))) gZ (aq (pv 2) (ao (pv 4)))))))),?_⟩;have tl:=ll.ty T;have kn:=Ew T g;ext;refine⟨λz=>absurd ht z,λ_ y hy=>?_⟩;let⟨y',hy',S⟩:=M.sp t ht;rw[hy] at hy';cases hy';let⟨_,_,_,g1,_⟩:=S.sy;ext;intro O' H' S' g';let⟨M',e'⟩:=M.task hy S' g';ext;exact k O' H' M' e'
abbrev xh (a:Adr): Prop:=ZY P w K mg base 10 "read_found" ["memory","task","page","place","leaf"] (WO a) []
def DM (T:Zq a)(jf:nq a)(jM:rF a)(jN:rG a)(kI:tD a): xh a:=by
 exists T.FE,["memory","task","page","place","leaf","content","frame"];rintro⟨O,k',p,σ',x,z_,y,r,f',ws,t,n,i,rfl,M,lf0,ok,rh,t0,n0,nr,ir,k⟩;left;refine⟨_,(ae (dM 5 nD (pf jf (aq (pv 0) (ao (pv 4)))))
     (ae (cG (g9 (isi (aq (pv 5) (ao (eX (v:=.ref a.dG) (by rfl) T.dP rfl))))) (af (bq ai)) bb)
     (ae (dM 6 nD (fl (pf jM (aq (pv 0) (ao (pv 5))))))
     (ae (aF (pf jN (aq (pv 0) (aq (pv 1) (aq (pv 2) (aq (pv 4) (ao (pv 6))))))))
     (af (bq (pm (fl (pv 0)) kI (aq (pv 6) (ao (pv 3)))))))))),?_⟩
 have kd:(Lf.held r f').kind≠3:=nofun
 ext;intro y' l0;have ly:=l0.same v0H;have ty:=ly.ty T;have kf:=SW T (.held r f');let⟨dz,hz⟩:=id ly;have hz:H y'=some (.ins a.dN dz [("rights",.int r),("frame",.int f')]):=hz;have L1:=lf0.same v0H;have ok2:OkR (Lf.held r f').rights:=ok;have nr2:σ'.N (t,n,f',(Lf.held r f').rights):=nr;ext;intro H2 M2 g2;have h12:=M2.ob.2;have P2:=M2.pl;let⟨dp,p1⟩:=P2.o1;ext;intro H3 P3 g3;let⟨M3,e3⟩:=M2.pool P3 g3;ext;exact k H3 M3 (g2.trans e3)
end
def z42 (σ:Ms)(i v:Int): List Int:=(qq (plc σ.low).toNat 0).set i.toNat v
def U9 (a:Adr): Sp:=λvs H Q E=>∃O k p σ x z_ y r i v,vs=[.ref p,.ref y,.int i,.int v]/\MmI a O H k p σ x z_/\σ.nz=0/\iC a (v0 O H) y (.fresh r)/\OkR r/\(0<=i/\i < plc σ.low)/\(0<=v/\v < 2^64)/\(0∉tal σ.nf σ.C->∀H',Zy H H'->E (.ref a.jC) none H') ∧
 (0∈tal σ.nf σ.C->∀z j O' H',σ.C j=none->(0<=j/\j < σ.nf)->MmI a O' H' k p { σ with C:=gL σ.C j (some (1,z42 σ i v)),J:=none } x z_->iC a (v0 O' H') z (.held r j)->Go (MP k) O H O' H'->Q (.ref z) H')
def WQ (a:Adr): Sp:=λvs H Q E=>∃O k p σ x z_ y g i v,vs=[.ref p,.int i,.ref y,.int v]/\MmI a O H k p σ x z_/\σ.nz=0/\iC a (v0 O H) y g/\OkR g.rights/\(0<=i/\i < plc σ.low)/\(0<=v/\v < 2^64)/\((∃r,g=.fresh r)\/∃r f ws,g=.held r f/\σ.C f=some (1,ws))/\(∀r,g=.fresh r->0∉tal σ.nf σ.C->∀H',Zy H H'->E (.ref a.jC) none H') ∧
 (∀r,g=.fresh r->0∈tal σ.nf σ.C->∀z j O' H',σ.C j=none->(0<=j/\j < σ.nf)->MmI a O' H' k p { σ with C:=gL σ.C j (some (1,z42 σ i v)),J:=none } x z_->iC a (v0 O' H') z (.held r j)->Go (MP k) O H O' H'->Q (.ref z) H') ∧
 (∀r f ws,g=.held r f->σ.C f=some (1,ws)->∀z H',MmI a O H' k p { σ with C:=gL σ.C f (some (1,ws.set i.toNat v)) } x z_->iC a (v0 O H') z (.held r f)->Go (MP k) O H O H'->Q (.ref z) H')
def Sg {s i v:Int}{ws:zm}(h:WOk s ws)(hv:0<=v/\v < 2^64): WOk s (ws.set i.toNat v) :=
 ⟨by rw[abD];exact h.1,λw hw=>(acN hw).elim (h.2 w) λz=>by rw[z];exact hv⟩
section
variable [Gn]{a:Adr}{Zz:zu}
abbrev uJ (a:Adr): Prop:=ZY P w K mg base 9 "new_content" ["memory","content","place","word"] (U9 a) []
def Ck (T:Zq a)(rJ:wU a)(tO:yM a)(jt:oB a)(iO:nA a)(vq:B7 a)(eP:iS a): uJ a:=by
 exists T.Dd,["memory","content","place","word","words","told"];rintro⟨O,k',p,σ',x,z_,y,r,i,v,rfl,M,nz0,lf0,ok,ir,wv,k1,k2⟩;left;refine⟨_,(ae (dM 4 nD (pm (fl (pv 0)) rJ (ao (pv 1))))
     (ae (mS (pv 3) (uO (pv 4) (pv 2) set_list))
     (ae (dM 5 nD (pm (fl (pv 0)) tO (ao (pv 4))))
     (ae (aF (pf jt (aq (pv 0) (ao (hZ iI (pv 5) ai)))))
     (ae (aF (pf iO (aq (pv 0) (ao (pf vq (aq (pv 1) (ao (hZ iI (pv 5) ai))))))))
     (af (bq (pk eP (aq (fl (pv 1)) (ao (hZ iI (pv 5) ai))))))))))),?_⟩
 have h1:=M.ob.2;have P:=M.pl;let⟨dp,h2⟩:=P.o1;have lf:=lf0.same v0H;have ip:(Lf.fresh r).kind=1\/(Lf.fresh r).kind=2->roomOf σ'.C σ'.D (.fresh r)≠none:=λz=>by rcases z with z | z<;>cases z
 have ow:WOk (plc σ'.low) (qq (plc σ'.low).toNat 0):=⟨by rw[qO];lia,λw h=>by rw[Q6 h];decide⟩;have ow2:=Sg (i:=i) ow wv;ext;intro q H1 hq e1 s1;have e1:H1 q=some (.lst ((qq (plc σ'.low).toNat 0).map V.int)):=e1;have ix:=Ka (ns:=qq (plc σ'.low).toNat 0) (n:=i) ir.1 (by rw[qO];lia);have h11:=s1 _ _ h1;ext;generalize hh:upd H1 q _=H2;have e2:H2 q=some (.lst ((z42 σ' i v).map V.int)):=by rw[<-hh,ah,z42,adA]
 have s2:Zy H H2:=λb u e=>by rw[<-hh,ak (aj e hq)];exact s1 _ _ e
 clear hh;have ow2:WOk (plc σ'.low) (z42 σ' i v):=ow2;have M2:=M.same s2;have P2:PoM a O H2 k' x.pl σ'.nf σ'.nz (plc σ'.low) σ'.C σ'.D:=M2.pl;rw[nz0] at P2;have h12:=s2 _ _ h1;have h22:=s2 _ _ h2;have oq:O q=none:=M.lv.no hq;ext;refine⟨λrm t l j O1 H3 cj jb ht hl0 P3 g3=>?_,λrm=>k1 rm _ s2⟩;let⟨M3,e3⟩:=M2.pool (C':=gL σ'.C j (some (1,z42 σ' i v))) (D':=σ'.D) (by show PoM a O1 H3 k' x.pl σ'.nf σ'.nz (plc σ'.low) _ _;rw[nz0];exact P3) g3;have ht1:=(fQ ht).1;have a0:atI [V.int j,V.ref l] 0=some (.int j):=rfl;have a1:atI [V.int j,V.ref l] 1=some (.ref l):=rfl;have hl:=(fQ hl0).1;have L4:=(lf0.same (v0S s2)).same e3.v0;ext;have ir5:InR { σ' with C:=gL σ'.C j (some (1,z42 σ' i v)) } (.fresh r):=⟨λz=>(by rcases z with z | z<;>cases z),nofun⟩;ext;intro H6 M6 g6;have ht6:=(fQ (g6.v0 _ _ ht)).1;let⟨dy,hy6⟩:=(L4.same g6.v0).same v0H;have hy6:H6 y=some (.ins a.dG dy [("rights",.int r)]):=hy6;ext;intro z' dz' hz' Yz nz';refine⟨z',dz',r,j,rfl,ah,λ_=>⟨rfl,?_⟩,λw=>absurd ok w⟩;generalize hh:upd (upd (upd _ dz' _) z' _) z' _=H7;let⟨s7,e7⟩:=Oc hz' Yz hh;clear hh;ext;exact k2 rm z' j O1 H7 cj jb ((M6.wY λ_ z=>z.1).same s7) ⟨dz',M6.lv.new hz' e7⟩ ((((Go.same M.lv s2).trans e3).trans g6).trans (.same g6.lv s7))
abbrev nW (a:Adr): Prop:=ZY P w K mg base 10 "written_content" ["memory","place","leaf","word"] (WQ a) []
def vt (T:Zq a)(jf:nq a)(jY:mC a)(oO:uJ a)(jM:rF a)(lK:vh a): nW a:=by
 exists T.wq,["memory","place","leaf","word","content"];rintro⟨O,k',p,σ',x,z_,y,g,i,v,rfl,M,nz0,lf0,ok,ir,wv,cs,k1,k2,k3⟩;left;refine⟨_,(ae (dM 4 nD (pf jf (aq (pv 0) (ao (pv 2)))))
     (ae (cG (g9 (pf jY (aq (pv 0) (aq (pv 2) (ao (pv 4)))))) (af (bq (pf oO (aq (pv 0) (aq (pv 4) (aq (pv 1) (ao (pv 3)))))))) bb)
     (ae (dM 4 nD (pf jM (aq (pv 0) (ao (pv 4)))))
     (ae (aF (pm (fl (pv 0)) lK (aq (fl (pv 4)) (aq (pv 1) (ao (pv 3))))))
     (af (bq (pv 4))))))),?_⟩
 have lf:=lf0.same v0H;rcases cs with ⟨r,rfl⟩ | ⟨r,f',ws,rfl,rh⟩
 · have kd:(Lf.fresh r).kind≠3:=nofun
   have ok:OkR r:=ok;have k1:=k1 r rfl;have k2:=k2 r rfl;have ip:(Lf.fresh r).kind=1\/(Lf.fresh r).kind=2->roomOf σ'.C σ'.D (.fresh r)≠none:=λz=>by rcases z with z | z<;>cases z
   ext;intro y' l0;have ly:=l0.same v0H;ext;exact k2
 · have kd:(Lf.held r f').kind≠3:=nofun
   have k3:=k3 r f' ws rfl rh;have ip:(Lf.held r f').kind=1\/(Lf.held r f').kind=2->roomOf σ'.C σ'.D (.held r f')≠none:=λ_=>by show σ'.C f'≠none;rw[rh];exact nofun
   have ec:decide ((Lf.held r f').kind=0\/1 < cnt (roomOf σ'.C σ'.D (.held r f')))=false:=decide_eq_false (by show ¬((1:Nat)=0\/1 < cnt (σ'.C f'));rw[rh];exact nofun);ext;intro y' l0;have ly:=l0.same v0H;let⟨dz,hz⟩:=id ly;have hz:H y'=some (.ins a.dN dz [("rights",.int r),("frame",.int f')]):=hz;have h11:=M.ob.2;have P1:=M.pl;let⟨dp,p1⟩:=P1.o1;ext;rw[ec];ext;intro H2 P2 g2;let⟨M2,e2⟩:=M.pool P2 g2;ext;exact k3 y' H2 M2 (l0.same e2.v0) e2
end
abbrev nwN (N:mL->Prop)(q0:mL): mL->Prop:=λq=>N q\/q=q0
def OI (a:Adr): Sp:=λvs H Q E=>∃O k p σ t A,vs=[.ref p,.int t,.int A]/\Mz a O H k p σ/\NI σ/\(t∉σ.ts->E (.ref a.fH) none H)/\(t∈σ.ts->¬InA σ.ns σ.low A->E (.ref a.d7) none H) ∧
 (t∈σ.ts->InA σ.ns σ.low A->σ.T t (A / plc σ.low)=none->Flt H E a.cP (mG (.int t) (.int A) (.str "read")))/\(t∈σ.ts->InA σ.ns σ.low A->∀g,σ.T t (A / plc σ.low)=some g->Ak g.rights "read" = false->Flt H E a.fK (mG (.int t) (.int A) (.str "read"))) ∧
 (t∈σ.ts->InA σ.ns σ.low A->∀g,σ.T t (A / plc σ.low)=some g->Ak g.rights "read" = true->∃r f ws,g=.held r f/\σ.C f=some (1,ws)/\σ.N (t,A / plc σ.low,f,r)/\∀w' H',Mz a O H' k p { σ with w:=w',J:=none }->Go (MP k) O H O H'->Q (.int (ws.getD (A%plc σ.low).toNat 0)) H')
def L5 (a:Adr): Sp:=λvs H Q E=>∃O k p σ t A v,vs=[.ref p,.int t,.int A,.int v]/\Mz a O H k p σ/\NI σ/\σ.nz=0/\(t∉σ.ts->E (.ref a.fH) none H)/\(t∈σ.ts->¬InA σ.ns σ.low A->E (.ref a.d7) none H)/\(t∈σ.ts->InA σ.ns σ.low A->¬(0<=v/\v < 2^64)->∀H',Zy H H'->E (.ref a.iL) none H') ∧
 (t∈σ.ts->InA σ.ns σ.low A->(0<=v/\v < 2^64)->σ.T t (A / plc σ.low)=none->Flt H E a.cP (mG (.int t) (.int A) (.str "write")))/\(t∈σ.ts->InA σ.ns σ.low A->(0<=v/\v < 2^64)->∀g,σ.T t (A / plc σ.low)=some g->Ak g.rights "write" = false->Flt H E a.fK (mG (.int t) (.int A) (.str "write"))) ∧
 (t∈σ.ts->InA σ.ns σ.low A->∀g,σ.T t (A / plc σ.low)=some g->Ak g.rights "write" = true->(∃r,g=.fresh r)\/∃r f ws,g=.held r f/\σ.C f=some (1,ws)) ∧
 (t∈σ.ts->InA σ.ns σ.low A->(0<=v/\v < 2^64)->∀r,σ.T t (A / plc σ.low)=some (.fresh r)->Ak r "write" = true->0∉tal σ.nf σ.C->∀H',Zy H H'->E (.ref a.jC) none H') ∧
 (t∈σ.ts->InA σ.ns σ.low A->(0<=v/\v < 2^64)->∀r,σ.T t (A / plc σ.low)=some (.fresh r)->0∈tal σ.nf σ.C->∀j w' O' H',σ.C j=none->(0<=j/\j < σ.nf)->Mz a O' H' k p { σ.at t ((σ.T t).put (A / plc σ.low) (some (.held r j))) with C:=gL σ.C j (some (1,z42 σ (A%plc σ.low) v)),w:=w',N:=nwN σ.N (t,A / plc σ.low,j,r),J:=none }->Go (MP k) O H O' H'->Q .non H') ∧
 (t∈σ.ts->InA σ.ns σ.low A->(0<=v/\v < 2^64)->∀r f ws,σ.T t (A / plc σ.low)=some (.held r f)->σ.C f=some (1,ws)->∀w' O' H',Mz a O' H' k p { σ.at t ((σ.T t).put (A / plc σ.low) (some (.held r f))) with C:=gL σ.C f (some (1,ws.set (A%plc σ.low).toNat v)),w:=w',N:=nwN σ.N (t,A / plc σ.low,f,r),J:=none }->Go (MP k) O H O' H'->Q .non H')
section
variable [Gn]{a:Adr}{Zz:zu}
abbrev tP (a:Adr): Prop:=ZY P w K mg base 11 "read_word" ["memory","task","address"] (OI a) []
def Gf (T:Zq a)(eG:iZ a)(jO:rE a)(kI:tD a)(gp:jF a)(jP:pZ a)(rK:xh a): tP a:=by
 exists T.Hx,["memory","task","address","space","frame","found","word"];rintro⟨O,k',p,σ',t,A',rfl,⟨x,z_,M⟩,ni,k0,k1,k2,k3,k4⟩;left;refine⟨_,(ae (dM 3 nD (pf eG (aq (pv 0) (ao (pv 1)))))
     (ae (dM 4 nD (pf jO (aq (pv 0) (aq (pv 1) (aq (pv 2) (ao aD))))))
     (ae (cG (ct vK (pv 4) jS) (af (bq (pm (fl (pv 0)) kI (aq (pv 4) (ao (pm (fl (pv 0)) gp (ao (pv 2)))))))) bb)
     (ae (dM 5 nD (pm (pv 3) jP (aq (pv 2) (ao aD))))
     (ae (dM 6 nD (pf rK (aq (pv 0) (aq (pv 1) (aq (hZ iI (pv 5) ai) (aq (hZ iI (pv 5) ai) (ao (hZ iI (pv 5) ai))))))))
     (ae (fR (pv 0) (dL kL (fl (pv 0)) ai) rfl)
     (af (bq (pv 6))))))))),?_⟩
 walk_at "0d";have k1:=k1 ht;have dd:("read" : Str) = "read" ∨ ("read" : Str) = "write" := .inl rfl;ext;refine⟨λc H0 s0=>?_,λc f' r' nr mb H0 s0=>?_⟩
 · have M0:=M.same s0
   have S0:=S.same s0;have h10:=M0.ob.2;let⟨_,_,_,g1,_⟩:=S0.sy;let⟨bd,ir⟩:=BR c;ext;refine⟨λ_ e d H' hd s=>k2 ht c e d H' hd (s0.trans s),λ_ g e mb d H' hd s=>k3 ht c g e mb d H' hd (s0.trans s),λ_ g e mb u xa H1 hu0 l1 s1=>?_⟩;let⟨r,f',ws,rfl,rh,nr,k4⟩:=k4 ht c g e mb;have ok:OkR r:=(S.inn _ _ e).2.2;have hu:=v0H _ _ hu0;have M1:=M0.same s1;have L1:=l1.same (v0S s1);have t0:=M.t0 t ht;have n0:=bd.1;ext;intro H2 M2 g2;have h12:=M2.ob.2;ext;let⟨M3,e3⟩:=M2.walk (w':=σ'.w+1);exact k4 _ _ ⟨x,z_,M3⟩ ((((Go.same M.lv s0).trans (.same M0.lv s1)).trans g2).trans e3)
 · let⟨e,okr,_⟩:=ni _ _ _ _ nr
   let⟨r,f2,ws,e2,rh,_,k4⟩:=k4 ht c _ e mb;cases e2;have M1:=M.same s0;have h11:=M1.ob.2;have P1:=M1.pl;let⟨dp,p1⟩:=P1.o1;have h3:ShG a H0 x.sh σ'.ns σ'.low:=⟨M1.sh.same v0H,M1.gd⟩;let⟨dxs,ts,g1,g2⟩:=id h3.1;let⟨bd,ir⟩:=BR c;ext;refine⟨λ_=>?_,λz=>absurd c z⟩;ext;intro H3 P3 g3;let⟨M3,e3'⟩:=M1.pool P3 g3;ext;exact k4 _ H3 ⟨x,z_,M3.jno⟩ ((Go.same M.lv s0).trans e3')
abbrev rL (a:Adr): Prop:=ZY P w K mg base 11 "write_word" ["memory","task","address","word"] (L5 a) []
def DN (T:Zq a)(eG:iZ a)(jO:rE a)(iy:mI a)(lK:vh a)(gp:jF a)(jP:pZ a)(k9:nW a)(oP:uI a)(jN:rG a): rL a:=by
 exists T.FG,["memory","task","address","word","space","frame","found","content"];rintro⟨O,k',p,σ',t,A',v,rfl,⟨x,z_,M⟩,ni,nz0,k0,k1,k2,k3,k4,cs,k5,k6,k7⟩;left;refine⟨_,(ae (dM 4 nD (pf eG (aq (pv 0) (ao (pv 1)))))
     (ae (dM 5 nD (pf jO (aq (pv 0) (aq (pv 1) (aq (pv 2) (ao aD))))))
     (ae (aF (pf iy (ao (pv 3))))
     (ae (cG (ct vK (pv 5) jS) (ae (aF (pm (fl (pv 0)) lK (aq (pv 5) (aq (pm (fl (pv 0)) gp (ao (pv 2))) (ao (pv 3))))))
     (af JL)) bb)
     (ae (dM 6 nD (pm (pv 4) jP (aq (pv 2) (ao aD))))
     (ae (dM 7 nD (pf k9 (aq (pv 0) (aq (hZ iI (pv 6) ai) (aq (hZ iI (pv 6) ai) (ao (pv 3)))))))
     (ae (aF (pf oP (aq (pv 0) (aq (pv 1) (aq (hZ iI (pv 6) ai) (aq (hZ iI (pv 6) ai) (ao (pv 7))))))))
     (ae (aF (pf jN (aq (pv 0) (aq (pv 1) (aq (hZ iI (pv 6) ai) (aq (hZ iI (pv 6) ai) (ao (fl (pv 7)))))))))
     (af (fR (pv 0) (dL kL (fl (pv 0)) ai) rfl)))))))))),?_⟩
 walk_at "0d";have k1:=k1 ht;have dd:("write" : Str) = "read" ∨ ("write" : Str) = "write" := .inr rfl;ext;refine⟨λc H0 s0=>?_,λc f' r' nr mb H0 s0=>?_⟩
 · have M0:=M.same s0
   have S0:=S.same s0;have h10:=M0.ob.2;let⟨_,_,_,g1,_⟩:=S0.sy;let⟨bd,ir⟩:=BR c;ext;refine⟨λwv=>?_,λz=>k2 ht c z _ s0⟩;ext;refine⟨λ_ e d H' hd s=>k3 ht c wv e d H' hd (s0.trans s),λ_ g e mb d H' hd s=>k4 ht c wv g e mb d H' hd (s0.trans s),λ_ g e mb u xa H1 hu0 l1 s1=>?_⟩;have cs:=cs ht c g e mb;let⟨_,nL,ok⟩:=S.inn _ _ e;have hu:=v0H _ _ hu0;have M1:=M0.same s1;have L1:=l1.same (v0S s1);have t0:=M.t0 t ht;have n0:=bd.1;have g01:Go (MP k') O H O H1:=(Go.same M.lv s0).trans (.same M0.lv s1);ext;refine⟨λr er nf H2 s2=>k5 ht c wv r (er ▸ e) (by rw[er] at mb;exact mb) nf H2 ((s0.trans s1).trans s2),λr er fr z j O2 H2 cj jb M2 l2 g2=>?_,λr f' ws er rh z H2 M2 l2 g2=>?_⟩
   · subst er
     have hu2:=(fQ (g2.v0 _ _ hu0)).1;have L2:=(L1.same g2.v0).same v0H;have kd:(Lf.fresh r).kind≠3:=nofun
     have inn:InN σ'.ns σ'.L (A' / plc σ'.low) (.held r j):=⟨bd,nL,ok⟩;ext;intro O3 H3 M3 g3;have M3:=M3.wY (N':=nwN σ'.N (t,A' / plc σ'.low,j,r)) λ_ z=>.inl z;have hu3:=(fQ (g3.v0 _ _ (g2.v0 _ _ hu0))).1;have L3:=((L1.same g2.v0).same g3.v0).same v0H;let⟨dz,hz⟩:=(l2.same g3.v0).same v0H;have hz:H3 z=some (.ins a.dN dz [("rights",.int r),("frame",.int j)]):=hz;have rh:gL σ'.C j (some (1,z42 σ' (A'%plc σ'.low) v)) j=some (1,z42 σ' (A'%plc σ'.low) v):=if_pos rfl;have nr:nwN σ'.N (t,A' / plc σ'.low,j,r) (t,A' / plc σ'.low,j,(Lf.fresh r).rights):=.inr rfl;ext;intro H4 M4 g4;have h14:=M4.ob.2;ext;let⟨M5,e5⟩:=M4.walk (w':=σ'.w+1);exact k6 ht c wv r e fr j _ O3 _ cj jb ⟨x,z_,M5⟩ ((((g01.trans g2).trans g3).trans g4).trans e5)
   · subst er
     have hu2:=(fQ (g2.v0 _ _ hu0)).1;have L2:=(L1.same g2.v0).same v0H;have kd:(Lf.held r f').kind≠3:=nofun
     have inn:InN σ'.ns σ'.L (A' / plc σ'.low) (.held r f'):=⟨bd,nL,ok⟩;ext;intro O3 H3 M3 g3;have M3:=M3.wY (N':=nwN σ'.N (t,A' / plc σ'.low,f',r)) λ_ z=>.inl z;have hu3:=(fQ (g3.v0 _ _ (g2.v0 _ _ hu0))).1;have L3:=((L1.same g2.v0).same g3.v0).same v0H;let⟨dz,hz⟩:=(l2.same g3.v0).same v0H;have hz:H3 z=some (.ins a.dN dz [("rights",.int r),("frame",.int f')]):=hz;have rh2:gL σ'.C f' (some (1,ws.set (A'%plc σ'.low).toNat v)) f'=some (1,ws.set (A'%plc σ'.low).toNat v):=if_pos rfl;have nr:nwN σ'.N (t,A' / plc σ'.low,f',r) (t,A' / plc σ'.low,f',(Lf.held r f').rights):=.inr rfl;ext;intro H4 M4 g4;have h14:=M4.ob.2;ext;let⟨M5,e5⟩:=M4.walk (w':=σ'.w+1);exact k7 ht c wv r f' ws e rh _ O3 _ ⟨x,z_,M5⟩ ((((g01.trans g2).trans g3).trans g4).trans e5)
 · let⟨e,okr,ws,rh⟩:=ni _ _ _ _ nr
   have M1:=M.same s0;have h11:=M1.ob.2;have P1:=M1.pl;let⟨dp,p1⟩:=P1.o1;have h3:ShG a H0 x.sh σ'.ns σ'.low:=⟨M1.sh.same v0H,M1.gd⟩;let⟨dxs,ts,g1,g2⟩:=id h3.1;let⟨bd,ir⟩:=BR c;ext;refine⟨λwv=>?_,λz=>k2 ht c z _ s0⟩;ext;refine⟨λ_=>?_,λz=>absurd c z⟩;ext;intro H3 P3 g3;let⟨M3,e3'⟩:=M1.pool P3 g3;ext;have et:(σ'.T t).put (A' / plc σ'.low) (some (.held r' f'))=σ'.T t:=funext λq=>by
     by_cases z:q=A' / plc σ'.low
     · rw[z,Mf.Jr];exact e.symm
     · exact Mf.Js z
   refine k7 ht c wv r' f' ws e rh σ'.w O H3 ⟨x,z_,(M3.jno.wY λ_ z=>.inl z).vb λt' _=>?_⟩ ((Go.same M.lv s0).trans e3');show (if t'=t then _ else σ'.T t')=σ'.T t';split
   · rename_i z;rw[z,et]
   · rfl
end
def Sh {low:Int}(h0:0<=low)(h6:low<=6): (1:Int)<=2^low.toNat/\(2:Int)^low.toNat<=64:=by
 let⟨n,rfl⟩:=abb h0;have:n<=6:=by lia
 rw[Qk]
 match n,this with
 | 0,_=>decide
 | 1,_=>decide
 | 2,_=>decide
 | 3,_=>decide
 | 4,_=>decide
 | 5,_=>decide
 | 6,_=>decide
def Go.nw {P:zP}{O:Lab}{H H':Hp}{b:Addr}{i:Pt}{u:HO}(L:Lv O H)(s:Zy H H')(h:H b=none)(e:H' b=some u): Go P O H (lab O b i) H':=⟨λc n=>by
 by_cases z:c=b
 · exact⟨u,by rw[z];exact e⟩
 · rw[gK z] at n;let⟨v,q⟩:=L c n;exact⟨v,s _ _ q⟩,λc v q _=>⟨s _ _ q,gK (aj q h)⟩,λc v q=>⟨v,s _ _ q⟩⟩
def U_ {H H1:Hp}{p:Addr}{o:HO}(hh:upd H p o=H1): H1 p=some o/\Kq p H H1:=by subst hh;exact⟨ah,λb u e n=>by rw[ak n];exact e⟩
def ms0 (ns L:zm)(low:Int)(nf nz:Nat)(m:Int)(Ln:zq): Ms:=⟨ns,low,nf,nz,λ_=>none,λ_=>none,[],L,λ_ _=>none,0,m,λ_=>False,none,Ln,λ_=>none⟩
def WR (a:Adr): Sp:=λvs H Q _=>∃(p dx:Addr),vs=[.ref p]/\H p=some (.ins a.eW dx [])/\∀kd H',H kd=none->H' p=some (.ins a.eW dx [("kept",.ref kd)])->H' kd=some (.dK [])->Kq p H H'->Q .non H'
def WT (a:Adr): Sp:=λvs H Q _=>∃O k p sh dx ns L low Ln,∃(nf nz:Nat) (e:Int),vs=[.ref p,.ref sh,.int nf,.int nz,.int e]/\Lv O H/\O p=none/\L.length < 64/\Ln.length < 64/\OkM e/\H p=some (.ins a.fq dx [])/\u_ a.eK (v0 O H) sh ns low/\Good ns low/\(1<=nf/\nf<=64)/\nz<=64 ∧
 ∀O' H',Mz a O' H' k p (ms0 ns L low nf nz e Ln)->(∀b u,H b=some u->b≠p->H' b=some u/\O' b=O b)->Q .non H'
section
variable [Gn]{a:Adr}{Zz:zu}
abbrev nX (a:Adr): Prop:=jw P w K mg base a.eW 1 ["self"] (WR a) []
def vy (T:Zq a): nX a:=by
 exists T.wn,["self"];rintro⟨p,dx,rfl,hp,k⟩;left;refine⟨_,(af (fR (pv 0) oZ rfl)),?_⟩;symm;intro d hd;have pd:=aj hp hd;symm;exact k d _ hd ah (by rw[ak pd.symm];exact ah) λb u e nb=>by rw[ak nb,ak (aj e hd)];exact e
def vA (R:jE K a.fq "Memory.__init__" (cS 67 0) ["self","shape","frames","slots","near"] Zz) (T:Zq a)
   (mw:rY a)
   (gE:kQ a)
   (mx:rZ a)
   (k_:nX a) :
   jw P w K mg base a.fq 7 ["self","shape","frames","slots","near"] (WT a) Zz:=by
 refine R.ok uV (by walk_at "l0") ?_;intro f cdv A outer s H vs Q E hr;rintro⟨O,k',p,sh,dx,ns,L,low,Ln,nf,nz,me,rfl,lv,op,hL,hLn,he,hp,S,g,hn,hm,k1⟩;left;refine⟨_,(ae (fR (pv 0) (pv 1) rfl)
     (ae (fR (pv 0) (pk mw (aq (pv 2) (aq (pv 3) (ao (pm0 (pv 1) gE))))) rfl)
     (ae (fR (pv 0) (pk mx (ao (pv 4))) rfl)
     (ae (fR (pv 0) (Uw k_ hr.m (by rfl) T.di iJ) rfl)
     (ae (fR (pv 0) oZ rfl)
     (af (fR (pv 0) ai rfl))))))),?_⟩
 have so:=Sh g.LL g.LN;have SH:=S.same v0H;let⟨dxs,ts,z1,z2⟩:=id S;have hs:=(fQ z1).1;have hw:=(fQ z2).1;have nsp:sh≠p:=λz=>by
   rw[z,hp] at hs;injection hs with hs;injection hs with _ _ hs;cases hs
 have ntp:ts≠p:=λz=>by rw[z,hp] at hw;cases hw
 have SA:ShG a (upd H p (.ins a.fq dx (jT "shape" (.ref sh) []))) sh ns low:=⟨⟨dxs,ts,by rw[ak nsp];exact hs,by rw[ak ntp];exact hw⟩,g⟩;have hs':upd H p (.ins a.fq dx (jT "shape" (.ref sh) [])) sh=_:=(ak nsp).trans hs;have L0:Lv (lab O p (pt k' .mem)) H:=λb n=>by
   by_cases z:b=p
   · exact⟨_,by rw[z];exact hp⟩
   · rw[gK z] at n;exact lv b n
 have ol:lab O p (pt k' .mem) p=some (pt k' .mem):=if_pos rfl;have g0:Go1 (pt k' .mem) (lab O p (pt k' .mem)) H (lab O p (pt k' .mem)) (upd H p (.ins a.fq dx (jT "shape" (.ref sh) []))):=.put L0 ol rfl;generalize hO:lab O p (pt k' .mem)=O0 at L0 ol g0;symm;generalize hA:upd _ p _=HA at *;have hpA:HA p=some (.ins a.fq dx (jT "shape" (.ref sh) [])):=by rw[<-hA];exact ah
 refine λx1 d1 hx1 hd1 _=>⟨O0,k',x1,d1,nf,nz,_,rfl,ah,g0.lv.same (Ey hx1 hd1),g0.lv.no hx1,hn.1,hn.2,hm,so.1,so.2,λxp O1 H1 xe P1 q1 w1=>⟨rfl,?_⟩⟩;subst xe;have sA1:Zy HA H1:=λb u e=>mkd hx1 hd1 q1 e;have wA1:∀b u,HA b=some u->O1 b=O0 b:=λb u e=>w1 b u (Ey hx1 hd1 _ _ e);have o1:O1 p=some (pt k' .mem):=(wA1 p _ hpA).trans ol;have lv1:=P1.hd.lv;have gA1:Go1 (pt k' .mem) O0 HA O1 H1:=⟨lv1,λb u e _=>⟨sA1 _ _ e,wA1 b u e⟩,λb u e=>⟨u,sA1 _ _ e⟩⟩;have hp1:=sA1 _ _ hpA;symm;generalize hB:upd H1 p _=HB;have gB:Go1 (pt k' .mem) O1 H1 O1 HB:=by rw[<-hB];exact .put lv1 o1 rfl
 let⟨hpB,kB⟩:=U_ hB;clear hB;refine λx2 d2 hx2 hd2 _=>⟨x2,d2,me,rfl,ah,he,λln H2 hl N2 q2=>⟨rfl,?_⟩⟩;have sB2:Zy HB H2:=λb u e=>mkd hx2 hd2 q2 e;have hlB:=sQ (Ey hx2 hd2) hl;let⟨⟨dn,n1⟩,n2⟩:=N2;have g2:Go1 (pt k' .mem) O1 HB (lab O1 ln (pt k' .nr)) H2:=.nw gB.lv sB2 hlB n2;have ox2:lab O1 ln (pt k' .nr) x2=none:=(gK (i7 n1 n2 nofun)).trans (gB.lv.no hx2);have Ne:NeM a (lab O1 ln (pt k' .nr)) H2 (pt k' .nr) x2 ln me (λ_=>False) none:=⟨g2.lv,ox2,if_pos rfl,⟨dn,n1⟩,[],n2,⟨⟨[],rfl⟩,aaX,λ_ _ z=>(nomatch z),λ_ _ z=>(nomatch z),he⟩,λ_ z=>(nomatch z)⟩;have hp2:=sB2 _ _ hpB;have o2:lab O1 ln (pt k' .nr) p=some (pt k' .mem):=(gK (aj hpB hlB)).trans o1;have l2:∀{b u},HB b=some u->lab O1 ln (pt k' .nr) b=O1 b:=λe=>gK (aj e hlB);generalize lab O1 ln (pt k' .nr)=O2 at g2 ox2 Ne o2 l2;symm;generalize hC:upd H2 p _=HC;have gC:Go1 (pt k' .mem) O2 H2 O2 HC:=by rw[<-hC];exact .put g2.lv o2 rfl
 let⟨hpC,kC⟩:=U_ hC;clear hC;refine λx3 d3 hx3 hd3 _=>⟨x3,d3,rfl,ah,λkd H3 hk e3 f3 q3=>⟨rfl,?_⟩⟩;have sC3:Zy HC H3:=λb u e=>mkd hx3 hd3 q3 e;have hkC:=sQ (Ey hx3 hd3) hk;have g3:Go1 (pt k' .mem) O2 HC (lab O2 kd (pt k' .ss)) H3:=.nw gC.lv sC3 hkC f3;have ox3:lab O2 kd (pt k' .ss) x3=none:=(gK (i7 e3 f3 nofun)).trans (gC.lv.no hx3);have ok3:lab O2 kd (pt k' .ss) kd=some (pt k' .ss):=if_pos rfl;have hp3:=sC3 _ _ hpC;have o3:lab O2 kd (pt k' .ss) p=some (pt k' .mem):=(gK (aj hpC hkC)).trans o2;have l3:∀{b u},HC b=some u->lab O2 kd (pt k' .ss) b=O2 b:=λe=>gK (aj e hkC);generalize lab O2 kd (pt k' .ss)=O3 at g3 ox3 ok3 o3 l3;symm;intro d hd;have hdp:d≠p:=λz=>by rw[z,ah] at hd;cases hd
 have WU:H3 d=none:=by rw[ak hdp] at hd;exact hd
 symm;generalize hD:upd (upd (upd (upd H3 p _) d _) p _) p _=HD;have gD:Go1 (pt k' .mem) O3 H3 (lab O3 d (pt k' .sd)) HD:=by
   have g4:=Go.put (P:=(·=pt k' .mem)) (o:=.ins a.fq dx (jT "shares" (.ref x3) (jT "near" (.ref x2) (jT "pool" (.ref xp.p) (jT "shape" (.ref sh) []))))) g3.lv o3 rfl;have g5:=Go.new (P:=(·=pt k' .mem)) (i:=pt k' .sd) (o:=.dK []) g4.lv hd;have o5:lab O3 d (pt k' .sd) p=some (pt k' .mem):=(gK hdp.symm).trans o3;have g6:=g4.trans g5;rw[<-hD];exact(g6.trans (.put g6.lv o5 rfl)).trans (.put (Go.lv (.put g6.lv o5 (P:=(·=pt k' .mem)) rfl)) o5 rfl)
 have hdD:HD d=some (.dK []):=by rw[<-hD,ak hdp,ak hdp];exact ah
 let⟨hpD,_⟩:=U_ hD;have kD:∀b u,H3 b=some u->b≠p->HD b=some u:=λb u e n=>by rw[<-hD,ak n,ak n,ak (aj e WU),ak n];exact e
 clear hD;have G3:=g3.trans gD;have G2:=gC.trans G3;have G1:=gB.trans (g2.trans G2);have old:∀b u,H b=some u->b≠p->HD b=some u/\lab O3 d (pt k' .sd) b=O b:=λb u e n=>by
   have e0:HA b=some u:=by rw[<-hA,ak n];exact e
   have eB:=kB b u (sA1 _ _ e0) n;have eC:=kC b u (sB2 _ _ eB) n;have e3:=sC3 _ _ eC;refine⟨kD b u e3 n,?_⟩;rw[gK (aj e3 WU),l3 eC,l2 eB,wA1 b u e0,<-hO,gK n]
 have v:∀b u,v0 O H b=some u->b≠p->v0 (lab O3 d (pt k' .sd)) HD b=some u:=λb u e n=>by
   let⟨e1,e2⟩:=fQ e;exact gG (old b u e1 n).1 ((old b u e1 n).2.trans e2)
 have nn:∀i,PP k' i->¬i=pt k' .mem:=λ_ e z=>by subst z;rcases e with e | e | e<;>cases e
 have SS:SsM a (lab O3 d (pt k' .sd)) HD k' x3 kd Ln λ_=>none:=⟨gD.lv,⟨d3,gD.v0 _ _ (gG e3 ox3)⟩,(gD.kp ok3 nofun f3).2,⟨[],[],λ_=>none,(gD.kp ok3 nofun f3).1,rfl,aaX,λ_=>rfl,λ_=>⟨λ_=>rfl,λ_ _ z=>(nomatch z)⟩⟩,λ_ _ _ z=>(nomatch z),hLn⟩;exact k1 _ HD ⟨⟨dx,sh,xp,x2,ln,x3,kd,d⟩,[],⟨gD.lv,g,⟨(gK hdp.symm).trans o3,by rw[hpD];rfl⟩,⟨dxs,ts,v _ _ z1 nsp,v _ _ z2 ntp⟩,P1.oth G1 nn,Ne.oth G2 nofun,SS,⟨if_pos rfl,hdD⟩,rfl,aaX,nofun,hL,nofun⟩⟩ old
end
structure Le (σ σ':Ms): Prop where
 e:(σ'.ns,σ'.low,σ'.nf,σ'.nz,σ'.ts,σ'.L,σ'.w,σ'.m,σ'.Ln)=(σ.ns,σ.low,σ.nf,σ.nz,σ.ts,σ.L,σ.w,σ.m,σ.Ln)
 c:∀j,σ'.C j=σ.C j
 d:∀j,σ'.D j=σ.D j
 s:∀x,σ'.S x=σ.S x
 t:∀t∈σ.ts,∀n,σ'.T t n=σ.T t n
 n:∀q,σ.N q->σ'.N q
 j:σ'.J=none
def Mz.to {a:Adr}{O:Lab}{H:Hp}{k:Nat}{p:Addr}{σ σ':Ms}(h:Mz a O H k p σ)(l:Le σ σ'): Mz a O H k p σ':=by
 let⟨x,z_,M⟩:=h;have M1:=(M.jno.wY l.n).vb λt ht=>funext (l.t t ht);refine⟨x,z_,?_⟩;have e:=l.e;have c:=funext l.c;have d:=funext l.d;have s:=funext l.s;have j:=l.j;clear l M;let⟨⟩:=σ;let⟨⟩:=σ';simp only [acZ] at e c d s j;let⟨rfl,rfl,rfl,rfl,rfl,rfl,rfl,rfl,rfl⟩:=e;subst c;subst d;subst s;subst j;exact M1
def C42 (c:Int): Rm:=λj=>if j=0 then some (c,[77,0]) else none
def S42 (u:Int): ShM:=λx=>if x = "ab" then some ([.fresh 3,.fresh 3],u) else none
def L6:List (Int×Lf):=[(3,.held 3 0),(4,.fresh 3),(5,.fresh 1),(6,.fresh 2),(8,.named 3 "ab" 0),(9,.named 3 "ab" 1)]
def M42:Mf:=λn=>L6.lookup n
def L42:zm:=(abG 16).map λn:Nat=>(n:Int)
def X42 (ts:zm)(c u m w:Int)(f:Mf): Ms:=⟨[2,2],1,1,0,C42 c,λ_=>none,ts,L42,λt=>if t=0 then f else M42,w,m,λq=>q=(0,3,0,3),none,["ab"],S42 u⟩
def D42 (m w:Int): Ms:=X42 [0] 1 2 m w M42
def LsT.one {M:Mf}{l1 l2:Zd}(h1:LsT M l1)(h2:LsT M l2): l1=l2:=by
 have key:∀(l1 l2:Zd),l1.Pairwise (λa b=>a.1 < b.1)->l2.Pairwise (λa b=>a.1 < b.1)->(∀q,q∈l1↔q∈l2)->l1=l2:=by
   intro l1
   induction l1 with
   | nil=>intro l2 _ _ h;cases l2 with
     | nil=>rfl
     | cons b l=>exact absurd ((h b).mpr qG) (by simp)
   | cons b l ih =>
     intro l2 p1 p2 h;cases l2 with
     | nil=>exact absurd ((h b).mp qG) (by simp)
     | cons b' l' =>
       have q1:=(abH.mp p1).1;have q2:=(abH.mp p2).1;replace p1:=(abH.mp p1).2;replace p2:=(abH.mp p2).2;have eb:b=b':=by
         rcases qk.mp ((h b).mp qG) with e | e
         · exact e
         · rcases qk.mp ((h b').mpr qG) with e' | e'
           · exact e'.symm
           · have:=q2 _ e;have:=q1 _ e';lia
       subst eb;rw[ih l' p1 p2 λq=>⟨λhq=>?_,λhq=>?_⟩]
       · rcases qk.mp ((h q).mp (qB _ hq)) with e | e
         · subst e;have:=q1 _ hq;lia
         · exact e
       · rcases qk.mp ((h q).mpr (qB _ hq)) with e | e
         · subst e;have:=q2 _ hq;lia
         · exact e
 exact key l1 l2 h1.ri h2.ri λ⟨n,g⟩=>(h1.me n g).trans (h2.me n g).symm
def OJ (n:Int)(g:Lf): (n,g)∈L6↔M42 n=some g:=by
 unfold M42 L6;constructor
 · intro h
   simp only [qk,qU,or_false,acZ] at h;rcases h with ⟨rfl,rfl⟩ | ⟨rfl,rfl⟩ | ⟨rfl,rfl⟩ | ⟨rfl,rfl⟩ | ⟨rfl,rfl⟩ | ⟨rfl,rfl⟩<;>rfl
 · intro h
   simp only [Qw,List.lookup_nil] at h;simp only [qk,qU,or_false,acZ]
   repeat' split at h
   all_goals first | (rename_i z;have z:=eq_of_beq z;cases h;simp[z]) | cases h
def Kz {ls:Zd}(h:LsT M42 ls): ls=L6:=h.one ⟨by unfold L6;decide,OJ⟩
def KA {m w:Int}: Se (D42 m w):=λq hq=>by
 have hq:0<=q/\q < 16:=hq;exact Qa.mpr ⟨q.toNat,acB.mpr (by lia),by lia⟩
def WV {m w:Int}: NI (D42 m w):=λt n f r h=>by
 have h:(t,n,f,r)=(0,3,0,3):=h;cases h;exact⟨rfl,by decide,_,rfl⟩
section
variable {a:Adr}{O:Lab}{H:Hp}{k:Nat}{p:Addr}{mm w t n m r:Int}{Q:VK}{E:XK}
def OL {c c':Int}(j:Int): C42 c' j=gL (C42 c) 0 (some (c',[77,0])) j:=by
 unfold C42 gL;by_cases z:j=0
 · rw[if_pos z,if_pos z]
 · rw[if_neg z,if_neg z];exact(if_neg z).symm
def Va {u u':Int}(x:Str): S42 u' x=setM (S42 u) "ab" (some ([.fresh 3,.fresh 3],u')) x:=by
 unfold S42 setM;by_cases z:x = "ab"
 · rw[if_pos z,if_pos z]
 · rw[if_neg z,if_neg z];exact(if_neg z).symm
def Vb (h:Mz a O H k p (D42 mm w))(k0:t≠0->E (.ref a.fH) none H)(q:t=0->∀O' H',Mz a O' H' k p (X42 [0,1] 2 4 mm w M42)->Go (MP k) O H O' H'->Q (.int 1) H'): Cb a [.ref p,.int t] H Q E:=by
 refine⟨O,k,p,D42 mm w,t,1,rfl,h,⟨λj hj=>?_,show (1:Int)∉[0] by decide,show [(0:Int)].length < 60 by decide⟩,λz=>k0 λe=>z (by rw[e];exact qc.mpr rfl),λht ls hl=>?_,λht ls hl O' H' M g=>?_⟩
 · have:j=0:=by lia
   subst this;exact qc.mpr rfl
 all_goals
   have t0:t=0:=qc.mp ht;subst t0;have el:=Kz hl;subst el
 · intro i g hi
   match i,hi with
   | 0,hi=>cases hi;exact⟨λ_=>nofun,nofun⟩
   | 1,hi=>cases hi;exact⟨nofun,nofun⟩
   | 2,hi=>cases hi;exact⟨nofun,nofun⟩
   | 3,hi=>cases hi;exact⟨nofun,nofun⟩
   | 4,hi=>cases hi;exact⟨[.fresh 3,.fresh 3],2,rfl,by decide⟩
   | 5,hi=>cases hi;exact⟨[.fresh 3,.fresh 3],3,rfl,by decide⟩
   | i+6,hi=>cases hi
 · refine q rfl O' H' (M.to ⟨rfl,λj=>OL j,λ_=>rfl,λx=>?_,λt ht n=>?_,λr z=>?_,rfl⟩) g
   · show S42 4 x=setM (setM (S42 2) "ab" (some ([.fresh 3,.fresh 3],3))) "ab" (some ([.fresh 3,.fresh 3],4)) x
     unfold setM S42;split<;>rfl
   · show (if t=0 then M42 else M42) n=(if t=(1:Nat) then (if (0:Int)=0 then M42 else M42) else if t=0 then M42 else M42) n
     split<;>split<;>rfl
   · exact z.1.1.1.1
def WW (h:Mz a O H k p (X42 [0,1] 2 4 mm w M42))(q:∀H',Mz a O H' k p (D42 mm w)->Go (MP k) O H O H'->Q .non H'): Ex a [.ref p,.int 1] H Q E:=by
 refine⟨O,k,p,_,1,rfl,h,λz=>absurd (show (1:Int)∈[0,1] by decide) z,λ_ ls hl=>?_,λ_ ls hl H' M g=>?_⟩
 all_goals
   have el:=Kz hl;subst el
 · intro i g hi
   match i,hi with
   | 0,hi=>cases hi;exact⟨λ_=>nofun,nofun⟩
   | 1,hi=>cases hi;exact⟨nofun,nofun⟩
   | 2,hi=>cases hi;exact⟨nofun,nofun⟩
   | 3,hi=>cases hi;exact⟨nofun,nofun⟩
   | 4,hi=>cases hi;exact⟨[.fresh 3,.fresh 3],4,rfl,by decide⟩
   | 5,hi=>cases hi;exact⟨[.fresh 3,.fresh 3],3,rfl,by decide⟩
   | i+6,hi=>cases hi
 · refine q H' (M.to ⟨rfl,λj=>OL j,λ_=>rfl,λx=>?_,λt ht n=>?_,λr z=>?_,rfl⟩) g
   · show S42 2 x=setM (setM (S42 4) "ab" (some ([.fresh 3,.fresh 3],3))) "ab" (some ([.fresh 3,.fresh 3],2)) x
     unfold setM S42;split<;>rfl
   · rfl
   · exact z.1.1.1.1.1
def YB (h:Mz a O H k p (D42 mm w))(t0:t≠0)(k0:E (.ref a.fH) none H): Ex a [.ref p,.int t] H Q E:=by
 have n:t∉(D42 mm w).ts:=λz=>t0 (qc.mp z);exact⟨O,k,p,_,t,rfl,h,λ_=>k0,λz=>absurd z n,λz=>absurd z n⟩
def WX (h:Mz a O H k p (D42 mm w)) (hs:t=0->fO [2,2] n m->OkR r->(n=2/\m=2)\/(n=7/\m=1/\r=3)) (k0:t≠0->E (.ref a.fH) none H) (k1:t=0->¬fO [2,2] n m->E (.ref a.eI) none H) (k2:t=0->fO [2,2] n m->¬OkR r->∀H',Zy H H'->E (.ref a.eO) none H') (k3:t=0->OkR r->n=2->m=2->Flt H E a.gA [("page",.int 3)]) (q:t=0->n=7->m=1->r=3->∀O' H',Mz a O' H' k p (X42 [0] 1 2 mm w (M42.put 7 (some (.fresh 3))))->Go (MP k) O H O' H'->Q .non H'):Ce a [.ref p,.int t,.int n,.int m,.int r] H Q E:=by
 have z0:t∈(D42 mm w).ts->t=0:=λz=>qc.mp z;refine⟨O,k,p,D42 mm w,t,n,m,r,rfl,h,KA,λz=>k0 λe=>z (by rw[e];exact qc.mpr rfl),λht=>k1 (z0 ht),λht=>k2 (z0 ht),λht st ok j jm pr is=>?_,λht st ok fr O' H' M g=>?_⟩
 all_goals
   have t0:=z0 ht;subst t0;rcases hs rfl st ok with ⟨rfl,rfl⟩ | ⟨rfl,rfl,rfl⟩
 · have:j=0\/j=1:=by lia
   rcases this with rfl | rfl
   · cases is
   · exact k3 rfl ok rfl rfl
 · have:j=0:=by lia
   subst this;cases is
 · have:=fr 1 (by decide)
   cases this
 · refine q rfl rfl rfl rfl O' H' (M.to ⟨rfl,λ_=>rfl,λ_=>rfl,λ_=>rfl,λt ht n=>?_,λ_ z=>z,rfl⟩) g
   have ht:t=0:=qc.mp ht;subst ht;show Mf.put M42 7 (some (.fresh 3)) n=if 7<=n/\n < 7+((1:Nat):Int) then [Lf.fresh 3][(n-7).toNat]? else M42 n
   unfold Mf.put;by_cases z:n=7
   · subst z;rfl
   · rw[if_neg z,if_neg (by lia)]
end
section
variable {a:Adr}{O:Lab}{H:Hp}{k:Nat}{p:Addr}{mm w t n m r:Int}{Q:VK}{E:XK}{M:Mf}{gs:zU}
def LvR.l1 {g:Lf}(h:LvR M n 1 gs)(e:M (n+(0:Nat))=some g): gs=[g]:=by
 let⟨l,q⟩:=h;let⟨g',rfl⟩:=abe.mp l;have:=q 0 g' rfl;rw[e] at this;cases this;rfl
def LvR.l2 {g g':Lf}(h:LvR M n 2 gs)(e:M (n+(0:Nat))=some g)(e':M (n+(1:Nat))=some g'): gs=[g,g']:=by
 let⟨l,q⟩:=h;let⟨b,b',rfl⟩:=ln2 l;have h1:=q 0 b rfl;have h2:=q 1 b' rfl;rw[e] at h1;cases h1;rw[e'] at h2;cases h2;rfl
def YC (h:Mz a O H k p (X42 [0] 1 2 mm w (M42.put 7 (some (.fresh 3)))))(q:∀H',Mz a O H' k p (D42 mm w)->Go (MP k) O H O H'->Q .non H'): rA a [.ref p,.int 0,.int 7,.int 1] H Q E:=by
 have t0:(0:Int)∈[(0:Int)]:=by decide
 have st:fO [2,2] 7 1:=by unfold fO;exfalso
 refine⟨O,k,p,_,0,7,1,rfl,h,λz=>absurd t0 z,λ_ z=>absurd st z,λ_ _ j hj=>?_,λ_ _ gs hg=>?_,λ_ _ gs hg H' M g=>?_⟩
 · let⟨h1,_,h3⟩:=hj
   have:j=0:=by have h1:j < 1:=h1;lia
   subst this;cases h3
 all_goals
   have eg:=hg.l1 (g:=.fresh 3) rfl;subst eg
 · intro i g hi
   cases i with
   | zero=>cases hi;exact⟨nofun,nofun⟩
   | succ i=>cases hi
 · refine q H' (M.to ⟨rfl,λ_=>rfl,λ_=>rfl,λ_=>rfl,λt ht n=>?_,λ_ z=>z.1.1,rfl⟩) g
   have ht:t=0:=qc.mp ht;subst ht;show M42 n=if 7<=n/\n < 7+1 then none else Mf.put M42 7 (some (.fresh 3)) n
   unfold Mf.put;by_cases z:n=7
   · subst z;rfl
   · rw[if_neg (by lia),if_neg z]
def Si (h:Mz a O H k p (D42 mm w)) (hs:t=0->fO [2,2] n m->(n=6/\m=2)\/(n=4/\m=1)) (k0:t≠0->E (.ref a.fH) none H) (k1:t=0->¬fO [2,2] n m->E (.ref a.eI) none H) (k2:t=0->n=6->m=2->Flt H E a.cP (mG (.int 0) (.int 14) (.str "unmap"))) (q:t=0->n=4->m=1->∀H',Mz a O H' k p (X42 [0] 1 2 mm w (M42.put 4 none))->Go (MP k) O H O H'->Q .non H'):rA a [.ref p,.int t,.int n,.int m] H Q E:=by
 have z0:t∈(D42 mm w).ts->t=0:=λz=>qc.mp z;refine⟨O,k,p,D42 mm w,t,n,m,rfl,h,λz=>k0 λe=>z (by rw[e];exact qc.mpr rfl),λht=>k1 (z0 ht),λht st j hj=>?_,λht st gs hg=>?_,λht st gs hg H' M g=>?_⟩
 all_goals
   have t0:=z0 ht;subst t0;rcases hs rfl st with ⟨rfl,rfl⟩ | ⟨rfl,rfl⟩
 · let⟨h1,h2,h3⟩:=hj
   have:j=0\/j=1:=by have h1:j < 2:=h1;lia
   rcases this with rfl | rfl
   · cases h3
   · exact k2 rfl rfl rfl
 · let⟨h1,_,h3⟩:=hj
   have:j=0:=by have h1:j < 1:=h1;lia
   subst this;cases h3
 · let⟨l,q⟩:=hg
   let⟨b,b',rfl⟩:=ln2 l;have:=q 1 b' rfl;cases this
 · have eg:=hg.l1 (g:=.fresh 3) rfl
   subst eg;intro i g hi;cases i with
   | zero=>cases hi;exact⟨nofun,nofun⟩
   | succ i=>cases hi
 · let⟨l,q⟩:=hg
   let⟨b,b',rfl⟩:=ln2 l;have:=q 1 b' rfl;cases this
 · have eg:=hg.l1 (g:=.fresh 3) rfl
   subst eg;refine q rfl rfl rfl H' (M.to ⟨rfl,λ_=>rfl,λ_=>rfl,λ_=>rfl,λt ht n=>?_,λ_ z=>z.1.1,rfl⟩) g;have ht:t=0:=qc.mp ht;subst ht;show Mf.put M42 4 none n=if 4<=n/\n < 4+1 then none else M42 n
   unfold Mf.put;by_cases z:n=4
   · subst z;rfl
   · rw[if_neg z,if_neg (by lia)]
def YD (h:Mz a O H k p (X42 [0] 1 2 mm w (M42.put 4 none)))(q:∀O' H',Mz a O' H' k p (D42 mm w)->Go (MP k) O H O' H'->Q .non H'): Ce a [.ref p,.int 0,.int 4,.int 1,.int 3] H Q E:=by
 have t0:(0:Int)∈[(0:Int)]:=by decide
 have st:fO [2,2] 4 1:=by unfold fO;exfalso
 have ok:OkR 3:=by decide
 refine⟨O,k,p,_,0,4,1,3,rfl,h,KA (m:=mm) (w:=w),λz=>absurd t0 z,λ_ z=>absurd st z,λ_ _ z=>absurd ok z,λ_ _ _ j jm pr is=>?_,λ_ _ _ fr O' H' M g=>?_⟩
 · have:j=0:=by lia
   subst this;cases is
 · refine q O' H' (M.to ⟨rfl,λ_=>rfl,λ_=>rfl,λ_=>rfl,λt ht n=>?_,λ_ z=>z,rfl⟩) g
   have ht:t=0:=qc.mp ht;subst ht;show M42 n=if 4<=n/\n < 4+((1:Nat):Int) then [Lf.fresh 3][(n-4).toNat]? else Mf.put M42 4 none n
   unfold Mf.put;by_cases z:n=4
   · subst z;rfl
   · rw[if_neg (by lia),if_neg z]
def WY (h:Mz a O H k p (D42 mm w)) (hs:t=0->fO [2,2] n m->OkR r->(n=6/\m=2)\/(n=5/\m=1/\r=1)) (k0:t≠0->E (.ref a.fH) none H) (k1:t=0->¬fO [2,2] n m->E (.ref a.eI) none H) (k2:t=0->fO [2,2] n m->¬OkR r->∀H',Zy H H'->E (.ref a.eO) none H') (k3:t=0->OkR r->n=6->m=2->Flt H E a.cP (mG (.int 0) (.int 14) (.str "rights"))) (q:t=0->fO [2,2] n m->OkR r->¬(n=6/\m=2)->∀O' H',Mz a O' H' k p (D42 mm w)->Go (MP k) O H O' H'->Q .non H'):Ez a [.ref p,.int t,.int n,.int m,.int r] H Q E:=by
 have z0:t∈(D42 mm w).ts->t=0:=λz=>qc.mp z;refine⟨O,k,p,D42 mm w,t,n,m,r,rfl,h,λz=>k0 λe=>z (by rw[e];exact qc.mpr rfl),λht=>k1 (z0 ht),λht=>k2 (z0 ht),λht st ok j hj=>?_,λht st ok al O' H' M g=>?_⟩
 all_goals
   have t0:=z0 ht;subst t0;rcases hs rfl st ok with ⟨rfl,rfl⟩ | ⟨rfl,rfl,rfl⟩
 · let⟨h1,h2,h3⟩:=hj
   have:j=0\/j=1:=by have h1:j < 2:=h1;lia
   rcases this with rfl | rfl
   · cases h3
   · exact k3 rfl ok rfl rfl
 · let⟨h1,_,h3⟩:=hj
   have:j=0:=by have h1:j < 1:=h1;lia
   subst this;cases h3
 · have:=al 1 (by decide)
   cases this
 · refine q rfl st ok (by decide) O' H' (M.to ⟨rfl,λ_=>rfl,λ_=>rfl,λ_=>rfl,λt ht n=>?_,λ_ z=>z.1,rfl⟩) g
   have ht:t=0:=qc.mp ht;subst ht;show M42 n=if 5<=n/\n < 5+1 then (M42 n).map (Lf.HI 1) else M42 n
   by_cases z:n=5
   · subst z;rfl
   · rw[if_neg (by lia)]
end
section
variable {a:Adr}{O:Lab}{H:Hp}{k:Nat}{p:Addr}{mm w t n m r A v:Int}{x:Str}{Q:VK}{E:XK}
def N42:Mf:=(M42.put 10 (some (.named 0 "ab" 0))).put 11 (some (.named 0 "ab" 1))
def WZ (h:Mz a O H k p (D42 mm w)) (xl:x.length<=1000) (hs:t=0->fO [2,2] n m->OkR r->gS x->x = "ab" ∧ (m=2->(n=7\/(n=10/\r=0)))) (k0:t≠0->E (.ref a.fH) none H) (k1:t=0->¬fO [2,2] n m->E (.ref a.eI) none H) (k2:t=0->fO [2,2] n m->¬OkR r->∀H',Zy H H'->E (.ref a.eO) none H')
   (k3:t=0->fO [2,2] n m->OkR r->¬gS x->∀H',Zy H H'->E (.ref a.iu) none H') (k4:t=0->fO [2,2] n m->OkR r->gS x->m≠2->∀H',Zy H H'->E (.ref a.iM) none H') (k5:t=0->OkR r->gS x->n=7->m=2->Flt H E a.gA [("page",.int 8)])
   (q:t=0->n=10->m=2->OkR r->gS x->∀O' H',Mz a O' H' k p (X42 [0] 1 4 mm w N42)->Go (MP k) O H O' H'->Q .non H'):EA a [.ref p,.int t,.str x,.int n,.int m,.int r] H Q E:=by
 have z0:t∈(D42 mm w).ts->t=0:=λz=>qc.mp z;have fit:∀{x:Str},x = "ab" -> U6 (D42 mm w).S x m->m=2:=λe f=>by subst e;exact(f [.fresh 3,.fresh 3] 2 rfl).symm
 refine⟨O,k,p,D42 mm w,t,x,n,m,r,rfl,h,KA,xl,λz=>k0 λe=>z (by rw[e];exact qc.mpr rfl),λht=>k1 (z0 ht),λht=>k2 (z0 ht),λht=>k3 (z0 ht),λht st ok nm gs u e ne=>?_,λht st ok nm f j jm pr is=>?_,λht st ok nm f fr=>?_⟩
 all_goals
   have t0:=z0 ht;subst t0;let⟨rfl,hm⟩:=hs rfl st ok nm
 · refine k4 rfl st ok nm λz=>ne ?_
   cases e;rw[z];rfl
 all_goals
   have m2:=fit rfl f;subst m2;rcases hm rfl with rfl | ⟨rfl,rfl⟩
 · have:j=0\/j=1:=by lia
   rcases this with rfl | rfl
   · cases is
   · exact k5 rfl ok nm rfl rfl
 · have:j=0\/j=1:=by lia
   rcases this with rfl | rfl<;>cases is
 · have:=fr 1 (by decide)
   cases this
 · refine⟨qc.mpr rfl,λO' H' M g=>q rfl rfl rfl ok nm O' H' (M.to ⟨rfl,λ_=>rfl,λ_=>rfl,λx=>Va x,λt ht n=>?_,λ_ z=>z,rfl⟩) g⟩
   have ht:t=0:=qc.mp ht;subst ht;show N42 n=if 10<=n/\n < 10+((2:Nat):Int) then [Lf.named 0 "ab" 0,Lf.named 0 "ab" 1][(n-10).toNat]? else M42 n
   unfold N42 Mf.put;by_cases z:n=11
   · subst z;rfl
   by_cases y:n=10
   · subst y;rfl
   · rw[if_neg z,if_neg y,if_neg (by lia)]
def W0 (h:Mz a O H k p (X42 [0] 1 4 mm w N42))(q:∀H',Mz a O H' k p (D42 mm w)->Go (MP k) O H O H'->Q .non H'): rA a [.ref p,.int 0,.int 10,.int 2] H Q E:=by
 have t0:(0:Int)∈[(0:Int)]:=by decide
 have st:fO [2,2] 10 2:=by unfold fO;exfalso
 refine⟨O,k,p,_,0,10,2,rfl,h,λz=>absurd t0 z,λ_ z=>absurd st z,λ_ _ j hj=>?_,λ_ _ gs hg=>?_,λ_ _ gs hg H' M g=>?_⟩
 · let⟨h1,_,h3⟩:=hj
   have:j=0\/j=1:=by have h1:j < 2:=h1;lia
   rcases this with rfl | rfl<;>cases h3
 all_goals
   have eg:=hg.l2 (g:=.named 0 "ab" 0) (g':=.named 0 "ab" 1) rfl rfl;subst eg
 · intro i g hi
   match i,hi with
   | 0,hi=>cases hi;exact⟨[.fresh 3,.fresh 3],4,rfl,by decide⟩
   | 1,hi=>cases hi;exact⟨[.fresh 3,.fresh 3],3,rfl,by decide⟩
   | i+2,hi=>cases hi
 · refine q H' (M.to ⟨rfl,λ_=>rfl,λ_=>rfl,λx=>?_,λt ht n=>?_,λ_ z=>z.1,rfl⟩) g
   · show S42 2 x=setM (setM (S42 4) "ab" (some ([.fresh 3,.fresh 3],3))) "ab" (some ([.fresh 3,.fresh 3],2)) x
     unfold setM S42;split<;>rfl
   · have ht:t=0:=qc.mp ht
     subst ht;show M42 n=if 10<=n/\n < 10+2 then none else N42 n
     unfold N42 Mf.put;by_cases z:n=11
     · subst z;rfl
     by_cases y:n=10
     · subst y;rfl
     · rw[if_neg (by lia),if_neg z,if_neg y]
def p42:plc (D42 mm w).low=2:=by show (2:Int)^(1:Int).toNat=2;decide
def v6:(D42 mm w).T 0 (6 / plc (D42 mm w).low)=some (.held 3 0):=by rw[p42];rfl
def v8:(D42 mm w).T 0 (8 / plc (D42 mm w).low)=some (.fresh 3):=by rw[p42];rfl
def v10:(D42 mm w).T 0 (10 / plc (D42 mm w).low)=some (.fresh 1):=by rw[p42];rfl
def v12:(D42 mm w).T 0 (12 / plc (D42 mm w).low)=some (.fresh 2):=by rw[p42];rfl
def v14:(D42 mm w).T 0 (14 / plc (D42 mm w).low)=none:=by rw[p42];rfl
def OM (h:Mz a O H k p (D42 mm w)) (hs:t=0->InA [2,2] 1 A->A=6\/A=12\/A=14) (k0:t≠0->E (.ref a.fH) none H) (k1:t=0->¬InA [2,2] 1 A->E (.ref a.d7) none H) (k2:t=0->A=14->Flt H E a.cP (mG (.int 0) (.int 14) (.str "read"))) (k3:t=0->A=12->Flt H E a.fK (mG (.int 0) (.int 12) (.str "read")))
   (q:t=0->A=6->∀w' H',Mz a O H' k p (D42 mm w')->Go (MP k) O H O H'->Q (.int 77) H'):OI a [.ref p,.int t,.int A] H Q E:=by
 have z0:t∈(D42 mm w).ts->t=0:=λz=>qc.mp z;refine⟨O,k,p,D42 mm w,t,A,rfl,h,WV,λz=>k0 λe=>z (by rw[e];exact qc.mpr rfl),λht=>k1 (z0 ht),λht ia e=>?_,λht ia g e mb=>?_,λht ia g e mb=>?_⟩
 all_goals
   have t0:=z0 ht;subst t0;rcases hs rfl ia with rfl | rfl | rfl
 all_goals first | rw[v6] at e | rw[v12] at e | rw[v14] at e
 · cases e
 · cases e
 · exact k2 rfl rfl
 · cases e;exact absurd mb (by exfalso)
 · exact k3 rfl rfl
 · cases e
 · cases e
   exact⟨3,0,[77,0],rfl,rfl,by rw[p42];rfl,λw' H' M g=>by rw[p42];exact q rfl rfl w' H' M g⟩
 · cases e;exact absurd mb (by exfalso)
 · cases e
def Sj (h:Mz a O H k p (D42 mm w))(hs:t=0->InA [2,2] 1 A->(A=6/\(0<=v/\v < 2^64->v=77))\/A=8\/A=10\/A=14)(k0:t≠0->E (.ref a.fH) none H)(k1:t=0->¬InA [2,2] 1 A->E (.ref a.d7) none H)(k2:t=0->InA [2,2] 1 A->¬(0<=v/\v < 2^64)->∀H',Zy H H'->E (.ref a.iL) none H')
   (k3:t=0->(0<=v/\v < 2^64)->A=14->Flt H E a.cP (mG (.int 0) (.int 14) (.str "write"))) (k4:t=0->(0<=v/\v < 2^64)->A=10->Flt H E a.fK (mG (.int 0) (.int 10) (.str "write"))) (k5:t=0->(0<=v/\v < 2^64)->A=8->∀H',Zy H H'->E (.ref a.jC) none H')
   (q:t=0->(0<=v/\v < 2^64)->A=6->∀w' O' H',Mz a O' H' k p (D42 mm w')->Go (MP k) O H O' H'->Q .non H'):L5 a [.ref p,.int t,.int A,.int v] H Q E:=by
 have z0:t∈(D42 mm w).ts->t=0:=λz=>qc.mp z;have nf:0∉tal 1 (C42 1):=by decide
 refine⟨O,k,p,D42 mm w,t,A,v,rfl,h,WV,rfl,λz=>k0 λe=>z (by rw[e];exact qc.mpr rfl),λht=>k1 (z0 ht),λht=>k2 (z0 ht),λht ia wv e=>?_,λht ia wv g e mb=>?_,λht ia g e mb=>?_,λht ia wv r e mb fr=>?_,λht ia wv r e fr=>absurd fr nf,λht ia wv r f ws e c w' O' H' M g=>?_⟩
 all_goals
   have t0:=z0 ht;subst t0;rcases hs rfl ia with ⟨rfl,hv⟩ | rfl | rfl | rfl
 all_goals first | rw[v6] at e | rw[v8] at e | rw[v10] at e | rw[v14] at e
 · cases e
 · cases e
 · cases e
 · exact k3 rfl wv rfl
 · cases e;exact absurd mb (by exfalso)
 · cases e;exact absurd mb (by exfalso)
 · exact k4 rfl wv rfl
 · cases e
 · cases e;exact .inr ⟨3,0,[77,0],rfl,rfl⟩
 · cases e;exact .inl ⟨_,rfl⟩
 · cases e;exact absurd mb (by exfalso)
 · cases e
 · cases e
 · exact k5 rfl wv rfl
 · cases e;exact absurd mb (by exfalso)
 · cases e
 · cases e
   cases c;refine q rfl wv rfl w' O' H' (M.to ⟨rfl,λj=>?_,λ_=>rfl,λ_=>rfl,λt ht n=>?_,λ_ z=>z.elim id λz=>(by rw[z,p42];rfl),rfl⟩) g
   · show C42 1 j=gL (C42 1) 0 (some (1,[77,0].set (6%plc (D42 mm w).low).toNat v)) j
     rw[hv wv,p42];exact OL (c:=1) j
   · have ht:t=0:=qc.mp ht
     subst ht;show M42 n=Mf.put M42 (6 / plc (D42 mm w).low) (some (.held 3 0)) n;rw[p42,show (6:Int) / 2=3 by decide];unfold Mf.put;by_cases z:n=3
     · subst z;rfl
     · rw[if_neg z]
 · cases e
 · cases e
 · cases e
end
section
variable {a:Adr}{O:Lab}{H:Hp}{k:Nat}{p:Addr}{mm n m r:Int}{Q:VK}{E:XK}{f:Mf}{S:ShM}
def Y42 (mm:Int)(S:ShM)(f:Mf): Ms:=⟨[2,2],1,1,0,λ_=>none,λ_=>none,[0],L42,λ_=>f,0,mm,λ_=>False,none,["ab"],S⟩
def W2 {mm:Int}: Se (Y42 mm S f):=KA (m:=mm) (w:=0)
def W4 (h:Mz a O H k p (ms0 [2,2] L42 1 1 0 mm ["ab"])) (q:∀O' H',Mz a O' H' k p (Y42 mm (λ_=>none) λ_=>none)->Go (MP k) O H O' H'->Q (.int 0) H'):U5 a [.ref p] H Q E :=
 ⟨O,k,p,_,0,rfl,h,⟨λj hj=>absurd hj (adE j),by show (0:Int)∉([]:zm);exact nofun,by show ([]:zm).length < 60;decide⟩,λO' H' M g=>q O' H' (M.to ⟨rfl,λ_=>rfl,λ_=>rfl,λ_=>rfl,λt ht n=>by
   show none=(if t=((0:Nat):Int) then λ_=>none else λ_=>none:Mf) n;split<;>rfl,λ_ z=>z,rfl⟩) g⟩
def W5 (h:Mz a O H k p (Y42 mm S f))(st:fO [2,2] n m)(ok:OkR r)(fr:∀i:Nat,(i:Int) < m->f (n+i)=none)(q:∀O' H',Mz a O' H' k p (Y42 mm S (f.lay n (lS m.toNat r)))->Go (MP k) O H O' H'->Q .non H'): Ce a [.ref p,.int 0,.int n,.int m,.int r] H Q E:=by
 have t0:(0:Int)∈[(0:Int)]:=by decide
 refine⟨O,k,p,_,0,n,m,r,rfl,h,W2,λz=>absurd t0 z,λ_ z=>absurd st z,λ_ _ z=>absurd ok z,λ_ _ _ j jm pr is=>?_,λ_ _ _ _ O' H' M g=>q O' H' (M.to ⟨rfl,λ_=>rfl,λ_=>rfl,λ_=>rfl,λt ht n'=>?_,λ_ z=>z,rfl⟩) g⟩
 · have is:(f (n+j)).isSome=true:=is
   rw[fr j jm] at is;cases is
 · have ht:t=0:=qc.mp ht
   subst ht;rfl
def YF (h:Mz a O H k p (Y42 mm S f))(st:fO [2,2] n m)(ok:OkR r)(al:Jt f n m.toNat)(q:∀O' H',Mz a O' H' k p (Y42 mm S (f.chg n m r))->Go (MP k) O H O' H'->Q .non H'): Ez a [.ref p,.int 0,.int n,.int m,.int r] H Q E:=by
 have t0:(0:Int)∈[(0:Int)]:=by decide
 refine⟨O,k,p,_,0,n,m,r,rfl,h,λz=>absurd t0 z,λ_ z=>absurd st z,λ_ _ z=>absurd ok z,λ_ _ _ j hj=>?_,λ_ _ _ _ O' H' M g=>q O' H' (M.to ⟨rfl,λ_=>rfl,λ_=>rfl,λ_=>rfl,λt ht n'=>?_,λ_ z=>z.1,rfl⟩) g⟩
 · have h3:f (n+j)=none:=hj.2.2
   have:=al j hj.1;rw[h3] at this;cases this
 · have ht:t=0:=qc.mp ht
   subst ht;rfl
end
section
variable {a:Adr}{O:Lab}{H:Hp}{k:Nat}{p:Addr}{mm:Int}{Q:VK}{E:XK}
def f3:Mf:=((Mf.lay (λ_=>none) 3 (lS 3 3)).lay 6 (lS 1 2)).chg 5 1 1
def f4:Mf:=f3.lay 8 (rC 2 3 "ab")
def YG (h:Mz a O H k p (Y42 mm (λ_=>none) f3))(q:∀O' H',Mz a O' H' k p (Y42 mm (S42 2) f4)->Go (MP k) O H O' H'->Q .non H'): EA a [.ref p,.int 0,.str "ab",.int 8,.int 2,.int 3] H Q E:=by
 have t0:(0:Int)∈[(0:Int)]:=by decide
 have st:fO [2,2] 8 2:=by unfold fO;exfalso
 have ok:OkR 3:=by decide
 have nm:gS "ab" := by unfold gS;exfalso
 refine⟨O,k,p,_,0,"ab",8,2,3,rfl,h,W2,by exfalso,λz=>absurd t0 z,λ_ z=>absurd st z,λ_ _ z=>absurd ok z,λ_ _ _ z=>absurd nm z,λ_ _ _ _ _ _ z=>(nomatch z),λ_ _ _ _ _ j jm pr is=>?_,λ_ _ _ _ _ _=>⟨qc.mpr rfl,λO' H' M g=>q O' H' (M.to ⟨rfl,λ_=>rfl,λ_=>rfl,λx=>?_,λt ht n'=>?_,λ_ z=>z,rfl⟩) g⟩⟩
 · have:j=0\/j=1:=by lia
   rcases this with rfl | rfl<;>cases is
 · show S42 2 x=setM (λ_=>none) "ab" (some (qq 2 (.fresh 3),2)) x
   unfold setM S42;split<;>rfl
 · have ht:t=0:=qc.mp ht
   subst ht;rfl
def W6 (n:Int): M42 n=f4.put 3 (some (.held 3 0)) n:=by
 by_cases c:0<=n/\n < 16
 · have:n=0\/n=1\/n=2\/n=3\/n=4\/n=5\/n=6\/n=7\/n=8\/n=9\/n=10\/n=11\/n=12\/n=13\/n=14\/n=15:=by lia
   rcases this with rfl | rfl | rfl | rfl | rfl | rfl | rfl | rfl | rfl | rfl | rfl | rfl | rfl | rfl | rfl | rfl<;>rfl
 · have e:M42 n=none:=by
     cases e:M42 n with
     | none=>rfl
     | some g =>
       have:=(OJ n g).mpr e;unfold L6 at this;simp only [qk,qU,or_false,acZ] at this;lia
   rw[e];unfold Mf.put f4 f3 Mf.lay Mf.chg;simp only [lS,rC,qO,qa,Qf];rw[if_neg (by lia),if_neg (by lia),if_neg (by lia),if_neg (by lia),if_neg (by lia)]
def wrY (h:Mz a O H k p (Y42 mm (S42 2) f4))(q:∀w' O' H',Mz a O' H' k p (D42 mm w')->Go (MP k) O H O' H'->Q .non H'): L5 a [.ref p,.int 0,.int 6,.int 77] H Q E:=by
 have t0:(0:Int)∈[(0:Int)]:=by decide
 have pl:plc (Y42 mm (S42 2) f4).low=2:=p42 (mm:=mm) (w:=0);have ia:InA [2,2] 1 6:=by exfalso
 have wv:(0:Int)<=77/\(77:Int) < 2^64:=by decide
 have v3:(Y42 mm (S42 2) f4).T 0 (6 / plc (Y42 mm (S42 2) f4).low)=some (.fresh 3):=by rw[pl];rfl
 have z0:0∈tal 1 (λ_=>none):=by decide
 refine⟨O,k,p,_,0,6,77,rfl,h,λ_ _ _ _ z=>z.elim,rfl,λz=>absurd t0 z,λ_ z=>absurd ia z,λ_ _ z=>absurd wv z,λ_ _ _ e=>?_,λ_ _ _ g e mb=>?_,λ_ _ g e mb=>?_,λ_ _ _ r e mb nf=>absurd z0 nf,λ_ _ _ r e _ j w' O' H' cj jb M g=>?_,λ_ _ _ r f ws e c=>(nomatch c)⟩
 all_goals rw[v3] at e
 · cases e
 · cases e;exact absurd mb (by exfalso)
 · cases e;exact .inl ⟨_,rfl⟩
 · cases e
   have j0:j=0:=by have:j < ((1:Nat):Int):=jb.2;have:=jb.1;lia
   subst j0;refine q w' O' H' (M.to ⟨rfl,λj=>?_,λ_=>rfl,λ_=>rfl,λt ht n=>?_,λc z=>z.elim Qp λz=>(by rw[z,pl];rfl),rfl⟩) g
   · have ez:z42 (Y42 mm (S42 2) f4) (6%plc (Y42 mm (S42 2) f4).low) 77=[77,0]:=by unfold z42;rw[pl];rfl
     show C42 1 j=gL (λ_=>none) 0 (some (1,z42 (Y42 mm (S42 2) f4) (6%plc (Y42 mm (S42 2) f4).low) 77)) j;rw[ez];rfl
   · have ht:t=0:=qc.mp ht
     subst ht;show M42 n=f4.put (6 / plc (Y42 mm (S42 2) f4).low) (some (.held 3 0)) n;rw[pl];exact W6 n
end
def Vc (K:qv): Sp:=λvs H Q _=>∃(p:Addr) (ns:zm) (k:Int),vs=[.ref p,.int k]/\Zx K H p (ns.map V.int)/\0<=k/\Q (.int (ns.getD k.toNat 0)) H
section
variable [Gn]{a:Adr}{Zz:zu}
abbrev tQ (a:Adr): Prop:=ZY P w K mg base 1 "_law_cell_at" ["_law_script","_law_k"] (Vc K) []
def Ax (T:Zq a): tQ a:=by
 exists T.BH,["_law_script","_law_k"];rintro⟨p,ns,k,rfl,S,h0,q⟩;left;refine⟨_,(ae (cG (ct AZ (pv 1) (ln (ao (pv 0)))) (af (bq (hZ fV (pv 0) (pv 1)))) bb)
     (af (bq ai))),?_⟩
 walk_at "sr";refine⟨_,rfl,_,rfl,p,_,rfl,.inl S,_,_,rfl,rfl,_,rfl,dI (λc=>?_) λc=>?_⟩
 · rw[qa] at c
   exact⟨_,rfl,_,rfl,p,_,_,_,rfl,rfl,S,GK h0 c,q⟩
 · rw[qa] at c
   rw[Nb (by lia)] at q;exact q
end
def i4 (w:Int): List Str :=
 if w=0 then ["task","stretch","rights","taken"] else if w=1 then ["task","stretch","unmapped"] else if w=2 then ["task","stretch","rights","unmapped"] else
 if w=3 then ["task","stretch","rights","name","unlike","taken"] else if w=4 then ["task","address","unmapped","barred"] else if w=5 then ["task","address","word","unmapped","barred","full"] else ["task"]
abbrev W7 (H H':Hp)(l:Addr)(xs:zu): Prop:=H l=none/\H' l=some (.lst xs)/\Zy H H'
def W8:Sp:=λvs H Q _=>∃w:Int,vs=[.int w]/\∀l H',W7 H H' l ((i4 w).map V.str)->Q (.ref l) H'
def W9:Sp:=λvs H Q _=>∃w c:Int,vs=[.int w,.int c]/\∀l H' (bd:zq),bd.Sublist (i4 w)->W7 H H' l (bd.map V.str)->Q (.ref l) H'
section
variable [Gn]{a:Adr}{Zz:zu}
abbrev xj (a:Adr): Prop:=ZY P w K mg base 1 "_law_order" ["_law_way"] (W8) []
def DP (T:Zq a): xj a:=by
 exists T.FJ,["_law_way"];rintro⟨w',rfl,k⟩;left;refine⟨_,(ae (cG (ct gM (pv 0) ai) (af (bq (eS (aq aD (aq aD (aq aD (ao aD))))))) bb)
     (ae (cG (ct gM (pv 0) ai) (af (bq (eS (aq aD (aq aD (ao aD)))))) bb)
     (ae (cG (ct gM (pv 0) ai) (af (bq (eS (aq aD (aq aD (aq aD (ao aD))))))) bb)
     (ae (cG (ct gM (pv 0) ai) (af (bq (eS (aq aD (aq aD (aq aD (aq aD (aq aD (ao aD))))))))) bb)
     (ae (cG (ct gM (pv 0) ai) (af (bq (eS (aq aD (aq aD (aq aD (ao aD))))))) bb)
     (ae (cG (ct gM (pv 0) ai) (af (bq (eS (aq aD (aq aD (aq aD (aq aD (aq aD (ao aD))))))))) bb)
     (af (bq (eS (ao aD)))))))))),?_⟩
 symm;refine d6 (λh0=>?_) λh0=>?_
 · symm
   intro l hl;generalize hh:upd _ l _=H1;let⟨s1,e1⟩:=eQ hl hh;clear hh;exact k l H1 ⟨hl,by unfold i4;rw[if_pos h0];exact e1,s1⟩
 symm;refine d6 (λh1=>?_) λh1=>?_
 · symm
   intro l hl;generalize hh:upd _ l _=H1;let⟨s1,e1⟩:=eQ hl hh;clear hh;exact k l H1 ⟨hl,by unfold i4;rw[if_neg h0,if_pos h1];exact e1,s1⟩
 symm;refine d6 (λh2=>?_) λh2=>?_
 · symm
   intro l hl;generalize hh:upd _ l _=H1;let⟨s1,e1⟩:=eQ hl hh;clear hh;exact k l H1 ⟨hl,by unfold i4;rw[if_neg h0,if_neg h1,if_pos h2];exact e1,s1⟩
 symm;refine d6 (λh3=>?_) λh3=>?_
 · symm
   intro l hl;generalize hh:upd _ l _=H1;let⟨s1,e1⟩:=eQ hl hh;clear hh;exact k l H1 ⟨hl,by unfold i4;rw[if_neg h0,if_neg h1,if_neg h2,if_pos h3];exact e1,s1⟩
 symm;refine d6 (λh4=>?_) λh4=>?_
 · symm
   intro l hl;generalize hh:upd _ l _=H1;let⟨s1,e1⟩:=eQ hl hh;clear hh;exact k l H1 ⟨hl,by unfold i4;rw[if_neg h0,if_neg h1,if_neg h2,if_neg h3,if_pos h4];exact e1,s1⟩
 symm;refine d6 (λh5=>?_) λh5=>?_
 · symm
   intro l hl;generalize hh:upd _ l _=H1;let⟨s1,e1⟩:=eQ hl hh;clear hh;exact k l H1 ⟨hl,by unfold i4;rw[if_neg h0,if_neg h1,if_neg h2,if_neg h3,if_neg h4,if_pos h5];exact e1,s1⟩
 symm;intro l hl;generalize hh:upd _ l _=H1;let⟨s1,e1⟩:=eQ hl hh;clear hh;exact k l H1 ⟨hl,by unfold i4;rw[if_neg h0,if_neg h1,if_neg h2,if_neg h3,if_neg h4,if_neg h5];exact e1,s1⟩
abbrev Cm (a:Adr): Prop:=ZY P w K mg base 2 "_law_bad" ["_law_way","_law_cell"] (W9) []
def Ic (T:Zq a)(rM:xj a): Cm a:=by
 exists T.Jn,["_law_way","_law_cell","_law_bad_here","_law_k","_law_word"];rintro⟨w',c,rfl,k⟩;left;refine⟨_,(ae (dM 2 nD (eS jx))
     (ae (cG (ct gM (dL kM (pv 1) ai) ai) (af (bq (pv 2))) bb)
     (ae (fo (NP (by rfl) T.bT (pf rM (ao (pv 0)))) (kK (n:=2) rfl (eV (gn 3 nD) (eV (gn 4 nD) jv)))
     (af (cG (ct gM (dL kM (dL mD (pv 1) (dL kL ai (dL EH ai (pv 3)))) ai) ai) (af (aF (D6 Qz Q4 Q5 mO (pv 2) (ao (pv 4))))) bb)))
     (af (bq (pv 2)))))),?_⟩
 symm;intro l hl;generalize hh:upd _ l _=H1;let⟨s1,e1⟩:=eQ hl hh;clear hh;symm;refine d6 (λc0=>?_) λc0=>?_
 · symm
   exact k l H1 [] (List.nil_sublist _) ⟨hl,e1,s1⟩
 symm;rintro lo H2 ⟨hlo,e2,s2⟩;symm
 let Iv1:L2.Lv:=λi σ H'=>Bx (∃v3 v4 bd,σ=[some (.int w'),some (.int c),some (.ref l),v3,v4]/\List.Sublist bd ((i4 w').take i)/\H' l=some (.lst (bd.map V.str))/\Zy H H'/\H' lo=some (.lst ((i4 w').map V.str)))
 refine NQ (xs:=(i4 w').map V.str) Iv1 ⟨L2.j3 _ _ [] ⟨rfl,List.nil_sublist _,s2 _ _ e1,s1.trans s2,e2⟩⟩ (λi σ H' _ z=>?_) ?_ ?_
 · let⟨_,_,_,_,_,_,_,z⟩:=z.o
   exact Zx.of z
 · rintro i x σ H3 tt hi ⟨v3,v4,bd,rfl,sb,hb3,s3,ho3⟩ htt
   rw[qx,qP] at hi;let⟨y,hy,rfl⟩:=hi;have tk:(i4 w').take (i+1)=(i4 w').take i++[y]:=by rw[qQ,hy];rfl
   have i6:(i:Int) < 6:=by
     have h:=(qg.mp hy).1;have:(i4 w').length<=6:=by unfold i4;(repeat' split)<;>decide
     lia
   have bl:bd.length<=6:=by
     have h:=sb.length_le;rw[qA] at h;lia
   generalize hh:upd H3 tt _=H4;let⟨s4,e4⟩:=eQ htt hh;clear hh;have hb4:=s4 _ _ hb3;have cd:VW c (4+7*(i:Int)):=⟨by lia,by lia⟩;have bl2:(bd.map V.str).length < sizeLine:=by rw[qa,sizeLine_eq];lia
   symm;refine d6 (λc1=>?_) λc1=>?_
   · symm
     refine⟨L2.j3 _ _ (bd++[y]) ⟨rfl,by rw[tk];exact sb.append (List.Sublist.refl _),by rw[qu];exact ah,λb u e=>?_,?_⟩⟩
     · rw[ak (aj e hl)];exact s4 _ _ (s3 _ _ e)
     · rw[ak (aj e1 hlo).symm];exact s4 _ _ ho3
   · symm
     exact⟨L2.j3 _ _ bd ⟨rfl,by rw[tk];exact sb.trans (List.sublist_append_left _ _),hb4,s3.trans s4,s4 _ _ ho3⟩⟩
 · intro σ H3;refine Bx.el ?_;rintro⟨v3,v4,bd,rfl,sb,hb3,s3,ho3⟩
   rw[qa,qN] at sb;symm;exact k l H3 bd sb ⟨hl,hb3,s3⟩
end
def nI (w:Int)(bd:zq): Int:=if ("unmapped" : Str)∈bd then 7 else if ("barred" : Str)∈bd then 10-w else if ("full" : Str)∈bd/\w=5 then 4 else 3
def W_:Sp:=λvs H Q _=>∃(w:Int) (l:Addr) (bd:zq),vs=[.int w,.ref l]/\H l=some (.lst (bd.map V.str))/\Q (.int (nI w bd)) H
def ke {x:Str}{bd:zq}: inV (.str x) (bd.map V.str)=decide (x∈bd):=by
 unfold inV
 induction bd with
 | nil=>rfl
 | cons y r ih =>
   rw[Qb,abg,ih];have e:eqV (.str y) (.str x)=decide (y=x):=rfl;rw[e];by_cases c:y=x
   · subst c;simp
   · have c':¬x=y:=λz=>c z.symm
     rw[decide_eq_false c,Bool.false_or];simp[c']
def Jy {bd:zq}: (bd.map V.str).all vN=true:=by
 induction bd with
 | nil=>rfl
 | cons y r ih=>rw[Qb,aej,ih];rfl
section
variable [Gn]{a:Adr}{Zz:zu}
abbrev tR (a:Adr): Prop:=ZY P w K mg base 1 "_law_page_of" ["_law_way","_law_bad_here"] (W_) []
def Ay (T:Zq a): tR a:=by
 exists T.BI,["_law_way","_law_bad_here"];rintro⟨w',l,bd,rfl,hl,k⟩;left;refine⟨_,(ae (cG (ct iR aD (pv 1)) (af (bq ai)) bb)
     (ae (cG (ct iR aD (pv 1)) (af (bq (dL ji ai (pv 0)))) bb)
     (ae (cG (PW.pt (pG (ct iR aD (pv 1)) (pF (ct gM (pv 0) ai)))) (af (bq ai)) bb)
     (af (bq ai))))),?_⟩
 have sq:Zx K H l (bd.map V.str):=.of hl;have fa:=Jy (bd:=bd);walk_at "0i";refine dI (λc=>?_) λc=>?_
 · symm
   have e:nI w' bd=7:=if_pos c;rw[e] at k;exact k
 walk_at "0i";refine dI (λc1=>?_) λc1=>?_
 · symm
   have e:nI w' bd=10-w':=(if_neg c).trans (if_pos c1);rw[e] at k;exact k
 walk_at "0i";refine dI (λc2=>?_) λc2=>?_
 · symm
   refine d6 (λc3=>?_) λc3=>?_
   · symm
     have e:nI w' bd=4:=(if_neg c).trans ((if_neg c1).trans (if_pos ⟨c2,c3⟩));rw[e] at k;exact k
   · symm
     have e:nI w' bd=3:=(if_neg c).trans ((if_neg c1).trans (if_neg λz=>c3 z.2));rw[e] at k;exact k
 · symm
   have e:nI w' bd=3:=(if_neg c).trans ((if_neg c1).trans (if_neg λz=>c2 z.1));rw[e] at k;exact k
end
abbrev zA:=Str->Option V
def Dt (H:Hp)(d:Addr)(f:zA)(k:Nat): Prop:=∃z_:List (Key×V),H d=some (.dK z_)/\z_.length<=k/\∀s:Str,fE z_ (.inr s)=f s
def fset (f:zA)(s:Str)(v:V): Str->Option V:=λx=>if x=s then some v else f x
def nY {f:zA}{s:Str}{v:V}: fset f s v s=some v:=if_pos rfl
def dW {f:zA}{s x:Str}{v:V}(h:x≠s): fset f s v x=f x:=if_neg h
section
variable {H H':Hp}{d b:Addr}{f f':zA}{k j:Nat}{s:Str}{v:V}
def Dt.get (D:Dt H d f k)(e:f s=some v): kg H d (.str s) (some v):=by
 let⟨z_,h1,_,h3⟩:=D;have:=kg.k (k:=QJ s) h1;rw[h3,e] at this;exact this
def Dt.mono (D:Dt H d f k)(h:k<=j): Dt H d f j:=by let⟨z_,h1,h2,h3⟩:=D;exact ⟨z_,h1,Qh h2 h,h3⟩
def Dt.keep (D:Dt H d f k)(h:∀u,H d=some u->H' d=some u): Dt H' d f k:=by let⟨z_,h1,h2,h3⟩:=D;exact ⟨z_,h _ h1,h2,h3⟩
def Dt.put (D:Dt H d f k)(hk:k < 1000)(s:Str)(v:V): ∃H',sE H d (.str s) v H'/\Dt H' d (fset f s v) (k+1)/\∀b u,b≠d->H b=some u->H' b=some u:=by
 let⟨z_,h1,h2,h3⟩:=D;refine⟨_,sE.k (k:=QJ s) (v:=v) h1 (by rw[sizeLine_eq];lia),⟨_,ah,by have:=lU z_ (QJ s) v;lia,λx=>?_⟩,λb u n e=>by rw[ak n];exact e⟩;rw[jA,h3];unfold fset;by_cases c:x=s
 · subst c;rw[if_pos rfl,if_pos rfl]
 · rw[if_neg c,if_neg λz=>c (by injection z)]
def Dt.ne (D:Dt H d f k){l:Addr}{xs:zu}(h:H l=some (.lst xs)): l≠d:=λz=>by
 let⟨z_,h1,_⟩:=D;rw[z,h1] at h;cases h
def Dt.put2 (D:Dt H d f k)(hk:k < 900)(n m:Int): ∃H1 H',sE H d (.str "first") (.int n) H1/\sE H1 d (.str "many") (.int m) H'/\Dt H' d (fset (fset f "first" (.int n)) "many" (.int m)) (k+2)/\∀b u,b≠d->H b=some u->H' b=some u:=by
 let⟨H1,p1,D1,k1⟩:=D.put (by lia) "first" (.int n);let⟨H2,p2,D2,k2⟩:=D1.put (by lia) "many" (.int m);exact⟨H1,H2,p1,p2,D2,λb u n e=>k2 b u n (k1 b u n e)⟩
end
structure Fm (f f':zA)(n m:Int): Prop where
 o:∀s:Str,s ≠ "first" -> s ≠ "many" -> f' s=f s
 n:f' "first" = some (.int n)
 m:f' "many" = some (.int m)
def S8:("first" : Str) ≠ "many" := by decide
def Fm.two {f f':zA} {n m:Int} (h:∀s:Str,s ≠ "first" -> s ≠ "many" -> f' s=f s):Fm f (fset (fset f' "first" (.int n)) "many" (.int m)) n m:=⟨λs h1 h2=>by rw[dW h2,dW h1];exact h s h1 h2,by rw[dW S8];exact nY,nY⟩
def Fm.many {f f':zA}{n m m':Int}(h:Fm f f' n m): Fm f (fset f' "many" (.int m')) n m':=⟨λs h1 h2=>by rw[dW h2];exact h.o s h1 h2,by rw[dW S8];exact h.n,nY⟩
def bn (w:Int): Int:=if w=0 then 7 else if w=1 then 4 else if w=2 then 5 else 10
def bm (w:Int): Int:=if w=3 then 2 else 1
def tn (w:Int): Int:=if w=3 then 7 else 2
def Bt (w:Int)(bd:zq)(n m:Int): Prop:=if ("unmapped" : Str)∈bd then n=6/\m=2 else if ("taken" : Str)∈bd then n=tn w/\m=2 else n=bn w/\m=bm w
def Bu (w:Int)(bd:zq)(n m:Int): Prop:=if ("unlike" : Str)∈bd then (∃m',Bt w bd n m')/\(m=3\/m=1) else Bt w bd n m
def Bs (w:Int)(bd:zq)(n m:Int): Prop:=if ("stretch" : Str)∈bd then ¬fO [2,2] n m else Bu w bd n m
def p16:pgs [2,2]=16:=by exfalso
def four {t0 t1 t2 t3:Addr}{H:Hp}{n0 m0 n1 m1 n2 m2 n3 m3 w:Int}(e0:H t0=some (.tup [.int n0,.int m0]))(e1:H t1=some (.tup [.int n1,.int m1]))(e2:H t2=some (.tup [.int n2,.int m2]))(e3:H t3=some (.tup [.int n3,.int m3]))(w0:0<=w)(w4:w < 4):
   ∃t n m,atI [V.ref t0,V.ref t1,V.ref t2,V.ref t3] w=some (.ref t)/\H t=some (.tup [.int n,.int m])/\((w=0/\n=n0/\m=m0)\/(w=1/\n=n1/\m=m1)\/(w=2/\n=n2/\m=m2)\/(w=3/\n=n3/\m=m3)):=by
 have:w=0\/w=1\/w=2\/w=3:=by lia
 rcases this with rfl | rfl | rfl | rfl
 · exact⟨t0,_,_,rfl,e0,.inl ⟨rfl,rfl,rfl⟩⟩
 · exact⟨t1,_,_,rfl,e1,.inr (.inl ⟨rfl,rfl,rfl⟩)⟩
 · exact⟨t2,_,_,rfl,e2,.inr (.inr (.inl ⟨rfl,rfl,rfl⟩))⟩
 · exact⟨t3,_,_,rfl,e3,.inr (.inr (.inr ⟨rfl,rfl,rfl⟩))⟩
def Xc:Sp:=λvs H Q _=>∃(d l:Addr) (w c:Int) (bd:zq) (f:zA) (k:Nat),vs=[.ref d,.int w,.int c,.ref l]/\(0<=w/\w < 4)/\Dt H d f k/\k<=100/\H l=some (.lst (bd.map V.str)) ∧
 ∀n m f' H',Bs w bd n m->Fm f f' n m->Dt H' d f' (k+20)->(∀b u,b≠d->H b=some u->H' b=some u)->Q .non H'
section
variable [Gn]{a:Adr}{Zz:zu}
abbrev nZ (a:Adr): Prop:=ZY P w K mg base 1 "_law_stretch_of" ["_law_a","_law_way","_law_cell","_law_bad_here"] (Xc) []
def vB (T:Zq a): nZ a:=by
 exists T.wx,["_law_a","_law_way","_law_cell","_law_bad_here","_law_far","_law_some"];rintro⟨d,l,w',c,bd,f0,k0,rfl,hw,D,kb,hl,q⟩;refine L2.xl ?_;intro X _ _
 let R4:{t:TS // PSs X ((dO (top 107)).drop 4) t}:=⟨_,(af (cG (ct iR aD (pv 3)) (ae (dM 4 nD (dL kM (dL mD (pv 2) ai) (dL EI ai ai)))
     (ae (dM 5 nD (eS (aq (fM (aq ai (ao ai))) (aq (fM (aq ai (ao (dL ji ai (pv 4))))) (aq (fM (aq (dL ji (nK kN ai) (pv 4)) (ao ai))) (ao (fM (aq (dL kL ai (pv 4)) (ao ai)))))))))
     (af (mS (hZ fV (pv 5) (dL kM (pv 2) ai)) (kK (n:=2) rfl (eV (nN hr.u1 (pv 0) aD) (eV (nN hr.u1 (pv 0) aD) jv))))))) bb))⟩
 let R3:{t:TS // PSs X ((dO (top 107)).drop 3) t}:=⟨_,(ae (cG (ct iR aD (pv 3)) (af (j_ hr.u1 (pv 0) aD (dL ji ai (dL EH ai (dL kM (pv 2) ai))) rfl)) bb)
     R4.2)⟩
 let R2:{t:TS // PSs X ((dO (top 107)).drop 2) t}:=⟨_,(ae (cG (ct iR aD (pv 3)) (af (mS (fM (aq ai (ao ai))) (kK (n:=2) rfl (eV (nN hr.u1 (pv 0) aD) (eV (nN hr.u1 (pv 0) aD) jv))))) bb)
     R3.2)⟩
 refine⟨_,(ae (mS (hZ fV (eS (aq (fM (aq ai (ao ai))) (aq (fM (aq ai (ao ai))) (aq (fM (aq ai (ao ai))) (ao (fM (aq ai (ao ai)))))))) (pv 1)) (kK (n:=2) rfl (eV (nN hr.u1 (pv 0) aD) (eV (nN hr.u1 (pv 0) aD) jv))))
     (ae (cG (ct iR aD (pv 3)) (af (mS (hZ fV (eS (aq (fM (aq ai (ao ai))) (aq (fM (aq ai (ao ai))) (aq (fM (aq ai (ao ai))) (ao (fM (aq ai (ao ai)))))))) (pv 1)) (kK (n:=2) rfl (eV (nN hr.u1 (pv 0) aD) (eV (nN hr.u1 (pv 0) aD) jv))))) bb)
     R2.2)),?_⟩
 let⟨w0,w4⟩:=hw;have nl:=D.ne hl;have fa:=Jy (bd:=bd);have Ie:∀(v4 v5:zJ) (n m:Int) (f':zA) (H':Hp),Bu w' bd n m->Fm f0 f' n m->Dt H' d f' (k0+10)->(∀b u,b≠d->H b=some u->H' b=some u)->R4.1 { nx:=λx H'=>Q V.non H',rt:=Q } [some (.ref d),some (.int w'),some (.int c),some (.ref l),v4,v5] H':=by
   intro v4 v5 n m f' H' bu fm D' kp;have sq:Zx K H' l (bd.map V.str):=.of (kp _ _ nl hl);walk_at "0i";refine dI (λz=>?_) λz=>?_
   · have bad:∀{n m:Int},(m<=0\/n < 0\/16 < n+m)->Bs w' bd n m:=λh=>by
       unfold Bs;rw[if_pos z];rintro⟨⟨h1,h2⟩,h3,h4⟩;rw[p16] at h4;lia
     symm;intro t0 ht0;generalize hh:upd _ t0 _=H1;let⟨s1,e1⟩:=eQ ht0 hh;clear hh;symm;intro t1 ht1;generalize hh:upd _ t1 _=H2;let⟨s2,e2⟩:=eQ ht1 hh;clear hh;symm;intro t2 ht2;generalize hh:upd _ t2 _=H3;let⟨s3,e3⟩:=eQ ht2 hh;clear hh;symm;intro t3 ht3;generalize hh:upd _ t3 _=H4;let⟨s4,e4⟩:=eQ ht3 hh;clear hh;symm;intro ls hls;generalize hh:upd _ ls _=H5;let⟨s5,e5⟩:=eQ hls hh;clear hh;have s25:=s3.trans (s4.trans s5);have s15:=s2.trans s25;let⟨t,n',m',ha,ht,hc⟩:=four (w:=c%4) (s15 _ _ e1) (s25 _ _ e2) (s4.trans s5 _ _ e3) (s5 _ _ e4) (by lia) (by lia);have D5:=D'.keep (λu h=>s15 _ _ (s1 _ _ h));let⟨H6,H7,p6,p7,D7,k7⟩:=D5.put2 (by lia) n' m';symm;refine q n' m' _ H7 (bad ?_) (Fm.two fm.o) (D7.mono (by lia)) λb u nb e=>k7 b u nb (s15 _ _ (s1 _ _ (kp b u nb e)));have z0:0<=c / 4%10^Int.toNat 30:=aco _ (by decide);have zz:∀z:Int,0<=z->(0-z<=0/\-1-z < 0/\16 < 16+z+1):=λz h=>by lia
     let⟨z1,z2,z3⟩:=zz _ z0;rcases hc with ⟨_,e1,e2⟩ | ⟨_,e1,e2⟩ | ⟨_,e1,e2⟩ | ⟨_,e1,e2⟩
     · refine .inr (.inr ?_);rw[e1,e2];decide
     · refine .inl ?_;rw[e2];exact z1
     · refine .inr (.inl ?_);rw[e1];exact z2
     · refine .inr (.inr ?_);rw[e1,e2];exact z3
   · symm
     exact q n m f' H' (by unfold Bs;rw[if_neg z];exact bu) fm (D'.mono (by lia)) kp
 have tail3:∀(v4 v5:zJ) (n m:Int) (f':zA) (H':Hp),Bt w' bd n m->Fm f0 f' n m->Dt H' d f' (k0+8)->(∀b u,b≠d->H b=some u->H' b=some u)->R3.1 { nx:=λx H'=>Q V.non H',rt:=Q } [some (.ref d),some (.int w'),some (.int c),some (.ref l),v4,v5] H':=by
   intro v4 v5 n m f' H' bt fm D' kp;have sq:Zx K H' l (bd.map V.str):=.of (kp _ _ nl hl);walk_at "0i";refine dI (λz=>?_) λz=>?_
   · let⟨H1,p1,D1,k1⟩:=D'.put (by lia) "many" (.int (3-2*(c%2)))
     have t4:=Ie v4 v5 n (3-2*(c%2)) _ H1 (by unfold Bu;rw[if_pos z];exact⟨⟨m,bt⟩,by lia⟩) fm.many (D1.mono (by lia)) λb u nb e=>k1 b u nb (kp b u nb e);repeat (first | exact t4 | right)
   · have t4:=Ie v4 v5 n m f' H' (by unfold Bu;rw[if_neg z];exact bt) fm (D'.mono (by lia)) kp
     repeat (first | exact t4 | right)
 have Ig:∀(v4 v5:zJ) (n m:Int) (f':zA) (H':Hp),(if ("taken" : Str)∈bd then n=tn w'/\m=2 else n=bn w'/\m=bm w')->Fm f0 f' n m->Dt H' d f' (k0+6)->(∀b u,b≠d->H b=some u->H' b=some u)->R2.1 { nx:=λx H'=>Q V.non H',rt:=Q } [some (.ref d),some (.int w'),some (.int c),some (.ref l),v4,v5] H':=by
   intro v4 v5 n m f' H' bt fm D' kp;have sq:Zx K H' l (bd.map V.str):=.of (kp _ _ nl hl);walk_at "0i";refine dI (λz=>?_) λz=>?_
   · symm
     intro t0 ht0;generalize hh:upd _ t0 _=H1;let⟨s1,e1⟩:=eQ ht0 hh;clear hh;have D1:=D'.keep (λu h=>s1 _ _ h);let⟨H6,H7,p6,p7,D7,k7⟩:=D1.put2 (by lia) 6 2;have t3:=tail3 v4 v5 6 2 _ H7 (by unfold Bt;rw[if_pos z];exact⟨rfl,rfl⟩) (Fm.two fm.o) (D7.mono (by lia)) λb u nb e=>k7 b u nb (s1 _ _ (kp b u nb e));repeat (first | exact t3 | right)
   · have t3:=tail3 v4 v5 n m f' H' (by unfold Bt;rw[if_neg z];exact bt) fm (D'.mono (by lia)) kp
     repeat (first | exact t3 | right)
 symm;intro t0 ht0;generalize hh:upd _ t0 _=H1;let⟨s1,e1⟩:=eQ ht0 hh;clear hh;symm;intro t1 ht1;generalize hh:upd _ t1 _=H2;let⟨s2,e2⟩:=eQ ht1 hh;clear hh;symm;intro t2 ht2;generalize hh:upd _ t2 _=H3;let⟨s3,e3⟩:=eQ ht2 hh;clear hh;symm;intro t3 ht3;generalize hh:upd _ t3 _=H4;let⟨s4,e4⟩:=eQ ht3 hh;clear hh;symm;intro ls hls;generalize hh:upd _ ls _=H5;let⟨s5,e5⟩:=eQ hls hh;clear hh;have s25:=s3.trans (s4.trans s5);have s15:=s2.trans s25;let⟨t,n,m,ha,ht,hc⟩:=four (w:=w') (s15 _ _ e1) (s25 _ _ e2) (s4.trans s5 _ _ e3) (s5 _ _ e4) w0 w4;let⟨H6,H7,p6,p7,D7,k7⟩:=(D.keep (λu h=>s15 _ _ (s1 _ _ h))).put2 (by lia) n m;have kp7:∀b u,b≠d->H b=some u->H7 b=some u:=λb u nb e=>k7 b u nb (s15 _ _ (s1 _ _ e));have sq:Zx K H7 l (bd.map V.str):=.of (kp7 _ _ nl hl);have F7:Fm f0 (fset (fset f0 "first" (.int n)) "many" (.int m)) n m:=Fm.two λ_ _ _=>rfl;have en:n=bn w'/\m=bm w':=by
   rcases hc with ⟨rfl,e1,e2⟩ | ⟨rfl,e1,e2⟩ | ⟨rfl,e1,e2⟩ | ⟨rfl,e1,e2⟩<;>exact⟨e1,e2⟩
 walk_at "0i";refine dI (λz=>?_) λz=>?_
 · symm
   intro u0 hu0;generalize hh:upd _ u0 _=H8;let⟨s8,e8⟩:=eQ hu0 hh;clear hh;symm;intro u1 hu1;generalize hh:upd _ u1 _=H9;let⟨s9,e9⟩:=eQ hu1 hh;clear hh;symm;intro u2 hu2;generalize hh:upd _ u2 _=H10;let⟨s10,e10⟩:=eQ hu2 hh;clear hh;symm;intro u3 hu3;generalize hh:upd _ u3 _=H11;let⟨s11,e11⟩:=eQ hu3 hh;clear hh;symm;intro us hus;generalize hh:upd _ us _=H12;let⟨s12,e12⟩:=eQ hus hh;clear hh;have r25:=s10.trans (s11.trans s12);have r15:=s9.trans r25;let⟨t',n',m',ha',ht',hc'⟩:=four (w:=w') (r15 _ _ e8) (r25 _ _ e9) (s11.trans s12 _ _ e10) (s12 _ _ e11) w0 w4;let⟨H13,H14,p13,p14,D14,k14⟩:=(D7.keep (λu h=>r15 _ _ (s8 _ _ h))).put2 (by lia) n' m';have t2:=Ig none none n' m' _ H14 (by
     rw[if_pos z];rcases hc' with ⟨rfl,e1,e2⟩ | ⟨rfl,e1,e2⟩ | ⟨rfl,e1,e2⟩ | ⟨rfl,e1,e2⟩<;>exact⟨e1,e2⟩) (Fm.two F7.o) (D14.mono (by lia)) λb u nb e=>k14 b u nb (r15 _ _ (s8 _ _ (kp7 b u nb e)))
   repeat (first | exact t2 | right)
 · have t2:=Ig none none n m _ H7 (by rw[if_neg z];exact en) F7 (D7.mono (by lia)) kp7
   repeat (first | exact t2 | right)
end
def r42 (w:Int): Int:=if w%4=2 then 1 else if w%4=3 then 0 else 3
abbrev Wd (bd:zq)(s:Str)(p q:Prop): Prop:=(s∈bd->p)/\(s∉bd->q)
abbrev Ct (bd:zq)(t:Int): Prop:=Wd bd "task" (t≠0) (t=0)
abbrev Cr (w:Int)(bd:zq)(r:Int): Prop:=Wd bd "rights" (¬OkR r) (r=r42 w)
abbrev Cx (bd:zq)(x:Str): Prop:=x.length<=1000/\Wd bd "name" (¬gS x) (x = "ab")
abbrev Cv (bd:zq)(v:Int): Prop:=Wd bd "word" (¬(0<=v/\v < 2^64)) (v=77)
abbrev CA (w:Int)(bd:zq)(A:Int): Prop:=Wd bd "address" (¬InA [2,2] 1 A) (A=2*nI w bd)
structure Fa (f:zA)(w t n m r:Int)(x:Str)(A v:Int): Prop where
 t:f "task" = some (.int t)
 r:f "rights" = some (.int r)
 x:f "name" = some (.str x)
 v:f "word" = some (.int v)
 A:f "address" = some (.int A)
 s:w < 4->f "first" = some (.int n)/\f "many" = some (.int m)
section
variable {f f':zA}{w t n m r A v t' r' A' v':Int}{x x':Str}
def Fa.st (h:Fa f w t n m r x A v): Fa (fset f "task" (.int t')) w t' n m r x A v:=⟨nY,(dW (by decide)).trans h.r,(dW (by decide)).trans h.x,(dW (by decide)).trans h.v,(dW (by decide)).trans h.A,λz=>⟨(dW (by decide)).trans (h.s z).1,(dW (by decide)).trans (h.s z).2⟩⟩
def Fa.sr (h:Fa f w t n m r x A v): Fa (fset f "rights" (.int r')) w t n m r' x A v:=⟨(dW (by decide)).trans h.t,nY,(dW (by decide)).trans h.x,(dW (by decide)).trans h.v,(dW (by decide)).trans h.A,λz=>⟨(dW (by decide)).trans (h.s z).1,(dW (by decide)).trans (h.s z).2⟩⟩
def Fa.sx (h:Fa f w t n m r x A v): Fa (fset f "name" (.str x')) w t n m r x' A v:=⟨(dW (by decide)).trans h.t,(dW (by decide)).trans h.r,nY,(dW (by decide)).trans h.v,(dW (by decide)).trans h.A,λz=>⟨(dW (by decide)).trans (h.s z).1,(dW (by decide)).trans (h.s z).2⟩⟩
def Fa.sv (h:Fa f w t n m r x A v): Fa (fset f "word" (.int v')) w t n m r x A v':=⟨(dW (by decide)).trans h.t,(dW (by decide)).trans h.r,(dW (by decide)).trans h.x,nY,(dW (by decide)).trans h.A,λz=>⟨(dW (by decide)).trans (h.s z).1,(dW (by decide)).trans (h.s z).2⟩⟩
def Fa.sA (h:Fa f w t n m r x A v): Fa (fset f "address" (.int A')) w t n m r x A' v:=⟨(dW (by decide)).trans h.t,(dW (by decide)).trans h.r,(dW (by decide)).trans h.x,(dW (by decide)).trans h.v,nY,λz=>⟨(dW (by decide)).trans (h.s z).1,(dW (by decide)).trans (h.s z).2⟩⟩
def Fa.fm {n' m':Int}(h:Fa f w t n m r x A v)(q:Fm f f' n' m'): Fa f' w t n' m' r x A v:=⟨(q.o _ (by decide) (by decide)).trans h.t,(q.o _ (by decide) (by decide)).trans h.r,(q.o _ (by decide) (by decide)).trans h.x,(q.o _ (by decide) (by decide)).trans h.v,(q.o _ (by decide) (by decide)).trans h.A,λ_=>⟨q.n,q.m⟩⟩
end
def Ag (H:Hp)(d:Addr)(w t n m r:Int)(x:Str)(A v:Int): Prop:=∃f k,Dt H d f k/\Fa f w t n m r x A v
structure Ar (w:Int)(bd:zq)(t n m r:Int)(x:Str)(A v:Int): Prop where
 t:Ct bd t
 s:w < 4->Bs w bd n m
 r:Cr w bd r
 x:Cx bd x
 v:Cv bd v
 A:CA w bd A
def Xd:Sp:=λvs H Q _=>∃(w c:Int) (l:Addr) (bd:zq),vs=[.int w,.int c,.ref l]/\(0<=w/\w < 8)/\H l=some (.lst (bd.map V.str)) ∧
 ∀d t n m r x A v H',Ar w bd t n m r x A v->Ag H' d w t n m r x A v->H d=none->Zy H H'->Q (.ref d) H'
def two {x y:V}{i:Int}: ∃z,atI [x,y] (i%2)=some z/\(z=x\/z=y):=by
 have:i%2=0\/i%2=1:=by lia
 rcases this with e | e<;>rw[e]
 · exact⟨x,rfl,.inl rfl⟩
 · exact⟨y,rfl,.inr rfl⟩
def nms:List Str:=["","abcdefghi","aB","a ","ab1","a-b"]
def six {i:Int}: ∃z:Str,atI (nms.map V.str) (i%6)=some (.str z)/\z.length<=1000/\¬gS z:=by
 have:i%6=0\/i%6=1\/i%6=2\/i%6=3\/i%6=4\/i%6=5:=by lia
 rcases this with e | e | e | e | e | e<;>rw[e]
 · exact⟨"",rfl,by exfalso,by unfold gS;exfalso⟩
 · exact⟨"abcdefghi",rfl,by exfalso,by unfold gS;exfalso⟩
 · exact⟨"aB",rfl,by exfalso,by unfold gS;exfalso⟩
 · exact⟨"a ",rfl,by exfalso,by unfold gS;exfalso⟩
 · exact⟨"ab1",rfl,by exfalso,by unfold gS;exfalso⟩
 · exact⟨"a-b",rfl,by exfalso,by unfold gS;exfalso⟩
def a32 {A:Int}(h:A < 0\/32<=A): ¬InA [2,2] 1 A:=by
 have e:pgs [2,2]*plc 1=32:=by exfalso
 unfold InA;rw[e];lia
section
variable [Gn]{a:Adr}{Zz:zu}
abbrev pE (a:Adr): Prop:=ZY P w K mg base 2 "_law_arguments" ["_law_way","_law_cell","_law_bad_here"] (Xd) []
def xk (T:Zq a)(nH:tR a)(la:nZ a): pE a:=by
 exists T.x9,["_law_way","_law_cell","_law_bad_here","_law_far","_law_a"];rintro⟨w',c,l,bd,rfl,hw,hl,q⟩;refine L2.xl ?_;intro X _ _
 let R8:{t:TS // PSs X ((dO (top 109)).drop 8) t}:=⟨_,(af (bq (pv 4)))⟩
 let R7:{t:TS // PSs X ((dO (top 109)).drop 7) t}:=⟨_,(ae (cG (ct iR aD (pv 2)) (af (j_ hr.u1 (pv 4) aD (hZ fV (eS (aq (dL ji (nK kN ai) (pv 3)) (ao (dL kL ai (pv 3))))) (dL kM (dL mD (pv 1) ai) ai)) rfl)) bb)
     R8.2)⟩
 let R6:{t:TS // PSs X ((dO (top 109)).drop 6) t}:=⟨_,(ae (cG (ct iR aD (pv 2)) (af (j_ hr.u1 (pv 4) aD (hZ fV (eS (aq (dL ji (nK kN ai) (pv 3)) (ao (dL kL (dL EI ai ai) (pv 3))))) (dL kM (dL mD (pv 1) ai) ai)) rfl)) bb)
     R7.2)⟩
 let R5:{t:TS // PSs X ((dO (top 109)).drop 5) t}:=⟨_,(ae (cG (ct iR aD (pv 2)) (af (j_ hr.u1 (pv 4) aD (hZ fV (eS (aq aD (aq aD (aq aD (aq aD (aq aD (ao aD))))))) (dL kM (dL mD (pv 1) ai) ai)) rfl)) bb)
     R6.2)⟩
 let R4:{t:TS // PSs X ((dO (top 109)).drop 4) t}:=⟨_,(ae (cG (ct iR aD (pv 2)) (af (j_ hr.u1 (pv 4) aD (hZ fV (eS (aq (dL ji (nK kN ai) (pv 3)) (ao (dL kL ai (pv 3))))) (dL kM (dL mD (pv 1) ai) ai)) rfl)) bb)
     R5.2)⟩
 let R3:{t:TS // PSs X ((dO (top 109)).drop 3) t}:=⟨_,(ae (cG (ct iR aD (pv 2)) (af (j_ hr.u1 (pv 4) aD (hZ fV (eS (aq (dL ji (nK kN ai) (pv 3)) (ao (dL kL ai (pv 3))))) (dL kM (dL mD (pv 1) ai) ai)) rfl)) bb)
     R4.2)⟩
 refine⟨_,(ae (dM 3 nD (dL kM (pv 1) (dL EI ai ai)))
     (ae (dM 4 nD (PN (sF aD ai (sF aD (hZ fV (eS (aq ai (aq ai (aq ai (ao ai))))) (dL kM (pv 0) ai)) (sF aD aD (sF aD ai (sF aD (dL EH ai (pf nH (aq (pv 0) (ao (pv 2))))) PL))))) rfl rfl (by intro h;cases h) (by decide)))
     (ae (cG (ct AZ (pv 0) ai) (af (aF (pf la (aq (pv 4) (aq (pv 0) (aq (pv 1) (ao (pv 2)))))))) bb)
     R3.2))),?_⟩
 let⟨w0,w8⟩:=hw;have fa:=Jy (bd:=bd);have KC:∀(d:Addr) (far t n m r:Int) (x:Str) (A v:Int) (H':Hp),H d=none->Zy H H'->Ag H' d w' t n m r x A v->Ar w' bd t n m r x A v->R8.1 { nx:=λx H'=>Q V.non H',rt:=Q } [some (.int w'),some (.int c),some (.ref l),some (.int far),some (.ref d)] H':=by
   intro d far t n m r x A v H' hd s' ag ar;symm;exact q d t n m r x A v H' ar ag hd s'
 have KD:∀(d:Addr) (far t n m r:Int) (x:Str) (v:Int) (f:zA) (H':Hp),0<=far->H d=none->Zy H H'->Dt H' d f 104->Fa f w' t n m r x (2*nI w' bd) v->Ct bd t->(w' < 4->Bs w' bd n m)->Cr w' bd r->Cx bd x->Cv bd v->R7.1 { nx:=λx H'=>Q V.non H',rt:=Q } [some (.int w'),some (.int c),some (.ref l),some (.int far),some (.ref d)] H':=by
   intro d far t n m r x v f' H' f0 hd s' D F ct cs cr cx cv;have sq:Zx K H' l (bd.map V.str):=.of (s' _ _ hl);walk_at "0i";refine dI (λz=>?_) λz=>?_
   · symm
     intro u hu;generalize hh:upd _ u _=H1;let⟨s1,e1⟩:=eQ hu hh;clear hh;let⟨y,hy,yc⟩:=two (x:=.int (-1-far)) (y:=.int (32+far)) (i:=c / 6);obtain⟨A,rfl,ya⟩:∃A,y=.int A/\(A < 0\/32<=A):=by
       rcases yc with rfl | rfl
       · exact⟨_,rfl,by lia⟩
       · exact⟨_,rfl,by lia⟩
     let⟨H2,p2,D2,k2⟩:=(D.keep (λu h=>s1 _ _ h)).put (by decide) "address" (.int A);have t8:=KC d far t n m r x A v H2 hd (λb u e=>k2 b u (aj e hd) (s1 _ _ (s' _ _ e))) ⟨_,_,D2,F.sA⟩ ⟨ct,cs,cr,cx,cv,λ_=>a32 ya,λy=>absurd z y⟩;repeat (first | exact t8 | right)
   · have t8:=KC d far t n m r x _ v H' hd s' ⟨_,_,D,F⟩ ⟨ct,cs,cr,cx,cv,λy=>absurd y z,λ_=>rfl⟩
     repeat (first | exact t8 | right)
 have Ih:∀(d:Addr) (far t n m r:Int) (x:Str) (f:zA) (H':Hp),0<=far->H d=none->Zy H H'->Dt H' d f 103->Fa f w' t n m r x (2*nI w' bd) 77->Ct bd t->(w' < 4->Bs w' bd n m)->Cr w' bd r->Cx bd x->R6.1 { nx:=λx H'=>Q V.non H',rt:=Q } [some (.int w'),some (.int c),some (.ref l),some (.int far),some (.ref d)] H':=by
   intro d far t n m r x f' H' f0 hd s' D F ct cs cr cx;have sq:Zx K H' l (bd.map V.str):=.of (s' _ _ hl);walk_at "0i";refine dI (λz=>?_) λz=>?_
   · symm
     intro u hu;generalize hh:upd _ u _=H1;let⟨s1,e1⟩:=eQ hu hh;clear hh;let⟨y,hy,yc⟩:=two (x:=.int (-1-far)) (y:=.int (2^(64:Int).toNat+far)) (i:=c / 5);obtain⟨v,rfl,ya⟩:∃v,y=.int v/\¬(0<=v/\v < 2^64):=by
       rcases yc with rfl | rfl
       · exact⟨_,rfl,by lia⟩
       · exact⟨_,rfl,by rw[show (64:Int).toNat=64 from rfl];lia⟩
     let⟨H2,p2,D2,k2⟩:=(D.keep (λu h=>s1 _ _ h)).put (by decide) "word" (.int v);have t7:=KD d far t n m r x v _ H2 f0 hd (λb u e=>k2 b u (aj e hd) (s1 _ _ (s' _ _ e))) D2 F.sv ct cs cr cx ⟨λ_=>ya,λy=>absurd z y⟩;repeat (first | exact t7 | right)
   · have t7:=KD d far t n m r x 77 f' H' f0 hd s' (D.mono (by decide)) F ct cs cr cx ⟨λy=>absurd y z,λ_=>rfl⟩
     repeat (first | exact t7 | right)
 have S9:∀(d:Addr) (far t n m r:Int) (f:zA) (H':Hp),0<=far->H d=none->Zy H H'->Dt H' d f 102->Fa f w' t n m r "ab" (2*nI w' bd) 77->Ct bd t->(w' < 4->Bs w' bd n m)->Cr w' bd r->R5.1 { nx:=λx H'=>Q V.non H',rt:=Q } [some (.int w'),some (.int c),some (.ref l),some (.int far),some (.ref d)] H':=by
   intro d far t n m r f' H' f0 hd s' D F ct cs cr;have sq:Zx K H' l (bd.map V.str):=.of (s' _ _ hl);walk_at "0i";refine dI (λz=>?_) λz=>?_
   · symm
     intro u hu;generalize hh:upd _ u _=H1;let⟨s1,e1⟩:=eQ hu hh;clear hh;have e1:H1 u=some (.lst (nms.map V.str)):=e1;let⟨y,hy,yl,yn⟩:=six (i:=c / 4);let⟨H2,p2,D2,k2⟩:=(D.keep (λu h=>s1 _ _ h)).put (by decide) "name" (.str y);have t6:=Ih d far t n m r y _ H2 f0 hd (λb u e=>k2 b u (aj e hd) (s1 _ _ (s' _ _ e))) D2 F.sx ct cs cr ⟨yl,λ_=>yn,λy=>absurd z y⟩;repeat (first | exact t6 | right)
   · have t6:=Ih d far t n m r "ab" f' H' f0 hd s' (D.mono (by decide)) F ct cs cr ⟨by exfalso,λy=>absurd y z,λ_=>rfl⟩
     repeat (first | exact t6 | right)
 have Ie:∀(d:Addr) (far t n m:Int) (f:zA) (H':Hp),0<=far->H d=none->Zy H H'->Dt H' d f 101->Fa f w' t n m (r42 w') "ab" (2*nI w' bd) 77->Ct bd t->(w' < 4->Bs w' bd n m)->R4.1 { nx:=λx H'=>Q V.non H',rt:=Q } [some (.int w'),some (.int c),some (.ref l),some (.int far),some (.ref d)] H':=by
   intro d far t n m f' H' f0 hd s' D F ct cs;have sq:Zx K H' l (bd.map V.str):=.of (s' _ _ hl);walk_at "0i";refine dI (λz=>?_) λz=>?_
   · symm
     intro u hu;generalize hh:upd _ u _=H1;let⟨s1,e1⟩:=eQ hu hh;clear hh;let⟨y,hy,yc⟩:=two (x:=.int (-1-far)) (y:=.int (4+far)) (i:=c / 3);obtain⟨r,rfl,ya⟩:∃r,y=.int r/\¬OkR r:=by
       unfold OkR;rcases yc with rfl | rfl
       · exact⟨_,rfl,by lia⟩
       · exact⟨_,rfl,by lia⟩
     let⟨H2,p2,D2,k2⟩:=(D.keep (λu h=>s1 _ _ h)).put (by decide) "rights" (.int r);have t5:=S9 d far t n m r _ H2 f0 hd (λb u e=>k2 b u (aj e hd) (s1 _ _ (s' _ _ e))) D2 F.sr ct cs ⟨λ_=>ya,λy=>absurd z y⟩;repeat (first | exact t5 | right)
   · have t5:=S9 d far t n m _ f' H' f0 hd s' (D.mono (by decide)) F ct cs ⟨λy=>absurd y z,λ_=>rfl⟩
     repeat (first | exact t5 | right)
 have tail3:∀(d:Addr) (far n m:Int) (f:zA) (H':Hp),0<=far->H d=none->Zy H H'->Dt H' d f 100->Fa f w' 0 n m (r42 w') "ab" (2*nI w' bd) 77->(w' < 4->Bs w' bd n m)->R3.1 { nx:=λx H'=>Q V.non H',rt:=Q } [some (.int w'),some (.int c),some (.ref l),some (.int far),some (.ref d)] H':=by
   intro d far n m f' H' f0 hd s' D F cs;have sq:Zx K H' l (bd.map V.str):=.of (s' _ _ hl);walk_at "0i";refine dI (λz=>?_) λz=>?_
   · symm
     intro u hu;generalize hh:upd _ u _=H1;let⟨s1,e1⟩:=eQ hu hh;clear hh;let⟨y,hy,yc⟩:=two (x:=.int (-1-far)) (y:=.int (1+far)) (i:=c / 2);obtain⟨t,rfl,ya⟩:∃t,y=.int t/\t≠0:=by
       rcases yc with rfl | rfl
       · exact⟨_,rfl,by lia⟩
       · exact⟨_,rfl,by lia⟩
     let⟨H2,p2,D2,k2⟩:=(D.keep (λu h=>s1 _ _ h)).put (by decide) "task" (.int t);have t4:=Ie d far t n m _ H2 f0 hd (λb u e=>k2 b u (aj e hd) (s1 _ _ (s' _ _ e))) D2 F.st ⟨λ_=>ya,λy=>absurd z y⟩ cs;repeat (first | exact t4 | right)
   · have t4:=Ie d far 0 n m f' H' f0 hd s' (D.mono (by decide)) F ⟨λy=>absurd y z,λ_=>rfl⟩ cs
     repeat (first | exact t4 | right)
 have hr:atI [V.int 3,V.int 3,V.int 1,V.int 0] (w'%4)=some (.int (r42 w')):=by
   unfold r42;have:w'%4=0\/w'%4=1\/w'%4=2\/w'%4=3:=by lia
   rcases this with e | e | e | e<;>rw[e]<;>rfl
 obtain⟨z_,ek,ekv⟩:∃z_:List (Key×V),[(V.str "task",V.int 0),(V.str "rights",V.int (r42 w')),(V.str "name",V.str "ab"),(V.str "word",V.int 77),(V.str "address",V.int (2*nI w' bd))]=z_.map (λkv=>(kV kv.1,kv.2))/\z_=[(.inr "task",.int 0),(.inr "rights",.int (r42 w')),(.inr "name",.str "ab"),(.inr "word",.int 77),(.inr "address",.int (2*nI w' bd))]:=⟨_,rfl,rfl⟩;have kl:z_.length<=15:=by rw[ekv];exact(by decide:5<=15)
 have cm:Mt 2 (nI w' bd):=.inl ⟨by decide,by decide⟩;have z0:0<=c%10^Int.toNat 30:=aco _ (by decide);symm;intro d hd;generalize hh:upd _ d _=H1;let⟨s1,e1⟩:=eQ hd hh;clear hh;symm;intro u hu;generalize hh:upd _ u _=H2;let⟨s2,e2⟩:=eQ hu hh;clear hh;have hl2:=s2 _ _ (s1 _ _ hl);have hd2:=s2 _ _ e1;symm;generalize hh:upd H2 d _=H3;have e3:H3 d=some (.dK [(.inr "task",.int 0),(.inr "rights",.int (r42 w')),(.inr "name",.str "ab"),(.inr "word",.int 77),(.inr "address",.int (2*nI w' bd))]):=by rw[<-hh,ekv];exact ah
 have s3:Zy H H3:=λb o e=>by rw[<-hh,ak (aj e hd)];exact s2 _ _ (s1 _ _ e)
 clear hh;obtain⟨f',D,F⟩:∃f',Dt H3 d f' 5/\Fa (fset (fset f' "first" (.int 0)) "many" (.int 0)) w' 0 0 0 (r42 w') "ab" (2*nI w' bd) 77:=⟨_,⟨_,e3,qe _,λ_=>rfl⟩,⟨rfl,rfl,rfl,rfl,rfl,λ_=>⟨rfl,rfl⟩⟩⟩;have hl':=s3 _ _ hl;refine dI (λz=>?_) λz=>?_
 · have w4:w' < 4:=by lia
   symm;intro n m f2 H2 bs fm D2 k2;have t3:=tail3 d _ n m f2 H2 z0 hd (λb u e=>k2 b u (aj e hd) (s3 _ _ e)) (D2.mono (by decide)) (F.fm ⟨λs h1 h2=>by rw[dW h2,dW h1];exact fm.o s h1 h2,fm.n,fm.m⟩) λ_=>bs;repeat (first | exact t3 | right)
 · have t3:=tail3 d _ 0 0 f' H3 z0 hd s3 (D.mono (by decide)) ⟨(dW (by decide)).symm.trans ((dW (by decide)).symm.trans F.t),(dW (by decide)).symm.trans ((dW (by decide)).symm.trans F.r),(dW (by decide)).symm.trans ((dW (by decide)).symm.trans F.x),(dW (by decide)).symm.trans ((dW (by decide)).symm.trans F.v),(dW (by decide)).symm.trans ((dW (by decide)).symm.trans F.A),λy=>absurd (by lia) z⟩ λy=>absurd (by lia) z
   repeat (first | exact t3 | right)
end
def L7 {K:qv}{l1 l2:Addr}{xs ys:zu}{k n:Nat}{tc:TT}{te:TE}{σ:St}{H1:Hp}{acc:Addr}{QH:Hp->Prop}(hacc:H1 acc=none)(f:V->V->V)(p:V->V->Bool)(h1:H1 l1=some (.lst xs))(h2:H1 l2=some (.lst ys))(hx:xs.length=n)(hy:ys.length=n)(hn:n < sizeLine)
   (hc:∀(i:Nat) (x y:V) (H':Hp),xs[i]?=some x->ys[i]?=some y->∀R:Bool->Hp->Prop,R (p x y) H'->tc (some x::some y::σ) H' R)
   (he:∀(i:Nat) (x y:V) (H':Hp),xs[i]?=some x->ys[i]?=some y->∀R:VK,R (f x y) H'->te (some x::some y::σ) H' R)
   (q:∀H',Zy H1 H'->H' acc=some (.lst (((xs.zip ys).filter λz=>p z.1 z.2).map λz=>f z.1 z.2))->QH H') (hk:k=2:=by rfl) :
   ∃(W:zK) (n':Nat),W 0 [] (upd H1 acc (.lst [])) ∧
     ∀i zs H2,W i zs H2->H2 acc=some (.lst zs)/\zs.length < sizeLine/\((i=n'/\(Itz K l1 l2).stop i H2/\QH H2)\/(i < n'/\(Itz K l1 l2).go i H2/\∀x H3,(Itz K l1 l2).yld i H2 x H3->∀τ:St,τ.length=k->(TF K 2 (Ml (yz 0) (Ml (yz 1) VQ))) x (τ++σ) H3 λτ2 H4 =>
       (∃τ':St,τ'.length=k/\τ2=τ'++σ)/\tc τ2 H4 λb H5=>if b=true then te τ2 H5 λv H6=>H6 acc=some (.lst zs)/\W (i+1) (zs++[v]) (upd H6 acc (.lst (zs++[v]))) else W (i+1) zs H5)):=by
 subst hk;refine⟨λi zs H2=>i<=n/\zs=(((xs.zip ys).take i).filter λz=>p z.1 z.2).map (λz=>f z.1 z.2)/\(∀b o,H1 b=some o->H2 b=some o)/\H2 acc=some (.lst zs),n,⟨qV _,rfl,cT hacc,ah⟩,?_⟩;rintro i zs H2 ⟨hi,hzs,fr,ha⟩;have hl:(xs.zip ys).length=n:=by rw[List.length_zip,hx,hy];lia
 have hl2:zs.length < sizeLine:=by
   rw[hzs,qa];have:=adF (λz:V×V=>p z.1 z.2) ((xs.zip ys).take i);rw[qA,hl] at this;lia
 refine⟨ha,hl2,?_⟩;by_cases hlt:i < n
 · refine .inr ⟨hlt,⟨xs,ys,Zx.of (fr _ _ h1),Zx.of (fr _ _ h2),by lia,by lia⟩,?_⟩
   rintro v H3 ⟨T,rfl,hT,e⟩ τ hτ;have ex:xs[i]?=some (xs[i]'(by lia)):=qi (by lia);have ey:ys[i]?=some (ys[i]'(by lia)):=qi (by lia);rw[e xs ys _ _ (Zx.of (fr _ _ h1)) (Zx.of (fr _ _ h2)) ex ey];generalize xs[i]'(by lia)=x at ex;generalize ys[i]'(by lia)=y at ey;have ez:(xs.zip ys)[i]?=some (x,y):=by rw[QW];exact⟨ex,ey⟩
   let⟨t0,t1,rfl⟩:=ln2 hτ;have S_:∀b o,H1 b=some o->upd H2 T (.tup [x,y]) b=some o:=λb o hb=>by rw[ak (aj (fr _ _ hb) hT)];exact fr _ _ hb
   have ha2:upd H2 T (.tup [x,y]) acc=some (.lst zs):=by rw[ak (aj ha hT)];exact ha
   refine⟨T,_,rfl,SqT.of ah,rfl,_,_,rfl,_,_,rfl,rfl,⟨[some _,some _],rfl,rfl⟩,?_⟩;refine hc i _ _ _ ex ey _ ?_;have tk:((xs.zip ys).take (i+1))=(xs.zip ys).take i++[(x,y)]:=by rw[qQ,ez];rfl
   cases hp:p x y with
   | true =>
     rw[if_pos rfl];refine he i _ _ _ ex ey _ ⟨ha2,hlt,?_,λb o hb=>?_,ah⟩
     · rw[tk,aev,qu,hzs,Q_,if_pos hp];rfl
     · rw[ak (aj hb hacc)];exact S_ _ _ hb
   | false =>
     rw[if_neg (by decide)];refine⟨hlt,?_,S_,ha2⟩;rw[tk,aev,qu,hzs,Q_,if_neg (by rw[hp];decide)];simp
 · have e:i=n:=by lia
   subst e;refine .inl ⟨rfl,⟨xs,ys,Zx.of (fr _ _ h1),Zx.of (fr _ _ h2),.inl (by lia)⟩,q H2 fr ?_⟩;rw[ha,hzs,abM (by lia)]
def Ta:List Str:=["task","stretch","rights","name","unlike","taken","address","word","unmapped","barred","full","share","number","value"]
def isT:V->Bool
 | .bl b=>b
 | _=>false
def Vd (bs:List Bool): List V:=(((Ta.map V.str).zip (bs.map V.bl)).filter λz=>isT z.2).map λz=>z.1
def OO (K:qv)(a:Adr): Sp:=λvs H Q _=>∃(e C:Addr) (b1 b2 b3 b4 b5 b6 b7 b8 b9 b10 b11 b12 b13 b14 b15:Bool),vs=[.ref e]/\(∀H',Zy H H'->TyE K H' (.ref e) (.ref C))/\KtL K (.ref C) (v9 a) [b1,b2,b3,b4,b5,b6,b7,b8,b9,b10,b11,b12,b13,b14,b15] ∧
 ∀l H',H' l=some (.lst (Vd [b1,b2,b3,b4,b5,b6,b7,b8,b9,b10,b11,b12,b13,!b14]))->Zy H H'->Q (.ref l) H'
section
variable [Gn]{a:Adr}{Zz:zu}
abbrev xm (a:Adr): Prop:=ZY P w K mg base 1 "_law_kinds" ["_law_e"] (OO K a) []
def DQ (T:Zq a): xm a:=by
 exists T.FH,["_law_e","_law_some","_law_words"];rintro⟨e,C,b1,b2,b3,b4,b5,b6,b7,b8,b9,b10,b11,b12,b13,b14,b15,rfl,tyH,kt,k⟩;left;refine⟨_,(ae (dM 1 nD (eS (aq (isi (aq (pv 0) (ao (eX (v:=.ref a.fH) (by rfl) T.c8 rfl)))) (aq (isi (aq (pv 0) (ao (eX (v:=.ref a.eI) (by rfl) T.bR rfl)))) (aq (isi (aq (pv 0) (ao (eX (v:=.ref a.eO) (by rfl) T.cA rfl)))) (ao (isi (aq (pv 0) (ao (eX (v:=.ref a.iu) (by rfl) T.c9 rfl))))))))))
     (ae (dM 1 nD (dL EW (pv 1) (eS (aq (isi (aq (pv 0) (ao (eX (v:=.ref a.iM) (by rfl) T.db rfl)))) (aq (isi (aq (pv 0) (ao (eX (v:=.ref a.gA) (by rfl) T.dS rfl)))) (aq (isi (aq (pv 0) (ao (eX (v:=.ref a.d7) (by rfl) T.bQ rfl)))) (ao (isi (aq (pv 0) (ao (eX (v:=.ref a.iL) (by rfl) T.c7 rfl)))))))))))
     (ae (dM 1 nD (dL EW (pv 1) (eS (aq (isi (aq (pv 0) (ao (eX (v:=.ref a.cP) (by rfl) T.cq rfl)))) (aq (isi (aq (pv 0) (ao (eX (v:=.ref a.fK) (by rfl) T.cV rfl)))) (aq (isi (aq (pv 0) (ao (eX (v:=.ref a.jC) (by rfl) T.fj rfl)))) (ao (isi (aq (pv 0) (ao (eX (v:=.ref a.lC) (by rfl) T.cI rfl)))))))))))
     (ae (dM 1 nD (dL EW (pv 1) (eS (aq (isi (aq (pv 0) (ao (eX (v:=.ref a.ki) (by rfl) T.cz rfl)))) (ao (Ip (isi (aq (pv 0) (ao (EF (v:=.ty "ValueError") (by rfl) T.bp PyProof.Rows.Boot.«ValueError» rfl))))))))))
     (ae (dM 2 nD (eS (aq aD (aq aD (aq aD (aq aD (aq aD (aq aD (aq aD (aq aD (aq aD (ao aD))))))))))))
     (ae (dM 2 nD (dL EW (pv 2) (eS (aq aD (aq aD (aq aD (ao aD)))))))
     (af (bq (AJ (xs:=["_law_word","_law_truth"]) (N':=["_law_e","_law_some","_law_words"]) rfl ⟨rfl,by exfalso,by exfalso,by dsimp only [X,lX,Q8];exfalso,by exfalso,by dsimp only [X,lX];exfalso,rfl⟩ (Kd (by rfl) T.fZ (pv 2) (pv 1)) (λ_ _ _ _ _=>(P4 (K:=K) (n:=2) rfl rfl (eV (pH (i:=0) (by dsimp only [X,i_];exfalso) rfl (by first | exact acG rfl | exact aci rfl)) (eV (pH (i:=1) (by dsimp only [X,i_];exfalso) rfl (by first | exact acG rfl | exact aci rfl)) jv)))) (λ_ _ _ _ _=>(PZ (g9 (pv 1)))) (λ_ _ _ _ _=>(pv 0))))))))))),?_⟩
 let⟨h1,h2,h3,h4,h5,h6,h7,h8,h9,h10,h11,h12,h13,h14,h15,_⟩:=kt;have ty0:=tyH H (.refl _);symm;intro l1 hl1;generalize hh:upd _ l1 _=H1;let⟨s1,e1⟩:=eQ hl1 hh;clear hh;have ty1:=tyH H1 s1;symm;intro l2 hl2;generalize hh:upd _ l2 _=H2;let⟨s2,e2⟩:=eQ hl2 hh;clear hh;have e12:=s2 _ _ e1;have ty2:=tyH H2 (s1.trans s2);symm;intro l3 hl3;generalize hh:upd _ l3 _=H3;let⟨s3,e3⟩:=eQ hl3 hh;clear hh;have e3:H3 l3=some (.lst [V.bl b1,V.bl b2,V.bl b3,V.bl b4,V.bl b5,V.bl b6,V.bl b7,V.bl b8]):=e3;have t3:=s1.trans (s2.trans s3);have ty3:=tyH H3 t3;symm;intro l4 hl4;generalize hh:upd _ l4 _=H4;let⟨s4,e4⟩:=eQ hl4 hh;clear hh;have e34:=s4 _ _ e3;have ty4:=tyH H4 (t3.trans s4);symm;intro l5 hl5;generalize hh:upd _ l5 _=H5;let⟨s5,e5⟩:=eQ hl5 hh;clear hh;have e5:H5 l5=some (.lst [V.bl b1,V.bl b2,V.bl b3,V.bl b4,V.bl b5,V.bl b6,V.bl b7,V.bl b8,V.bl b9,V.bl b10,V.bl b11,V.bl b12]):=e5;have t5:=t3.trans (s4.trans s5);have ty5:=tyH H5 t5;symm;intro l6 hl6;generalize hh:upd _ l6 _=H6;let⟨s6,e6⟩:=eQ hl6 hh;clear hh;have e56:=s6 _ _ e5;have ty6:=tyH H6 (t5.trans s6);symm;intro l7 hl7;generalize hh:upd _ l7 _=H7;let⟨s7,e7⟩:=eQ hl7 hh;clear hh;have e7:H7 l7=some (.lst ([b1,b2,b3,b4,b5,b6,b7,b8,b9,b10,b11,b12,b13,!b14].map V.bl)):=e7;have t7:=t5.trans (s6.trans s7);symm;intro l8 hl8;generalize hh:upd _ l8 _=H8;let⟨s8,e8⟩:=eQ hl8 hh;clear hh;symm;intro l9 hl9;generalize hh:upd _ l9 _=H9;let⟨s9,e9⟩:=eQ hl9 hh;clear hh;have e89:=s9 _ _ e8;symm;intro l10 YH;generalize hh:upd _ l10 _=H10;let⟨s10,e10⟩:=eQ YH hh;clear hh;have e10:H10 l10=some (.lst (Ta.map V.str)):=e10;have YJ:=s10 _ _ (s9 _ _ (s8 _ _ e7));have t10:=t7.trans (s8.trans (s9.trans s10));symm;intro q5 hq5;refine L7 hq5 (λx _=>x) (λ_ y=>isT y) e10 YJ rfl rfl (by exfalso) (λj x y H' hx hy R r=>?_) (λj x y H' hx hy R r=>?_) (λH11 s11 h11=>?_)
 · rw[qx] at hy
   let⟨b,_,rfl⟩:=qP.mp hy;symm;exact r
 · symm
   exact r
 · symm
   exact k q5 H11 h11 (t10.trans s11)
end
def L8 (w:Int): Str:=if w=1 then "unmap" else if w=2 then "rights" else if w=4 then "read" else "write"
inductive ui (a:Adr)(H:Hp)(w A:Int): Str->Addr->Option Addr->Prop where
 | task:ui a H w A "task" a.fH none
 | str:ui a H w A "stretch" a.eI none
 | rig:ui a H w A "rights" a.eO none
 | nam:ui a H w A "name" a.iu none
 | unl:ui a H w A "unlike" a.iM none
 | adr:ui a H w A "address" a.d7 none
 | wor:ui a H w A "word" a.iL none
 | ful:ui a H w A "full" a.jC none
 | tak {d:Addr}:H d=some (xdW d [("page",.int (if w=0 then 3 else 8))])->ui a H w A "taken" a.gA (some d)
 | unm {d:Addr}:H d=some (xdW d (mG (.int 0) (.int 14) (.str (L8 w))))->ui a H w A "unmapped" a.cP (some d)
 | bar {d:Addr}:H d=some (xdW d (mG (.int 0) (.int A) (.str (if w=4 then "read" else "write"))))->ui a H w A "barred" a.fK (some d)
def Ii (w mm c:Int): Ms:=if w=0 then X42 [0] 1 2 mm c (M42.put 7 (some (.fresh 3))) else if w=1 then X42 [0] 1 2 mm c (M42.put 4 none) else if w=3 then X42 [0] 1 4 mm c N42 else if w=6 then X42 [0,1] 2 4 mm c M42 else D42 mm c
def Fst (bd:zq)(y:Str): Prop:=∃r,bd=y::r
section
variable {bd L:zq}{y s:Str}{p q:Prop}{w n m t r A v:Int}{x:Str}
def iX (h:bd.Sublist (y::L))(n:y∉L)(i:y∈bd): Fst bd y:=by
 cases h with
 | cons _ h=>exact absurd (h.subset i) n
 | cons_cons _ h=>exact⟨_,rfl⟩
def gu (h:bd.Sublist (y::L))(n:y∉bd): bd.Sublist L:=by
 cases h with
 | cons _ h=>exact h
 | cons_cons _ h=>exact absurd qG n
def vC (h:bd.Sublist L)(n:y∉L): y∉bd:=λz=>n (h.subset z)
def Wd.i (h:Wd bd s p q)(n:¬q): s∈bd:=qW λz=>n (h.2 z)
def Wd.o (h:Wd bd s p q)(n:¬p): s∉bd:=λz=>n (h.1 z)
def Bs.o (h:Bs w bd n m)(st:fO [2,2] n m): ("stretch" : Str)∉bd:=λz=>by
 unfold Bs at h;rw[if_pos z] at h;exact h st
def Bs.u (h:Bs w bd n m) (st:("stretch" : Str)∉bd):Bu w bd n m:=by
 unfold Bs at h;rw[if_neg st] at h;exact h
def Bt.nm (h:Bt w bd n m): 0<=n/\n<=10/\1<=m/\m<=2:=by
 unfold Bt bn bm tn at h
 repeat' split at h
 all_goals lia
def Bs.i (h:Bs w bd n m)(ns:¬fO [2,2] n m): ("stretch" : Str)∈bd:=qW λz=>ns (by
 have u:=h.u z;unfold Bu at u;unfold fO;rw[p16];split at u
 · let⟨⟨m',b⟩,hm⟩:=u
   have:=b.nm;lia
 · have:=u.nm
   lia)
def Bs.bt (h:Bs w bd n m) (st:("stretch" : Str)∉bd) (ul:("unlike" : Str)∉bd):Bt w bd n m:=by
 have u:=h.u st;unfold Bu at u;rw[if_neg ul] at u;exact u
def Ve:OkR (r42 w):=by unfold OkR r42;(repeat' split)<;>decide
def Cr.i (h:Cr w bd r)(n:¬OkR r): ("rights" : Str)∈bd:=Wd.i h λz=>n (by rw[z];exact Ve)
def Cr.o (h:Cr w bd r)(n:OkR r): ("rights" : Str)∉bd:=Wd.o h λz=>z n
def Ct.i (h:Ct bd t)(n:t≠0): ("task" : Str)∈bd:=Wd.i h n
def Ct.o (h:Ct bd t)(n:t=0): ("task" : Str)∉bd:=Wd.o h λz=>z n
def Xe:gS "ab" := by unfold gS;exfalso
def Cx.i (h:Cx bd x)(n:¬gS x): ("name" : Str)∈bd:=Wd.i h.2 λz=>n (by rw[z];exact Xe)
def Cx.o (h:Cx bd x)(n:gS x): ("name" : Str)∉bd:=Wd.o h.2 λz=>z n
def Cv.i (h:Cv bd v)(n:¬(0<=v/\v < 2^64)): ("word" : Str)∈bd:=Wd.i h λz=>n (by rw[z];decide)
def Cv.o (h:Cv bd v)(n:0<=v/\v < 2^64): ("word" : Str)∉bd:=Wd.o h λz=>z n
def OQ:(("unmapped" : Str)∈bd/\nI w bd=7)\/(("unmapped" : Str)∉bd/\("barred" : Str)∈bd/\nI w bd=10-w)\/(("unmapped" : Str)∉bd/\("barred" : Str)∉bd/\("full" : Str)∈bd/\w=5/\nI w bd=4)\/(("unmapped" : Str)∉bd/\("barred" : Str)∉bd/\(("full" : Str)∉bd\/w≠5)/\nI w bd=3):=by
 unfold nI;by_cases c:("unmapped" : Str)∈bd
 · exact .inl ⟨c,if_pos c⟩
 rw[if_neg c];by_cases c1:("barred" : Str)∈bd
 · exact .inr (.inl ⟨c,c1,if_pos c1⟩)
 rw[if_neg c1];by_cases c2:("full" : Str)∈bd/\w=5
 · exact .inr (.inr (.inl ⟨c,c1,c2.1,c2.2,if_pos c2⟩))
 · exact .inr (.inr (.inr ⟨c,c1,(Decidable.not_and_iff_or_not.mp c2),if_neg c2⟩))
def Gg (h:0<=A/\A < 32): InA [2,2] 1 A:=by
 have e:pgs [2,2]*plc 1=32:=by exfalso
 unfold InA;rw[e];exact h
def CA.i (h:CA w bd A)(w4:4<=w)(w5:w<=5)(n:¬InA [2,2] 1 A): ("address" : Str)∈bd:=Wd.i h λz=>n (Gg (by
 rcases OQ (w:=w) (bd:=bd) with h | h | h | h<;>lia))
def CA.o (h:CA w bd A)(n:InA [2,2] 1 A): ("address" : Str)∉bd:=Wd.o h λz=>z n
end
def OS (a:Adr): Sp:=λvs H Q E=>∃O k p mm c w d bd t n m r x A v,vs=[.ref p,.int w,.ref d]/\Mz a O H k p (D42 mm c)/\(0<=w/\w < 8)/\Ag H d w t n m r x A v/\Ar w bd t n m r x A v/\bd.Sublist (i4 w)/\(w=7->bd≠[]) ∧
 (bd=[]->∀c' O' H',Mz a O' H' k p (Ii w mm c')->Go (MP k) O H O' H'->Q .non H')/\(∀y,Fst bd y->∀C dct H',ui a H' w A y C dct->Zy H H'->E (.ref C) dct H')
seal Ce rA Ez EA OI L5 Cb Ex
section
variable [Gn]{a:Adr}{Zz:zu}
abbrev uK (a:Adr): Prop:=ZY P w K mg base 12 "_law_called" ["_law_memory","_law_way","_law_a"] (OS a) []
def Cp (T:Zq a)(iA:nV a)(i3:oK a)(iU:mr a)(ju:oM a)(kJ:tP a)(jQ:rL a)(tS:yS a)(lL:vp a): uK a:=by
 exists T.Df,["_law_memory","_law_way","_law_a"];rintro⟨O,k',p,mm,c,w',d,bd,t,n,m,r,x,A,v,rfl,M,hw,ag,ar,sb,b7,k1,k2⟩;left;refine⟨_,(af (cG (ct gM (pv 1) ai) (af (aF (pf iA (aq (pv 0) (aq (fF hr.u1 (pv 2) aD (λ_ _=>rfl)) (aq (fF hr.u1 (pv 2) aD (λ_ _=>rfl)) (aq (fF hr.u1 (pv 2) aD (λ_ _=>rfl)) (ao (fF hr.u1 (pv 2) aD (λ_ _=>rfl)))))))))) (af (cG (ct gM (pv 1) ai) (af (aF (pf i3 (aq (pv 0) (aq (fF hr.u1 (pv 2) aD (λ_ _=>rfl)) (aq (fF hr.u1 (pv 2) aD (λ_ _=>rfl)) (ao (fF hr.u1 (pv 2) aD (λ_ _=>rfl))))))))) (af (cG (ct gM (pv 1) ai) (af (aF (pf iU (aq (pv 0) (aq (fF hr.u1 (pv 2) aD (λ_ _=>rfl)) (aq (fF hr.u1 (pv 2) aD (λ_ _=>rfl)) (aq (fF hr.u1 (pv 2) aD (λ_ _=>rfl)) (ao (fF hr.u1 (pv 2) aD (λ_ _=>rfl)))))))))) (af (cG (ct gM (pv 1) ai) (af (aF (pf ju (aq (pv 0) (aq (fF hr.u1 (pv 2) aD (λ_ _=>rfl)) (aq (fF hr.u1 (pv 2) aD (λ_ _=>rfl)) (aq (fF hr.u1 (pv 2) aD (λ_ _=>rfl)) (aq (fF hr.u1 (pv 2) aD (λ_ _=>rfl)) (ao (fF hr.u1 (pv 2) aD (λ_ _=>rfl))))))))))) (af (cG (ct gM (pv 1) ai) (af (aF (pf kJ (aq (pv 0) (aq (fF hr.u1 (pv 2) aD (λ_ _=>rfl)) (ao (fF hr.u1 (pv 2) aD (λ_ _=>rfl)))))))) (af (cG (ct gM (pv 1) ai) (af (aF (pf jQ (aq (pv 0) (aq (fF hr.u1 (pv 2) aD (λ_ _=>rfl)) (aq (fF hr.u1 (pv 2) aD (λ_ _=>rfl)) (ao (fF hr.u1 (pv 2) aD (λ_ _=>rfl))))))))) (af (cG (ct gM (pv 1) ai) (af (aF (pf tS (aq (pv 0) (ao (fF hr.u1 (pv 2) aD (λ_ _=>rfl))))))) (af (aF (pf lL (aq (pv 0) (ao (fF hr.u1 (pv 2) aD (λ_ _=>rfl))))))))))))))))))))),?_⟩;let⟨fd,kd,D,F⟩:=ag;have g1:=D.get F.t;have g2:=D.get F.r;have g3:=D.get F.x;have g4:=D.get F.v;have g5:=D.get F.A;have hd:=λz=>D.get (F.s z).1;have hm:=λz=>D.get (F.s z).2;have kk:∀y,Fst bd y->∀C H',ui a H' w' A y C none->Zy H H'->E (.ref C) none H':=λy f C H' xo s=>k2 y f C none H' xo s;symm;refine d6 (λw0=>?_) λw0=>?_
 · subst w0
   have g6:=hd (by decide);have g7:=hm (by decide);have S0:bd.Sublist ["task","stretch","rights","taken"]:=sb;have bs:=ar.s (by decide);have S1:=λe=>gu S0 (ar.t.o e);have S2:=λe st=>gu (S1 e) (bs.o st);have S3:=λe st ok=>gu (S2 e st) (ar.r.o ok);have ul:("unlike" : Str)∉bd:=vC S0 (by decide);have um:("unmapped" : Str)∉bd:=vC S0 (by decide);have bt:=λst=>bs.bt (bs.o st) ul;unfold Bt at bt;rw[if_neg um] at bt;symm;refine WX M (λe st ok=>?_) (λe=>kk _ (iX S0 (by decide) (ar.t.i e)) _ H .task (.refl _)) (λe ns=>kk _ (iX (S1 e) (by decide) (bs.i ns)) _ H .str (.refl _)) (λe st nr H' s=>kk _ (iX (S2 e st) (by decide) (ar.r.i nr)) _ H' .rig s) (λe ok n2 m2 d' H' hd' s=>?_) λe n7 m1 r3 O' H' M' g=>?_
   · by_cases tk:("taken" : Str)∈bd
     · have:=bt st;rw[if_pos tk] at this;exact .inl this
     · have:=bt st;rw[if_neg tk] at this;exact .inr ⟨this.1,this.2,ar.r.2 (ar.r.o ok)⟩
   · have st:fO [2,2] n m:=by rw[n2,m2];unfold fO;exfalso
     have tk:("taken" : Str)∈bd:=qW λz=>by have h:=bt st;rw[if_neg z,n2] at h;exact absurd h.1 (by decide)
     exact k2 _ (iX (S3 e st ok) (by decide) tk) _ _ H' (.tak hd') s
   · have st:fO [2,2] n m:=by rw[n7,m1];unfold fO;exfalso
     have tk:("taken" : Str)∉bd:=λz=>by have h:=bt st;rw[if_pos z,n7] at h;exact absurd h.1 (by decide)
     have S4:=gu (S3 e st (by rw[r3];decide)) tk;symm;exact k1 (QI.mp S4) c O' H' M' g
 symm;refine d6 (λw1=>?_) λw1=>?_
 · subst w1
   have g6:=hd (by decide);have g7:=hm (by decide);have S0:bd.Sublist ["task","stretch","unmapped"]:=sb;have bs:=ar.s (by decide);have S1:=λe=>gu S0 (ar.t.o e);have S2:=λe st=>gu (S1 e) (bs.o st);have ul:("unlike" : Str)∉bd:=vC S0 (by decide);have tk:("taken" : Str)∉bd:=vC S0 (by decide);have bt:=λst=>bs.bt (bs.o st) ul;unfold Bt at bt;rw[if_neg tk] at bt;symm;refine Si M (λe st=>?_) (λe=>kk _ (iX S0 (by decide) (ar.t.i e)) _ H .task (.refl _)) (λe ns=>kk _ (iX (S1 e) (by decide) (bs.i ns)) _ H .str (.refl _)) (λe n2 m2 d' H' hd' s=>?_) λe n7 m1 H' M' g=>?_
   · have h:=bt st
     split at h
     · exact .inl h
     · exact .inr h
   · have st:fO [2,2] n m:=by rw[n2,m2];unfold fO;exfalso
     have um:("unmapped" : Str)∈bd:=qW λz=>by have h:=bt st;rw[if_neg z,n2] at h;exact absurd h.1 (by decide)
     exact k2 _ (iX (S2 e st) (by decide) um) _ _ H' (.unm hd') s
   · have st:fO [2,2] n m:=by rw[n7,m1];unfold fO;exfalso
     have um:("unmapped" : Str)∉bd:=λz=>by have h:=bt st;rw[if_pos z,n7] at h;exact absurd h.1 (by decide)
     symm;exact k1 (QI.mp (gu (S2 e st) um)) c O H' M' g
 symm;refine d6 (λw2=>?_) λw2=>?_
 · subst w2
   have g6:=hd (by decide);have g7:=hm (by decide);have S0:bd.Sublist ["task","stretch","rights","unmapped"]:=sb;have bs:=ar.s (by decide);have S1:=λe=>gu S0 (ar.t.o e);have S2:=λe st=>gu (S1 e) (bs.o st);have S3:=λe st ok=>gu (S2 e st) (ar.r.o ok);have ul:("unlike" : Str)∉bd:=vC S0 (by decide);have tk:("taken" : Str)∉bd:=vC S0 (by decide);have bt:=λst=>bs.bt (bs.o st) ul;unfold Bt at bt;rw[if_neg tk] at bt;symm;refine WY M (λe st ok=>?_) (λe=>kk _ (iX S0 (by decide) (ar.t.i e)) _ H .task (.refl _)) (λe ns=>kk _ (iX (S1 e) (by decide) (bs.i ns)) _ H .str (.refl _)) (λe st nr H' s=>kk _ (iX (S2 e st) (by decide) (ar.r.i nr)) _ H' .rig s) (λe ok n2 m2 d' H' hd' s=>?_) λe st ok nu O' H' M' g=>?_
   · have h:=bt st
     split at h
     · exact .inl h
     · exact .inr ⟨h.1,h.2,ar.r.2 (ar.r.o ok)⟩
   · have st:fO [2,2] n m:=by rw[n2,m2];unfold fO;exfalso
     have um:("unmapped" : Str)∈bd:=qW λz=>by have h:=bt st;rw[if_neg z,n2] at h;exact absurd h.1 (by decide)
     exact k2 _ (iX (S3 e st ok) (by decide) um) _ _ H' (.unm hd') s
   · have um:("unmapped" : Str)∉bd:=λz=>by have h:=bt st;rw[if_pos z] at h;exact nu h
     symm;exact k1 (QI.mp (gu (S3 e st ok) um)) c O' H' M' g
 symm;refine d6 (λw3=>?_) λw3=>?_
 · subst w3
   have g6:=hd (by decide);have g7:=hm (by decide);have S0:bd.Sublist ["task","stretch","rights","name","unlike","taken"]:=sb;have bs:=ar.s (by decide);have S1:=λe=>gu S0 (ar.t.o e);have S2:=λe st=>gu (S1 e) (bs.o st);have S3:=λe st ok=>gu (S2 e st) (ar.r.o ok);have S4:=λe st ok nm=>gu (S3 e st ok) (ar.x.o nm);have um:("unmapped" : Str)∉bd:=vC S0 (by decide);have uu:=λst=>bs.u (bs.o st);unfold Bu Bt at uu;simp only [if_neg um] at uu;have ulo:fO [2,2] n m->m=2->("unlike" : Str)∉bd:=λst m2 z=>by have h:=uu st;rw[if_pos z,m2] at h;exact absurd h.2 (by decide)
   have uli:fO [2,2] n m->m≠2->("unlike" : Str)∈bd:=λst m2=>qW λz=>m2 (by
     have h:=uu st;rw[if_neg z] at h;split at h
     · exact h.2
     · exact h.2)
   symm;refine WZ M ar.x.1 (λe st ok nm=>⟨ar.x.2.2 (ar.x.o nm),λm2=>?_⟩) (λe=>kk _ (iX S0 (by decide) (ar.t.i e)) _ H .task (.refl _)) (λe ns=>kk _ (iX (S1 e) (by decide) (bs.i ns)) _ H .str (.refl _)) (λe st nr H' s=>kk _ (iX (S2 e st) (by decide) (ar.r.i nr)) _ H' .rig s)
     (λe st ok nn H' s=>kk _ (iX (S3 e st ok) (by decide) (ar.x.i nn)) _ H' .nam s) (λe st ok nm m2 H' s=>kk _ (iX (S4 e st ok nm) (by decide) (uli st m2)) _ H' .unl s) (λe ok nm n2 m2 d' H' hd' s=>?_) λe n2 m2 ok nm O' H' M' g=>?_
   · have h:=uu st
     rw[if_neg (ulo st m2)] at h;split at h
     · exact .inl h.1
     · exact .inr ⟨h.1,ar.r.2 (ar.r.o ok)⟩
   · have st:fO [2,2] n m:=by rw[n2,m2];unfold fO;exfalso
     have tk:("taken" : Str)∈bd:=qW λz=>by have h:=uu st;rw[if_neg (ulo st m2),if_neg z,n2] at h;exact absurd h.1 (by decide)
     exact k2 _ (iX (gu (S4 e st ok nm) (ulo st m2)) (by decide) tk) _ _ H' (.tak hd') s
   · have st:fO [2,2] n m:=by rw[n2,m2];unfold fO;exfalso
     have tk:("taken" : Str)∉bd:=λz=>by have h:=uu st;rw[if_neg (ulo st m2),if_pos z,n2] at h;exact absurd h.1 (by decide)
     symm;exact k1 (QI.mp (gu (gu (S4 e st ok nm) (ulo st m2)) tk)) c O' H' M' g
 symm;refine d6 (λw4=>?_) λw4=>?_
 · subst w4
   have S0:bd.Sublist ["task","address","unmapped","barred"]:=sb;have S1:=λe=>gu S0 (ar.t.o e);have S2:=λe ia=>gu (S1 e) (ar.A.o ia);have eA:=λia=>ar.A.2 (ar.A.o ia);have i6:InA [2,2] 1 6:=Gg (by decide);have i12:InA [2,2] 1 12:=Gg (by decide);have i14:InA [2,2] 1 14:=Gg (by decide);have pg:=OQ (w:=4) (bd:=bd);symm;refine OM M (λe ia=>?_) (λe=>kk _ (iX S0 (by decide) (ar.t.i e)) _ H .task (.refl _)) (λe ns=>kk _ (iX (S1 e) (by decide) (ar.A.i (by decide) (by decide) ns)) _ H .adr (.refl _)) (λe a14 d' H' hd' s=>?_) (λe a12 d' H' hd' s=>?_) λe a6 w1 H' M' g=>?_
   · have:=eA ia
     rcases pg with h | h | h | h<;>lia
   · have ia:InA [2,2] 1 A:=by rw[a14];exact i14
     have:=eA ia;exact k2 _ (iX (S2 e ia) (by decide) (by rcases pg with h | h | h | h;exact h.1;all_goals lia)) _ _ H' (.unm hd') s
   · have ia:InA [2,2] 1 A:=by rw[a12];exact i12
     have:=eA ia;have ub:("unmapped" : Str)∉bd/\("barred" : Str)∈bd:=by
       rcases pg with h | h | h | h
       · lia
       · exact⟨h.1,h.2.1⟩
       all_goals lia
     exact k2 _ (iX (gu (S2 e ia) ub.1) (by decide) ub.2) _ _ H' (.bar (by rw[a12];exact hd')) s
   · have ia:InA [2,2] 1 A:=by rw[a6];exact i6
     have:=eA ia;have ub:("unmapped" : Str)∉bd/\("barred" : Str)∉bd:=by
       rcases pg with h | h | h | h
       · lia
       · lia
       · lia
       · exact⟨h.1,h.2.1⟩
     symm;exact k1 (QI.mp (gu (gu (S2 e ia) ub.1) ub.2)) w1 O H' M' g
 symm;refine d6 (λw5=>?_) λw5=>?_
 · subst w5
   have S0:bd.Sublist ["task","address","word","unmapped","barred","full"]:=sb;have S1:=λe=>gu S0 (ar.t.o e);have S2:=λe ia=>gu (S1 e) (ar.A.o ia);have S3:=λe ia wv=>gu (S2 e ia) (ar.v.o wv);have eA:=λia=>ar.A.2 (ar.A.o ia);have i6:InA [2,2] 1 6:=Gg (by decide);have i8:InA [2,2] 1 8:=Gg (by decide);have i10:InA [2,2] 1 10:=Gg (by decide);have i14:InA [2,2] 1 14:=Gg (by decide);have pg:=OQ (w:=5) (bd:=bd);symm;refine Sj M (λe ia=>?_) (λe=>kk _ (iX S0 (by decide) (ar.t.i e)) _ H .task (.refl _)) (λe ns=>kk _ (iX (S1 e) (by decide) (ar.A.i (by decide) (by decide) ns)) _ H .adr (.refl _)) (λe ia nw H' s=>kk _ (iX (S2 e ia) (by decide) (ar.v.i nw)) _ H' .wor s) (λe wv a14 d' H' hd' s=>?_) (λe wv a10 d' H' hd' s=>?_) (λe wv a8 H' s=>?_) λe wv a6 w1 O' H' M' g=>?_
   · have:=eA ia
     have vv:(0<=v/\v < 2^64->v=77):=λwv=>ar.v.2 (ar.v.o wv);rcases pg with h | h | h | h
     · exact .inr (.inr (.inr (by lia)))
     · exact .inr (.inr (.inl (by lia)))
     · exact .inr (.inl (by lia))
     · exact .inl ⟨by lia,vv⟩
   · have ia:InA [2,2] 1 A:=by rw[a14];exact i14
     have:=eA ia;exact k2 _ (iX (S3 e ia wv) (by decide) (by rcases pg with h | h | h | h;exact h.1;all_goals lia)) _ _ H' (.unm hd') s
   · have ia:InA [2,2] 1 A:=by rw[a10];exact i10
     have:=eA ia;have ub:("unmapped" : Str)∉bd/\("barred" : Str)∈bd:=by
       rcases pg with h | h | h | h
       · lia
       · exact⟨h.1,h.2.1⟩
       all_goals lia
     exact k2 _ (iX (gu (S3 e ia wv) ub.1) (by decide) ub.2) _ _ H' (.bar (by rw[a10];exact hd')) s
   · have ia:InA [2,2] 1 A:=by rw[a8];exact i8
     have:=eA ia;have ub:("unmapped" : Str)∉bd/\("barred" : Str)∉bd/\("full" : Str)∈bd:=by
       rcases pg with h | h | h | h
       · lia
       · lia
       · exact⟨h.1,h.2.1,h.2.2.1⟩
       · lia
     exact kk _ (iX (gu (gu (S3 e ia wv) ub.1) ub.2.1) (by decide) ub.2.2) _ H' .ful s
   · have ia:InA [2,2] 1 A:=by rw[a6];exact i6
     have:=eA ia;have ub:("unmapped" : Str)∉bd/\("barred" : Str)∉bd/\("full" : Str)∉bd:=by
       rcases pg with h | h | h | h
       · lia
       · lia
       · lia
       · exact⟨h.1,h.2.1,h.2.2.1.elim id λz=>absurd rfl z⟩
     symm;exact k1 (QI.mp (gu (gu (gu (S3 e ia wv) ub.1) ub.2.1) ub.2.2)) w1 O' H' M' g
 symm;refine d6 (λw6=>?_) λw6=>?_
 · subst w6
   have S0:bd.Sublist ["task"]:=sb;symm;refine Vb M (λe=>kk _ (iX S0 (by decide) (ar.t.i e)) _ H .task (.refl _)) λe O' H' M' g=>?_;symm;exact k1 (QI.mp (gu S0 (ar.t.o e))) c O' H' M' g
 · obtain rfl:w'=7:=by lia
   have S0:bd.Sublist ["task"]:=sb;have t0:t≠0:=λe=>b7 rfl (QI.mp (gu S0 (ar.t.o e)));symm;exact YB M t0 (kk _ (iX S0 (by decide) (ar.t.i t0)) _ H .task (.refl _))
end
end K42
namespace K42
open PySem L2 Gm Gn
def kD:Key->PyData
 | .inl i=>.int i
 | .inr s=>.str s
def Res (H:Hp)(q:Addr)(y:Str)(ks:zT): Prop:=∃l f,H q=some (.tup [.ref l,.ref f])/\H l=some (.lst [.str y])/\H f=some (.tup (ks.map kV))
def xq (w A:Int)(y:Str): List Key:=if y = "taken" then [.inl (if w=0 then 3 else 8)] else if y = "unmapped" then [.inl 0,.inl 14,.inr (L8 w)] else if y = "barred" then [.inl 0,.inl A,.inr (if w=4 then "read" else "write")] else []
def xt {w A:Int} {y:Str} (h1:y ≠ "taken") (h2:y ≠ "unmapped") (h3:y ≠ "barred"):xq w A y=[]:=by unfold xq;rw[if_neg h1,if_neg h2,if_neg h3]
def OT {w A:Int}: xq w A "taken" = [.inl (if w=0 then 3 else 8)]:=if_pos rfl
def OU {w A:Int}: xq w A "unmapped" = [.inl 0,.inl 14,.inr (L8 w)]:=(if_neg (by decide)).trans (if_pos rfl)
def OV {w A:Int}: xq w A "barred" = [.inl 0,.inl A,.inr (if w=4 then "read" else "write")]:=(if_neg (by decide)).trans ((if_neg (by decide)).trans (if_pos rfl))
def ui.kf [Gm]{a:Adr}{H:Hp}{w' A:Int}{y:Str}{C:Addr}{dct:zo}(T:Zq a)(xo:ui a H w' A y C dct): ∃b1 b2 b3 b4 b5 b6 b7 b8 b9 b10 b11 b12 b13 b14 b15:Bool,KtL K (.ref C) (v9 a) [b1,b2,b3,b4,b5,b6,b7,b8,b9,b10,b11,b12,b13,b14,b15]/\Vd [b1,b2,b3,b4,b5,b6,b7,b8,b9,b10,b11,b12,b13,!b14]=[.str y]/\QT K C (.ref a.fG)=some true/\XIs K C ∧
   ((b6=false/\b15=false/\xq w' A y=[]/\dct=none)\/(b6=true/\b15=false/\∃d n,dct=some d/\C=a.gA/\xq w' A y=[.inl n]/\H d=some (xdW d [("page",.int n)]))\/(b6=false/\b15=true/\∃d t n s,dct=some d/\(C=a.cP\/C=a.fK)/\xq w' A y=[.inl t,.inl n,.inr s]/\H d=some (xdW d (mG (.int t) (.int n) (.str s))))):=by
 cases xo with
 | task=>exact ex9 (ex6 ⟨T.LA,rfl,T.NZ,T.NS,.inl ⟨rfl,rfl,xt (by decide) (by decide) (by decide),rfl⟩⟩)
 | str=>exact ex9 (ex6 ⟨T.E9,rfl,T.G_,T.G7,.inl ⟨rfl,rfl,xt (by decide) (by decide) (by decide),rfl⟩⟩)
 | rig=>exact ex9 (ex6 ⟨T.G8,rfl,T.Je,T.Jd,.inl ⟨rfl,rfl,xt (by decide) (by decide) (by decide),rfl⟩⟩)
 | nam=>exact ex9 (ex6 ⟨T.LC,rfl,T.N0,T.NU,.inl ⟨rfl,rfl,xt (by decide) (by decide) (by decide),rfl⟩⟩)
 | unl=>exact ex9 (ex6 ⟨T.LD,rfl,T.N4,T.NV,.inl ⟨rfl,rfl,xt (by decide) (by decide) (by decide),rfl⟩⟩)
 | adr=>exact ex9 (ex6 ⟨T.E_,rfl,T.Hc,T.G6,.inl ⟨rfl,rfl,xt (by decide) (by decide) (by decide),rfl⟩⟩)
 | wor=>exact ex9 (ex6 ⟨T.LI,rfl,T.N5,T.NT,.inl ⟨rfl,rfl,xt (by decide) (by decide) (by decide),rfl⟩⟩)
 | ful=>exact ex9 (ex6 ⟨T.Rh,rfl,T.UC,T.UA,.inl ⟨rfl,rfl,xt (by decide) (by decide) (by decide),rfl⟩⟩)
 | tak h=>exact ex9 (ex6 ⟨T.NY,rfl,T.Ri,T.Rf,.inr (.inl ⟨rfl,rfl,_,_,rfl,rfl,OT,h⟩)⟩)
 | unm h=>exact ex9 (ex6 ⟨T.G9,rfl,T.Jf,T.Jc,.inr (.inr ⟨rfl,rfl,_,_,_,_,rfl,.inl rfl,OU,h⟩)⟩)
 | bar h=>exact ex9 (ex6 ⟨T.LJ,rfl,T.N6,T.NR,.inr (.inr ⟨rfl,rfl,_,_,_,_,rfl,.inr rfl,OV,h⟩)⟩)
def OW (a:Adr): Sp:=λvs H Q _=>∃O k p mm c w d bd t n m r x A v,vs=[.ref p,.int w,.ref d]/\Mz a O H k p (D42 mm c)/\(0<=w/\w < 8)/\Ag H d w t n m r x A v/\Ar w bd t n m r x A v/\bd.Sublist (i4 w)/\(w=7->bd≠[]) ∧
 (bd=[]->∀c' O' H' q,Mz a O' H' k p (Ii w mm c')->Go (MP k) O H O' H'->Res H' q "done" []->Q (.ref q) H')/\(∀y,Fst bd y->∀H' q,Zy H H'->Res H' q y (xq w A y)->Q (.ref q) H')
def Mz.same {a:Adr}{O:Lab}{H H':Hp}{k:Nat}{p:Addr}{σ:Ms}(M:Mz a O H k p σ)(s:Zy H H'): Mz a O H' k p σ:=by let⟨x,z_,M⟩:=M;exact ⟨x,z_,M.same s⟩
section
variable {K:qv}{a:Adr}{H:Hp}{O:Lab}{k:Nat}{p d e C:Addr}{mm c w t n m r A v:Int}{x:Str}{bd:zq}{Q:VK}{E:XK}{b1 b2 b3 b4 b5 b6 b7 b8 b9 b10 b11 b12 b13 b14 b15:Bool}
def Vf (M:Mz a O H k p (D42 mm c))(hw:0<=w/\w < 8)(ag:Ag H d w t n m r x A v)(ar:Ar w bd t n m r x A v)(sb:bd.Sublist (i4 w))(b7:w=7->bd≠[])(k1:bd=[]->∀c' O' H',Mz a O' H' k p (Ii w mm c')->Go (MP k) O H O' H'->Q .non H')(k2:∀y,Fst bd y->∀C dct H',ui a H' w A y C dct->Zy H H'->E (.ref C) dct H'): OS a [.ref p,.int w,.ref d] H Q E:=⟨O,k,p,mm,c,w,d,bd,t,n,m,r,x,A,v,rfl,M,hw,ag,ar,sb,b7,k1,k2⟩
def Jz (ty:∀H',Zy H H'->TyE K H' (.ref e) (.ref C))(kt:KtL K (.ref C) (v9 a) [b1,b2,b3,b4,b5,b6,b7,b8,b9,b10,b11,b12,b13,b14,b15])(q:∀l H',H' l=some (.lst (Vd [b1,b2,b3,b4,b5,b6,b7,b8,b9,b10,b11,b12,b13,!b14]))->Zy H H'->Q (.ref l) H'): OO K a [.ref e] H Q E:=⟨e,C,b1,b2,b3,b4,b5,b6,b7,b8,b9,b10,b11,b12,b13,b14,b15,rfl,ty,kt,q⟩
end
seal OS OO
section
variable [Gn]{a:Adr}{Zz:zu}
abbrev xu (a:Adr): Prop:=ZY P w K mg base 13 "_law_found" ["_law_memory","_law_way","_law_a"] (OW a) []
def DR (T:Zq a)(oQ:uK a)(rN:xm a): xu a:=by
 exists T.FI,["_law_memory","_law_way","_law_a","_law_caught","_law_e","_law_fields"];rintro⟨O,k',p,mm,c,w',d,bd,t,n,m,r,x,A',v,rfl,M,hw,ag,ar,sb,b7,k1,k2⟩;left;refine⟨_,(ae (dM 3 nD jS)
     (ae (K3 (i:=4) rfl rfl rfl rfl T.bS (by rfl) T.bJ nD rfl rfl
     (λpn xe EX hx=>(af (aF (SJ oQ hr.m (by rfl) hx (aq (pv 0) (aq (pv 1) (ao (pv 2))))))))
     (λpn A' xe=>(af (dM 3 nD (pv 4)))))
     (ae (cG (ct A0 (pv 3) jS) (af (bq (fM (aq (eS (ao aD)) (ao (fM jx)))))) bb)
     (ae (dM 5 nD (fM jx))
     (ae (cG (g9 (isi (aq (pv 3) (ao (eX (v:=.ref a.gA) (by rfl) T.dS rfl))))) (af (dM 5 nD (fM (ao (AQ (pv 3) rfl))))) bb)
     (ae (cG (g9 (isi (aq (pv 3) (ao (eX (v:=.ref a.pP) (by rfl) T.d4 rfl))))) (af (dM 5 nD (fM (aq (AQ (pv 3) rfl) (aq (AQ (pv 3) rfl) (ao (AQ (pv 3) rfl))))))) bb)
     (af (bq (fM (aq (pf rN (ao (pv 3))) (ao (pv 5)))))))))))),?_⟩
 symm;refine Vf M hw ag ar sb b7 (λeb c' O' H1 M1 g1=>?_) λy hy C dct H1 xo s1=>?_
 · symm
   intro ld hld;generalize hh:upd _ ld _=H2;let⟨s2,e2⟩:=eQ hld hh;clear hh;symm;intro lf hlf;generalize hh:upd _ lf _=H3;let⟨s3,e3⟩:=eQ hlf hh;clear hh;symm;intro q hq;generalize hh:upd _ q _=H4;let⟨s4,e4⟩:=eQ hq hh;clear hh;have s14:=s2.trans (s3.trans s4);exact k1 eb c' O' H4 q (M1.same s14) (g1.trans (.same g1.lv s14)) ⟨ld,lf,e4,s4 _ _ (s3 _ _ e2),s4 _ _ e3⟩
 let⟨b1,b2,b3,b4,b5,b6,b7,b8,b9,b10,b11,b12,b13,b14,b15,kt,kd,ml,xi,xc⟩:=xo.kf T;have q6:=kt.2.2.2.2.2.1;have q15:=kt.2.2.2.2.2.2.2.2.2.2.2.2.2.2.1;refine⟨C,rfl,ml,λe he=>?_⟩;generalize hh:upd H1 e _=H2;let⟨s2,e2⟩:=eQ he hh;clear hh;have isk:=T.isk;rcases xc with ⟨rfl,rfl,fs,rfl⟩ | ⟨rfl,rfl,dd,n',rfl,rfl,fs,hd⟩ | ⟨rfl,rfl,dd,t',n',sd,rfl,cc,fs,hd⟩
 · have tyH:∀H',Zy H2 H'->TyE K H' (.ref e) (.ref C):=λH' s=>.exc (s _ _ e2) xi isk
   have ty2:=tyH H2 (.refl _);symm;intro lf hlf;generalize hh:upd _ lf _=H3;let⟨s3,e3⟩:=eQ hlf hh;clear hh;have ty3:=tyH H3 s3;symm;refine Jz (λH' s=>tyH H' (s3.trans s)) kt λl H4 e4 s4=>?_;rw[kd] at e4;symm;intro q hq;generalize hh:upd _ q _=H5;let⟨s5,e5⟩:=eQ hq hh;clear hh;exact k2 y hy H5 q (s1.trans (s2.trans (s3.trans (s4.trans s5)))) ⟨l,lf,e5,s5 _ _ e4,by rw[fs];exact s5 _ _ (s4 _ _ e3)⟩
 · have hd2:=s2 _ _ hd
   have tyH:∀H',Zy H2 H'->TyE K H' (.ref e) (.ref a.gA):=λH' s=>.Um (s _ _ e2) (s _ _ hd2) xi isk;have ty2:=tyH H2 (.refl _);have x1:=T.CN;have l1:([("page",.int n')]:zw).lookup ("page" : Str)=some (.int n'):=rfl;symm;intro l0 hl0;generalize hh:upd _ l0 _=H3;let⟨s3,e3⟩:=eQ hl0 hh;clear hh;have ty3:=tyH H3 s3;have e23:=s3 _ _ e2;have hd3:=s3 _ _ hd2;symm;intro lf hlf;generalize hh:upd _ lf _=H4;let⟨s4,e4⟩:=eQ hlf hh;clear hh;have ty4:=tyH H4 (s3.trans s4);symm;refine Jz (λH' s=>tyH H' (s3.trans (s4.trans s))) kt λl H5 e5 s5=>?_;rw[kd] at e5;symm;intro q hq;generalize hh:upd _ q _=H6;let⟨s6,e6⟩:=eQ hq hh;clear hh;exact k2 y hy H6 q (s1.trans (s2.trans (s3.trans (s4.trans (s5.trans s6))))) ⟨l,lf,e6,s6 _ _ e5,by rw[fs];exact s6 _ _ (s5 _ _ e4)⟩
 · have hd2:=s2 _ _ hd
   have tyH:∀H',Zy H2 H'->TyE K H' (.ref e) (.ref C):=λH' s=>.Um (s _ _ e2) (s _ _ hd2) xi isk;have ty2:=tyH H2 (.refl _);have x1:vX K C "task" := by rcases cc with rfl | rfl;exact T.xT;exact T.Bl
   have x2:vX K C "address" := by rcases cc with rfl | rfl;exact T.tZ;exact T.wc
   have x3:vX K C "deed" := by rcases cc with rfl | rfl;exact T.xS;exact T.Bk
   have l1:(mG (.int t') (.int n') (.str sd)).lookup ("task" : Str)=some (.int t'):=rfl;have l2:(mG (.int t') (.int n') (.str sd)).lookup ("address" : Str)=some (.int n'):=rfl;have l3:(mG (.int t') (.int n') (.str sd)).lookup ("deed" : Str)=some (.str sd):=rfl;symm;intro l0 hl0;generalize hh:upd _ l0 _=H3;let⟨s3,e3⟩:=eQ hl0 hh;clear hh;have ty3:=tyH H3 s3;have e23:=s3 _ _ e2;have hd3:=s3 _ _ hd2;symm;intro lf hlf;generalize hh:upd _ lf _=H4;let⟨s4,e4⟩:=eQ hlf hh;clear hh;have ty4:=tyH H4 (s3.trans s4);symm;refine Jz (λH' s=>tyH H' (s3.trans (s4.trans s))) kt λl H5 e5 s5=>?_;rw[kd] at e5;symm;intro q hq;generalize hh:upd _ q _=H6;let⟨s6,e6⟩:=eQ hq hh;clear hh;exact k2 y hy H6 q (s1.trans (s2.trans (s3.trans (s4.trans (s5.trans s6))))) ⟨l,lf,e6,s6 _ _ e5,by rw[fs];exact s6 _ _ (s5 _ _ e4)⟩
end
end K42
namespace K42
open PySem L2 Gm Gn
section
variable {K:qv}{H:Hp}
def Sl:∀ks:List Key,DatAll K H (ks.map kV) (ks.map kD)
 | []=>.nil
 | .inl i::r=>.cons (.int i) (Sl r)
 | .inr s::r=>.cons (.str s) (Sl r)
def YK (bd:zq): bd.map V.str=(bd.map QJ:zT).map kV:=by rw[adw];rfl
def eqNil {l e:Addr}{bd:zq}{Q:VK}(ok:∀y∈bd,Q1 y=true)(hl:H l=some (.lst (bd.map V.str)))(he:H e=some (.lst []))(q:Q (.bl (decide (bd=[]))) H): Ui K (.ref l) (.ref e) H Q:=by
 have t0:Tid 2 (.list []):=Tid.list λd hd=>by cases hd
 cases bd with
 | nil=>exact Ee (.lst (Zx.of hl) .nil) (.lst (Zx.of he) .nil) t0 q
 | cons b r =>
   rw[YK] at hl;have t1:Tid 2 (.list (((b::r).map QJ:zT).map kD)):=Tid.list λd hd=>by
     rw[adw] at hd;let⟨y,hy,rfl⟩:=Qa.mp hd;exact Tid.str (ok y hy)
   exact⟨_,_,.lst (Zx.of hl) (Sl _),.lst (Zx.of he) .nil,t1.shaped (by decide),t0.shaped (by decide),rfl,q⟩
def YL {ks:zT}(h:∀k∈ks,∀s,k=QJ s->Q1 s=true): ∀d∈ks.map kD,Tid 1 d:=λd hd=>by
 let⟨k,hk,rfl⟩:=Qa.mp hd;cases k with
 | inl i=>exact Tid.int i
 | inr s=>exact Tid.str (h _ hk s rfl)
def Xf {y:Str}{ks:zT}(hy:Q1 y=true)(h:∀k∈ks,∀s,k=QJ s->Q1 s=true): Tid 3 (.tuple [.list [.str y],.tuple (ks.map kD)]):=Tid.tuple λd hd=>by
 rcases qk.mp hd with e | e
 · rw[e]
   exact Tid.list λd hd=>by rw[qc.mp hd];exact Tid.str hy
 · rw[qc.mp e]
   exact Tid.tuple λd hd=>YL h d hd
def Sn {q:Addr}{y:Str}{ks:zT}(h:Res H q y ks): pL K H (.ref q) (.tuple [.list [.str y],.tuple (ks.map kD)]):=by
 let⟨l,f,h1,h2,h3⟩:=h;exact .tup (SqT.of h1) (.cons (.lst (Zx.of h2) (.cons (.str y) .nil)) (.cons (.tup (SqT.of h3) (Sl ks)) .nil))
end
def OX:Sp:=λvs H Q _=>∃w d l bd t n m r x A v,vs=[.int w,.ref d,.ref l]/\(0<=w/\w < 8)/\Ag H d w t n m r x A v/\H l=some (.lst (bd.map V.str))/\bd.Sublist (i4 w) ∧
 (bd=[]->∀H' q,Zy H H'->Res H' q "done" []->Q (.ref q) H')/\(∀y,Fst bd y->∀H' q,Zy H H'->Res H' q y (xq w A y)->Q (.ref q) H')
def Cq {w:Int}{y:Str}(h:y∈i4 w): Q1 y=true:=by
 have:∀{L:zq},L.all Q1=true->y∈L->Q1 y=true:=λh1 h2=>Qy.mp h1 y h2;unfold i4 at h
 repeat' split at h
 all_goals exact this (by exfalso) h
def Xg {w A:Int}{y:Str}: ∀k∈xq w A y,∀s,k=QJ s->Q1 s=true:=by
 have h1:Q1 (L8 w)=true:=by unfold L8;(repeat' split)<;>exfalso
 unfold xq;intro k hk s e;subst e
 repeat' split at hk
 all_goals simp only [qk,qU,or_false,Sum.inr.injEq,reduceCtorEq,false_or] at hk
 · rw[hk];exact h1
 all_goals rw[hk];exfalso
def YM {w:Int}{y:Str}(w0:0<=w)(w8:w < 8)(h:y∈i4 w): (y = "taken" -> w=0\/w=3)/\(y = "unmapped" -> w=1\/w=2\/w=4\/w=5)/\(y = "barred" -> w=4\/w=5):=by
 have:w=0\/w=1\/w=2\/w=3\/w=4\/w=5\/w=6\/w=7:=by lia
 refine⟨λe=>?_,λe=>?_,λe=>?_⟩<;>subst e<;>rcases this with rfl | rfl | rfl | rfl | rfl | rfl | rfl | rfl<;>first | decide | exact absurd h (by decide)
section
variable [Gn]{a:Adr}{Zz:zu}
abbrev Cu (a:Adr): Prop:=ZY P w K mg base 1 "_law_due" ["_law_way","_law_a","_law_bad_here"] (OX) []
def Ij (T:Zq a): Cu a:=by
 exists T.Jm,["_law_way","_law_a","_law_bad_here"];rintro⟨w',d,l,bd,t,n,m,r,x,A',v,rfl,hw,ag,hl,sb,k1,k2⟩;left;refine⟨_,(ae (cG (ct (E6 hr.units) (pv 2) (eS jx)) (af (bq (fM (aq (eS (ao aD)) (ao (fM jx)))))) bb)
     (ae (cG (ct gM (hZ fV (pv 2) ai) aD) (af (bq (fM (aq (eS (ao aD)) (ao (fM (ao (hZ fV (eS (aq ai (aq ai (aq ai (ao ai))))) (pv 0))))))))) bb)
     (ae (cG (ct gM (hZ fV (pv 2) ai) aD) (af (bq (fM (aq (eS (ao aD)) (ao (fM (aq ai (aq ai (ao (hZ fV (eS (aq aD (aq aD (aq aD (aq aD (aq aD (ao aD))))))) (pv 0))))))))))) bb)
     (ae (cG (ct gM (hZ fV (pv 2) ai) aD) (af (bq (fM (aq (eS (ao aD)) (ao (fM (aq ai (aq (fF hr.u1 (pv 1) aD (λ_ _=>rfl)) (ao (hZ fV (eS (aq aD (ao aD))) (dL ji (pv 0) ai))))))))))) bb)
     (af (bq (fM (aq (eS (ao (hZ fV (pv 2) ai))) (ao (fM jx)))))))))),?_⟩
 let⟨fd,kd,D,F⟩:=ag;let⟨w0,w8⟩:=hw;symm;intro en hen;generalize hh:upd _ en _=H1;let⟨s1,e1⟩:=eQ hen hh;clear hh;have hl1:=s1 _ _ hl;symm;refine eqNil (λy hy=>Cq (sb.subset hy)) hl1 e1 ?_;symm;refine dI (λz=>?_) λz=>?_
 · symm
   intro l2 hl2;generalize hh:upd _ l2 _=H2;let⟨s2,e2⟩:=eQ hl2 hh;clear hh;symm;intro f3 hf3;generalize hh:upd _ f3 _=H3;let⟨s3,e3⟩:=eQ hf3 hh;clear hh;symm;intro q hq;generalize hh:upd _ q _=H4;let⟨s4,e4⟩:=eQ hq hh;clear hh;exact k1 z H4 q (s1.trans (s2.trans (s3.trans s4))) ⟨l2,f3,e4,s4 _ _ (s3 _ _ e2),s4 _ _ e3⟩
 obtain⟨y,bd',rfl⟩:∃y r,bd=y::r:=by
   cases bd with
   | nil=>exact absurd rfl z
   | cons y r=>exact⟨y,r,rfl⟩
 have yo:y∈i4 w':=sb.subset qG;let⟨wt,wu,wb⟩:=YM w0 w8 yo;have hl1:H1 l=some (.lst (.str y::bd'.map V.str)):=hl1;have a0:atI (V.str y::bd'.map V.str) 0=some (.str y):=pJ (j:=0) rfl;have k2:=k2 y ⟨_,rfl⟩;have g5:=(D.keep (λu h=>s1 _ _ h)).get F.A;symm;refine dI (λz1=>?_) λz1=>?_
 · injection z1 with z1
   subst z1;have ha:atI [V.int 3,V.int 0,V.int 0,V.int 8] w'=some (.int (if w'=0 then 3 else 8)):=by rcases wt rfl with rfl | rfl<;>rfl
   symm;intro l2 hl2;generalize hh:upd _ l2 _=H2;let⟨s2,e2⟩:=eQ hl2 hh;clear hh;symm;intro u hu;generalize hh:upd _ u _=H3;let⟨s3,e3⟩:=eQ hu hh;clear hh;symm;intro f4 hf4;generalize hh:upd _ f4 _=H4;let⟨s4,e4⟩:=eQ hf4 hh;clear hh;symm;intro q hq;generalize hh:upd _ q _=H5;let⟨s5,e5⟩:=eQ hq hh;clear hh;exact k2 H5 q (s1.trans (s2.trans (s3.trans (s4.trans s5)))) ⟨l2,f4,e5,s5 _ _ (s4 _ _ (s3 _ _ e2)),by rw[OT];exact s5 _ _ e4⟩
 symm;refine dI (λz2=>?_) λz2=>?_
 · injection z2 with z2
   subst z2;have ha:atI [V.str "",V.str "unmap",V.str "rights",V.str "",V.str "read",V.str "write"] w'=some (.str (L8 w')):=by rcases wu rfl with rfl | rfl | rfl | rfl<;>rfl
   symm;intro l2 hl2;generalize hh:upd _ l2 _=H2;let⟨s2,e2⟩:=eQ hl2 hh;clear hh;symm;intro u hu;generalize hh:upd _ u _=H3;let⟨s3,e3⟩:=eQ hu hh;clear hh;symm;intro f4 hf4;generalize hh:upd _ f4 _=H4;let⟨s4,e4⟩:=eQ hf4 hh;clear hh;symm;intro q hq;generalize hh:upd _ q _=H5;let⟨s5,e5⟩:=eQ hq hh;clear hh;exact k2 H5 q (s1.trans (s2.trans (s3.trans (s4.trans s5)))) ⟨l2,f4,e5,s5 _ _ (s4 _ _ (s3 _ _ e2)),by rw[OU];exact s5 _ _ e4⟩
 symm;refine dI (λz3=>?_) λz3=>?_
 · injection z3 with z3
   subst z3;have ha:atI [V.str "read",V.str "write"] (w'-4)=some (.str (if w'=4 then "read" else "write")):=by rcases wb rfl with rfl | rfl<;>rfl
   symm;intro l2 hl2;generalize hh:upd _ l2 _=H2;let⟨s2,e2⟩:=eQ hl2 hh;clear hh;have g6:=(D.keep (λu h=>s2 _ _ (s1 _ _ h))).get F.A;symm;intro u hu;generalize hh:upd _ u _=H3;let⟨s3,e3⟩:=eQ hu hh;clear hh;symm;intro f4 hf4;generalize hh:upd _ f4 _=H4;let⟨s4,e4⟩:=eQ hf4 hh;clear hh;symm;intro q hq;generalize hh:upd _ q _=H5;let⟨s5,e5⟩:=eQ hq hh;clear hh;exact k2 H5 q (s1.trans (s2.trans (s3.trans (s4.trans s5)))) ⟨l2,f4,e5,s5 _ _ (s4 _ _ (s3 _ _ e2)),by rw[OV];exact s5 _ _ e4⟩
 have n1:y ≠ "taken" := λz=>z1 (by rw[z]);have n2:y ≠ "unmapped" := λz=>z2 (by rw[z]);have n3:y ≠ "barred" := λz=>z3 (by rw[z]);symm;intro l2 hl2;generalize hh:upd _ l2 _=H2;let⟨s2,e2⟩:=eQ hl2 hh;clear hh;symm;intro f3 hf3;generalize hh:upd _ f3 _=H3;let⟨s3,e3⟩:=eQ hf3 hh;clear hh;symm;intro q hq;generalize hh:upd _ q _=H4;let⟨s4,e4⟩:=eQ hq hh;clear hh;exact k2 H4 q (s1.trans (s2.trans (s3.trans s4))) ⟨l2,f3,e4,s4 _ _ (s3 _ _ e2),by rw[xt n1 n2 n3];exact s4 _ _ e3⟩
end
def OY (a:Adr): Sp:=λvs H Q _=>∃O k p mm c w,vs=[.ref p,.int w]/\Mz a O H k p (Ii w mm c)/\∀O' H',Mz a O' H' k p (D42 mm c)->Go (MP k) O H O' H'->Q .non H'
def Gh (a:Adr): Sp:=λvs H Q _=>∃O k p mm c w cl nm,vs=[.ref p,.int w,.int cl,.int nm]/\(0<=w/\w < 8)/\Mz a O H k p (D42 mm c)/\∀c' O' H',Mz a O' H' k p (D42 mm c')->Go (MP k) O H O' H'->Q (.bl true) H'
def Mz.lv {a:Adr}{O:Lab}{H:Hp}{k:Nat}{p:Addr}{σ:Ms}(M:Mz a O H k p σ): Lv O H:=by let⟨_,_,M⟩:=M;exact M.lv
def Mz.zero {a:Adr}{O:Lab}{H H':Hp}{k:Nat}{p q:Addr}{σ:Ms}{u:HO}(M:Mz a O H k p σ)(h:H q=none)(e:H' q=some u): v0 O H' q=some u:=gG e (M.lv.no h)
section
variable {K:qv}{a:Adr}{H:Hp}{O:Lab}{k:Nat}{p d l:Addr}{mm c w t n m r A v:Int}{x:Str}{bd:zq}{Q:VK}{E:XK}
def Vg (M:Mz a O H k p (D42 mm c)) (hw:0<=w/\w < 8) (ag:Ag H d w t n m r x A v) (ar:Ar w bd t n m r x A v) (sb:bd.Sublist (i4 w)) (b7:w=7->bd≠[]) (k1:bd=[]->∀c' O' H' q,Mz a O' H' k p (Ii w mm c')->Go (MP k) O H O' H'->Res H' q "done" []->Q (.ref q) H') (k2:∀y,Fst bd y->∀H' q,Zy H H'->Res H' q y (xq w A y)->Q (.ref q) H'):OW a [.ref p,.int w,.ref d] H Q E:=⟨O,k,p,mm,c,w,d,bd,t,n,m,r,x,A,v,rfl,M,hw,ag,ar,sb,b7,k1,k2⟩
def OZ (hw:0<=w/\w < 8) (ag:Ag H d w t n m r x A v) (hl:H l=some (.lst (bd.map V.str))) (sb:bd.Sublist (i4 w)) (k1:bd=[]->∀H' q,Zy H H'->Res H' q "done" []->Q (.ref q) H') (k2:∀y,Fst bd y->∀H' q,Zy H H'->Res H' q y (xq w A y)->Q (.ref q) H'):OX [.int w,.ref d,.ref l] H Q E:=⟨w,d,l,bd,t,n,m,r,x,A,v,rfl,hw,ag,hl,sb,k1,k2⟩
def Vh (M:Mz a O H k p (Ii w mm c))(q:∀O' H',Mz a O' H' k p (D42 mm c)->Go (MP k) O H O' H'->Q .non H'): OY a [.ref p,.int w] H Q E:=⟨O,k,p,mm,c,w,rfl,M,q⟩
def Gi (M:Mz a O H k p (D42 mm c))(q:∀b H',H' b=some (.lst [.int 0])->H b=none->Zy H H'->Q (.ref b) H'): Jx a [.ref p] H Q E:=by
 let⟨x,z_,M⟩:=M;refine⟨O,k,p,_,x,z_,rfl,M,by show 1 < 64;decide,λb ns H' e pm _ hb s=>q b H' ?_ hb s⟩;rw[e,List.perm_singleton.mp (show ns.Perm [0] from pm)];rfl
def Gj (M:Mz a O H k p (D42 mm c))(q:Q (.int 0) H): Ga a [.ref p] H Q E:=by
 let⟨x,z_,M⟩:=M;exact⟨O,k,p,_,x,z_,rfl,M,q⟩
def Tb (M:Mz a O H k p (D42 mm c))(q:Q (.int c) H): U3 a [.ref p] H Q E:=by
 let⟨x,z_,M⟩:=M;exact⟨O,k,p,_,x,z_,rfl,M,q⟩
def Ag.keep {H':Hp}(h:Ag H d w t n m r x A v)(s:∀u,H d=some u->H' d=some u): Ag H' d w t n m r x A v:=by let⟨f,k,D,F⟩:=h;exact ⟨f,k,D.keep s,F⟩
def Res.same {H':Hp}{q:Addr}{y:Str}{ks:zT}(h:Res H q y ks)(s:Zy H H'): Res H' q y ks:=by let⟨l,f,h1,h2,h3⟩:=h;exact ⟨l,f,s _ _ h1,s _ _ h2,s _ _ h3⟩
end
seal Ce rA Ez EA OI L5 Cb Ex
section
variable [Gn]{a:Adr}{Zz:zu}
abbrev uL (a:Adr): Prop:=ZY P w K mg base 10 "_law_undone" ["_law_memory","_law_way"] (OY a) []
def Cw (T:Zq a)(i3:oK a)(iA:nV a)(lL:vp a): uL a:=by
 exists T.Dg,["_law_memory","_law_way"];rintro⟨O,k',p,mm,c,w',rfl,M,q⟩;left;refine⟨_,(af (cG (ct gM (pv 1) ai) (af (aF (pf i3 (aq (pv 0) (aq ai (aq ai (ao ai))))))) (af (cG (ct gM (pv 1) ai) (af (aF (pf iA (aq (pv 0) (aq ai (aq ai (aq ai (ao ai)))))))) (af (cG (ct gM (pv 1) ai) (af (aF (pf i3 (aq (pv 0) (aq ai (aq ai (ao ai))))))) (af (cG (ct gM (pv 1) ai) (af (aF (pf lL (aq (pv 0) (ao ai))))) bb)))))))),?_⟩;symm;refine d6 (λw0=>?_) λw0=>?_
 · subst w0
   symm;refine YC M λH' M' g=>?_;symm;exact q O H' M' g
 symm;refine d6 (λw1=>?_) λw1=>?_
 · subst w1
   symm;refine YD M λO' H' M' g=>?_;symm;exact q O' H' M' g
 symm;refine d6 (λw3=>?_) λw3=>?_
 · subst w3
   symm;refine W0 M λH' M' g=>?_;symm;exact q O H' M' g
 symm;refine d6 (λw6=>?_) λw6=>?_
 · subst w6
   symm;refine WW M λH' M' g=>?_;symm;exact q O H' M' g
 · have e:Ii w' mm c=D42 mm c:=by unfold Ii;rw[if_neg w0,if_neg w1,if_neg w3,if_neg w6]
   rw[e] at M;symm;exact q O H M (.same M.lv (.refl _))
end
seal OW OX OY Jx Ga U3
section
variable [Gn]{a:Adr}{Zz:zu}
abbrev xv (a:Adr): Prop:=ZY P w K mg base 14 "_law_right" ["_law_memory","_law_way","_law_cell","_law_number"] (Gh a) []
def DS (T:Zq a)(vD:Cm a)(lM:pE a)(rO:Ca a)(lW:yQ a)(lh:w_ a)(rP:xu a)(vE:Cu a)(oR:uL a)(kJ:tP a): xv a:=by
 exists T.FK,["_law_memory","_law_way","_law_cell","_law_number","_law_bad_here","_law_a","_law_before"];rintro⟨O,k',p,mm,c,w',cl,nm,rfl,hw,M,q⟩;refine L2.xl ?_;intro X _ _
 let R6:{t:TS // PSs X ((dO (top 114)).drop 6) t}:=⟨_,(af (bq (AX (ce (E6 hr.units) (pf lh (ao (pv 0))) (eS (ao ai))) (AX (ce gM (pf lW (ao (pv 0))) ai) (Io (ce gM (pf kJ (aq (pv 0) (aq ai (ao ai)))) ai))))))⟩
 let R2:{t:TS // PSs X ((dO (top 114)).drop 2) t}:=⟨_,(ae (dM 5 nD (pf lM (aq (pv 1) (aq (pv 3) (ao (pv 4))))))
     (ae (dM 6 nD (fM (aq (pf lh (ao (pv 0))) (aq (pf lW (ao (pv 0))) (ao (pf rO (ao (pv 0))))))))
     (ae (cG (ct (IK hr.units) (pf rP (aq (pv 0) (aq (pv 1) (ao (pv 5))))) (pf vE (aq (pv 1) (aq (pv 5) (ao (pv 4)))))) (af (bq vI)) bb)
     (ae (cG (ct (E6 hr.units) (pv 4) (eS jx)) (af (aF (pf oR (aq (pv 0) (ao (pv 1)))))) (af (cG (ct (IK hr.units) (fM (aq (pf lh (ao (pv 0))) (aq (pf lW (ao (pv 0))) (ao (pf rO (ao (pv 0))))))) (pv 6)) (af (bq vI)) bb)))
     R6.2))))⟩
 refine⟨_,(ae (dM 4 nD (pf vD (aq (pv 1) (ao (pv 2)))))
     (ae (cG (PW.pt (pG (ct gM (pv 1) ai) (pF (ct (E6 hr.units) (pv 4) (eS jx))))) (af (bq vI)) bb)
     R2.2)),?_⟩
 have Ih:∀(v4 v5 v6:zJ) (c':Int) (O':Lab) (H':Hp),Mz a O' H' k' p (D42 mm c')->Go (MP k') O H O' H'->R6.1 { nx:=λx H'=>Q V.non H',rt:=Q } [some (.ref p),some (.int w'),some (.int cl),some (.int nm),v4,v5,v6] H':=by
   intro v4 v5 v6 c' O' H' M' g';symm;refine Gi M' λb H1 e1 hb s1=>?_;symm;intro e0 he0;generalize hh:upd _ e0 _=H2;let⟨s2,e2⟩:=eQ he0 hh;clear hh;symm;refine Ee (.lst (Zx.of (s2 _ _ e1)) (jB K _ [0])) (.lst (Zx.of e2) (jB K _ [0])) (Tid.ints [0]) ?_;symm;refine Gj ((M'.same s1).same s2) ?_;symm;refine OM ((M'.same s1).same s2) (λ_ _=>.inl rfl) (λz=>absurd rfl z) (λ_ z=>absurd (Gg (by decide)) z) (λ_ z=>absurd z (by decide)) (λ_ z=>absurd z (by decide)) λ_ _ w2 H3 M3 g3=>?_;symm;rw[decide_eq_true rfl];exact q w2 O' H3 M3 (g'.trans ((Go.same g'.lv (s1.trans s2)).trans g3))
 have Ig:∀(l:Addr) (bd:zq) (H':Hp),bd.Sublist (i4 w')->(w'=7->bd≠[])->v0 O H' l=some (.lst (bd.map V.str))->Zy H H'->R2.1 { nx:=λx H'=>Q V.non H',rt:=Q } [some (.ref p),some (.int w'),some (.int cl),some (.int nm),some (.ref l),none,none] H':=by
   intro l bd H1 sb b7 hl1 s1;have M1:=M.same s1;have hl1':=(fQ hl1).1;symm;intro d t n m r x A' v H2 ar ag hd s2;have M2:=M1.same s2;symm;refine Gi M2 λb H3 e3 hb s3=>?_;have M3:=M2.same s3;symm;refine Gj M3 ?_;symm;refine Tb M3 ?_;symm;intro tb htb;generalize hh:upd _ tb _=H4;let⟨s4,e4⟩:=eQ htb hh;clear hh;have M4:=M3.same s4;have zl:=v0S (O:=O) (s2.trans (s3.trans s4)) _ _ hl1;have zb:=v0S (O:=O) s4 _ _ (M2.zero hb e3);have zt:=M3.zero htb e4;have dn:O d=none:=M1.lv.no hd;have ag4:=ag.keep (H':=H4) λu h=>s4 _ _ (s3 _ _ h);symm;refine Vg M4 hw ag4 ar sb b7 (λeb c' O5 H5 q5 M5 g5 r5=>?_) λy hy H5 q5 s5 r5=>?_
   · have ag5:=ag4.keep (H':=H5) λu h=>(fQ (g5.v0 _ _ (gG h dn))).1
     have zl5:=(fQ (g5.v0 _ _ zl)).1;symm;refine OZ hw ag5 zl5 sb (λ_ H6 q6 s6 r6=>?_) λy hy=>absurd hy (by rintro⟨_,e⟩;rw[eb] at e;cases e);refine xM (Sn (r5.same s6)) (Sn r6) (Xf (by exfalso) λk hk=>by cases hk) ?_;symm;intro en hen;generalize hh:upd _ en _=H7;let⟨s7,e7⟩:=eQ hen hh;clear hh;symm;refine eqNil (λy hy=>Cq (sb.subset hy)) (s7 _ _ (s6 _ _ zl5)) e7 ?_;symm;refine dI (λ_=>?_) λz=>absurd eb z;symm;refine Vh ((M5.same s6).same s7) λO8 H8 M8 g8=>?_;have t6:=Ih (some (.ref l)) (some (.ref d)) (some (.ref tb)) c' O8 H8 M8 (((Go.same M.lv (s1.trans (s2.trans (s3.trans s4)))).trans g5).trans ((Go.same g5.lv (s6.trans s7)).trans g8));repeat (first | exact t6 | right)
   · have ag5:=ag4.keep (H':=H5) λu h=>s5 _ _ h
     have zl5:=s5 _ _ (fQ zl).1;have nb:bd≠[]:=by let⟨_,e⟩:=hy;rw[e];exact nofun
     have yo:y∈i4 w':=by let⟨_,e⟩:=hy;rw[e] at sb;exact sb.subset qG
     symm;refine OZ hw ag5 zl5 sb (λe=>absurd e nb) λy' hy' H6 q6 s6 r6=>?_;obtain rfl:y=y':=by let⟨_,e⟩:=hy;let⟨_,e'⟩:=hy';rw[e] at e';injection e'
     refine xM (Sn (r5.same s6)) (Sn r6) (Xf (Cq yo) Xg) ?_;symm;intro en hen;generalize hh:upd _ en _=H7;let⟨s7,e7⟩:=eQ hen hh;clear hh;have M7:=((M4.same s5).same s6).same s7;have s47:=s5.trans (s6.trans s7);symm;refine eqNil (λy hy=>Cq (sb.subset hy)) (s7 _ _ (s6 _ _ zl5)) e7 ?_;symm;refine dI (λz=>absurd z nb) λ_=>?_;symm;refine Gi M7 λb8 H8 e8 hb8 s8=>?_;have M8:=M7.same s8;symm;refine Gj M8 ?_;symm;refine Tb M8 ?_;symm;intro t9 ht9;generalize hh:upd _ t9 _=H9;let⟨s9,e9⟩:=eQ ht9 hh;clear hh;have s49:=s47.trans (s8.trans s9);symm;refine xM (d:=.tuple [.list ([0].map aer),.int 0,.int c]) (n:=3) (.tup (SqT.of e9) (.cons (.lst (Zx.of (s9 _ _ e8)) (jB K _ [0])) (.cons (.int 0) (.cons (.int c) .nil)))) (.tup (SqT.of (s49 _ _ e4)) (.cons (.lst (Zx.of (s49 _ _ (s4 _ _ e3))) (jB K _ [0])) (.cons (.int 0) (.cons (.int c) .nil)))) (Tid.tuple λd hd=>?_) ?_
     · simp only [qk,qU,or_false] at hd
       rcases hd with rfl | rfl | rfl
       · exact Tid.ints [0]
       · exact(Tid.int 0).mono (by decide)
       · exact(Tid.int c).mono (by decide)
     have t6:=Ih (some (.ref l)) (some (.ref d)) (some (.ref tb)) c O H9 (M8.same s9) (Go.same M.lv (s1.trans (s2.trans (s3.trans (s4.trans s49)))));refine⟨_,rfl,iB ?_⟩;repeat (first | exact t6 | right)
 symm;rintro l H1 bd sb ⟨hl,e1,s1⟩;have M1:=M.same s1;have hl1:=M.zero hl e1;symm;refine d6 (λw7=>?_) λw7=>?_
 · symm
   intro en hen;generalize hh:upd _ en _=H2;let⟨s2,e2⟩:=eQ hen hh;clear hh;symm;refine eqNil (λy hy=>Cq (sb.subset hy)) (s2 _ _ e1) e2 ?_;refine⟨_,rfl,?_⟩;refine dI (λz=>?_) λz=>?_
   · symm
     exact q c O H2 (M1.same s2) (.same M.lv (s1.trans s2))
   · have t2:=Ig l bd H2 sb (λ_=>z) (v0S s2 _ _ hl1) (s1.trans s2)
     repeat (first | exact t2 | right)
 · have t2:=Ig l bd H1 sb (λz=>absurd z w7) hl1 s1
   repeat (first | exact t2 | right)
end
end K42
namespace K42
open PySem L2 Gm Gn
def KE (K:qv): Sp:=λvs H Q _=>∃(a:Addr) (ns:zm),vs=[.ref a]/\Zx K H a (ns.map V.int)/\ns.length<=63/\∀H',Q (.bl true) H'
def Zx.to {K:qv}{H H':Hp}{a:Addr}{xs:zu}(h:Zx K H a xs)(q:∀u,H a=some u->H' a=some u): Zx K H' a xs:=by
 rcases h with (h | ⟨o,h⟩) | h
 · exact .inl (.inl (q _ h))
 · exact .inl (.inr ⟨o,q _ h⟩)
 · exact .inr h
def right_of {a:Adr}{H:Hp}{O:Lab}{k:Nat}{p:Addr}{mm c w cl nm:Int}{Q:VK}{E:XK}(hw:0<=w/\w < 8)(M:Mz a O H k p (D42 mm c))(q:∀c' O' H',Mz a O' H' k p (D42 mm c')->Go (MP k) O H O' H'->Q (.bl true) H'): Gh a [.ref p,.int w,.int cl,.int nm] H Q E:=⟨O,k,p,mm,c,w,cl,nm,rfl,hw,M,q⟩
seal Ce rA Ez EA OI L5 Cb Ex U5 Gh
section
variable [Gn]{a:Adr}{Zz:zu}
def Vi {f:Addr} {oc:Value} {od:zo} {dV kV doc pm:Value} {an:zo} {cdv ct:Value} {osl:zy} (lk:K.lookup f=some ⟨oc,od,.func (QF "law" "law" (fW my) (dO my) (cQ my) dV kV doc pm an cdv ct),osl⟩) (hcd:QG K cdv "law" = true) (T:Zq a)
   (li:jw P w K mg base a.fq 7 ["self","shape","frames","slots","near"] (WT a) [])
   (lr:tQ a)
   (lN:pq a)
   (rQ:xg a)
   (iA:nV a)
   (iU:mr a)
   (ju:oM a)
   (jQ:rL a)
   (mM:xv a) :
   lw P w K mg base (CXE P w) 15 f (QF "law" "law" (fW my) (dO my) (cQ my) dV kV doc pm an cdv ct) ["_law_script"] (KE K):=by
 refine yB lk hcd Bh (by walk_at "l0") λA outer s H vs Q E hr=>?_;rintro⟨sc,ss,rfl,hS,hlen,k⟩;refine L2.xl ?_;intro X _ _
 let R8:{t:TS // PSs X ((dO my).drop 8) t}:=⟨_,(ae (fo (DX (by rfl) T.dQ (ao ai)) (gn 4 Bh.nd)
     (af (cG (jh (g9 (pf mM (aq (pv 1) (aq (pv 4) (aq ai (ao (pf lr (aq (pv 0) (ao ai)))))))))) (af (bq vI)) bb)))
     (af (bq (ce gM (pv 2) ai))))⟩
 let R7:{t:TS // PSs X ((dO my).drop 7) t}:=⟨_,(ae (fo (gP (oX PD (pv 0) (pI ai) (pI ai))) (gn 3 Bh.nd)
     (af (cG (jh (g9 (pf mM (aq (pv 1) (aq (dL kM (pv 3) ai) (aq (dL mD (pv 3) ai) (ao (dL mD (pv 3) ai)))))))) (af (bq vI)) bb)))
     R8.2)⟩
 let R1:{t:TS // PSs X ((dO my).drop 1) t}:=⟨_,(ae (dM 2 Bh.nd (pf rQ (ao (pv 1))))
     (ae (aF (pf iA (aq (pv 1) (aq (pv 2) (aq ai (aq ai (ao ai)))))))
     (ae (aF (pf iA (aq (pv 1) (aq (pv 2) (aq ai (aq ai (ao ai)))))))
     (ae (aF (pf iU (aq (pv 1) (aq (pv 2) (aq ai (aq ai (ao ai)))))))
     (ae (aF (pf ju (aq (pv 1) (aq (pv 2) (aq aD (aq ai (aq ai (ao ai))))))))
     (ae (aF (pf jQ (aq (pv 1) (aq (pv 2) (aq ai (ao ai))))))
     R7.2))))))⟩
 refine⟨_,(ae (dM 1 Bh.nd (pk li (aq (pk lN (aq (eS (aq ai (ao ai))) (ao ai))) (aq ai (aq ai (ao (hZ fV (eS (aq ai (ao ai))) (dL kM (pf lr (aq (pv 0) (ao ai))) ai))))))))
     R1.2),?_⟩
 let⟨ms,em,lm⟩:=Nc ss (some 1) (some 63);have KC:∀(mem:Addr) (O:Lab) (H2:Hp) (me c:Int) (v3 v4:zJ),Mz a O H2 0 mem (D42 me c)->Zx K (v0 O H2) sc (ss.map V.int)->R8.1 { nx:=λx H'=>Q V.non H',rt:=Q } [some (.ref sc),some (.ref mem),some (.int 0),v3,v4] H2:=by
   intro mem O H2 me c v3 v4 M S2;symm
   let Iv1:L2.Lv:=λi σ H'=>Bx (∃(v4:zJ) (O':Lab) (c':Int),σ=[some (.ref sc),some (.ref mem),some (.int 0),v3,v4]/\Mz a O' H' 0 mem (D42 me c')/\Zx K (v0 O' H') sc (ss.map V.int))
   refine KP Iv1 ⟨L2.j3 _ O c ⟨rfl,M,S2⟩⟩ ?_ ?_
   · intro i σ H3 hi;refine Bx.el ?_;rintro⟨v5,O3,c3,rfl,M3,S3⟩
     have S3':=(v0H (O:=O3)).seq S3;have hi':i < 8:=hi;symm;refine right_of ⟨by lia,by lia⟩ M3 λc4 O4 H4 M4 g4=>?_;symm;exact⟨L2.j3 _ O4 c4 ⟨rfl,M4,g4.v0.seq S3⟩⟩
   · intro σ H3;refine Bx.el ?_;rintro⟨v5,O3,c3,rfl,M3,S3⟩
     symm;rw[decide_eq_true rfl];exact k H3
 have KD:∀(mem:Addr) (O:Lab) (H2:Hp) (me c:Int) (v3 v4:zJ),Mz a O H2 0 mem (D42 me c)->Zx K (v0 O H2) sc (ss.map V.int)->R7.1 { nx:=λx H'=>Q V.non H',rt:=Q } [some (.ref sc),some (.ref mem),some (.int 0),v3,v4] H2:=by
   intro mem O H2 me c v3 v4 M S2;have S2':=(v0H (O:=O)).seq S2;symm;intro sq hsq;generalize hh:upd _ sq _=H4;let⟨s4,e4⟩:=eQ hsq hh;clear hh;rw[em] at e4;have hs4:=M.zero hsq e4;symm
   let Iv2:L2.Lv:=λi σ H'=>Bx (∃(v3:zJ) (O':Lab) (c':Int),σ=[some (.ref sc),some (.ref mem),some (.int 0),v3,v4]/\Mz a O' H' 0 mem (D42 me c')/\Zx K (v0 O' H') sc (ss.map V.int)/\v0 O' H' sq=some (.lst (ms.map V.int)))
   refine iq (xs:=ms.map V.int) Iv2 ⟨L2.j3 _ O c ⟨rfl,M.same s4,(v0S s4).seq S2,hs4⟩⟩ (λi σ H' _ z=>?_) ?_ ?_
   · let⟨_,_,_,_,_,_,z⟩:=z.o
     exact Zx.of (v0H _ _ z)
   · intro i x σ H5 hx;refine Bx.el ?_;rintro⟨v3,O5,c5,rfl,M5,S5,hs5⟩
     let⟨z,rfl,_⟩:=g_ hx;symm;refine right_of ⟨by lia,by lia⟩ M5 λc6 O6 H6 M6 g6=>?_;symm;exact⟨L2.j3 _ O6 c6 ⟨rfl,M6,g6.v0.seq S5,g6.v0 _ _ hs5⟩⟩
   · intro σ H5;refine Bx.el ?_;rintro⟨v3,O5,c5,rfl,M5,S5,hs5⟩
     exact KC mem O5 H5 me c5 v3 v4 M5 S5
 have Xh:∀(mem:Addr) (O:Lab) (H2:Hp) (me:Int),Mz a O H2 0 mem (ms0 [2,2] L42 1 1 0 me ["ab"])->Zx K (v0 O H2) sc (ss.map V.int)->R1.1 { nx:=λx H'=>Q V.non H',rt:=Q } [some (.ref sc),some (.ref mem),none,none,none] H2:=by
   intro mem O H2 me M S2;have ok3:OkR 3:=by decide
   symm;refine W4 M λO3 H3 M3 g3=>?_;symm;refine W5 M3 (by unfold fO;exfalso) ok3 (λ_ _=>rfl) λO4 H4 M4 g4=>?_;symm;refine W5 M4 (by unfold fO;exfalso) (by decide) (λi hi=>?_) λO5 H5 M5 g5=>?_
   · obtain rfl:i=0:=by lia
     rfl
   symm;refine YF M5 (by unfold fO;exfalso) (by decide) (λi hi=>?_) λO6 H6 M6 g6=>?_
   · have hi:i < 1:=hi
     obtain rfl:i=0:=by lia
     rfl
   symm;refine YG M6 λO7 H7 M7 g7=>?_;symm;refine wrY M7 λc O8 H8 M8 g8=>?_;have t7:=KD mem O8 H8 me c none none M8 (g8.v0.seq (g7.v0.seq (g6.v0.seq (g5.v0.seq (g4.v0.seq (g3.v0.seq S2))))));repeat (first | exact t7 | right)
 have g1:Good [2,2] 1:=⟨by decide,by decide,by decide,by decide⟩;obtain⟨e,ok,ie⟩:∃e:Int,OkM e/\atI [V.int 0,.int 4] (ss.getD (0:Int).toNat 0%2)=some (.int e):=by
   generalize hm:ss.getD (0:Int).toNat 0%2=m;have:m=0\/m=1:=by lia
   rcases this with rfl | rfl<;>exact⟨_,by unfold OkM;lia,rfl⟩
 symm;intro w' hw';generalize hh:upd _ w' _=H2;let⟨s2,e2⟩:=eQ hw' hh;clear hh;have e2:H2 w'=some (.lst (([2,2]:zm).map V.int)):=e2;have S2:=s2.seq hS;refine λx dx hx hdx ne=>⟨x,w',dx,[2,2],1,rfl,ah,?_,g1,λH3 SH3 fr'=>⟨rfl,?_⟩⟩
 · rw[ak (aj e2 hx),ak (aj e2 hdx)];exact e2
 have s3:Zy H2 H3:=λb o z=>fr' b o (by rw[ak (aj z hx),ak (aj z hdx)];exact z) (aj z hx);have S3:=s3.seq S2;symm;intro q4 hq4;generalize hh:upd _ q4 _=H4;let⟨s4,e4⟩:=eQ hq4 hh;clear hh;have S4:=s4.seq S3;have q4':=Zx.of (K:=K) e4;symm;refine λy dy hy hdy ney=>⟨λ_=>none,0,y,x,dy,[2,2],L42,1,["ab"],1,0,e,rfl,λ_ z=>absurd rfl z,rfl,(by decide),(by decide),ok,ah,((SH3.same s4).same (Ey hy hdy)).same λb u z=>gG z rfl,g1,⟨by decide,by decide⟩,by decide,λO5 H5 M5 q5=>⟨rfl,?_⟩⟩;have S5:Zx K (v0 O5 H5) sc (ss.map V.int):=Zx.to S4 λu hu=>by
   let⟨z1,z2⟩:=q5 _ _ (by rw[ak (aj hu hy),ak (aj hu hdy)];exact hu) (aj hu hy);exact gG z1 z2
 exact Xh y O5 H5 e M5 S5
end
end K42
namespace L2
open PySem PySem.Spec PyProof.Rows
section
variable {P:zi->Prop}
def u0 (h:P []): ∀us:zi,us.length=0->P us
 | [],_=>h
def uS {n:Nat}(h:∀(a:Value) (us:zi),us.length=n->P (a::us)): ∀us:zi,us.length=n+1->P us
 | a::us,e=>h a us (acy e)
def u1 (h:∀a:Value,P [a]): ∀us:zi,us.length=1->P us:=uS λa=>u0 (h a)
def u2 (h:∀a b:Value,P [a,b]): ∀us:zi,us.length=2->P us:=uS λa=>u1 (P:=λus=>P (a::us)) (h a)
def u3 (h:∀a b c:Value,P [a,b,c]): ∀us:zi,us.length=3->P us:=uS λa=>u2 (P:=λus=>P (a::us)) (h a)
def u4 (h:∀a b c d:Value,P [a,b,c,d]): ∀us:zi,us.length=4->P us:=uS λa=>u3 (P:=λus=>P (a::us)) (h a)
def u5 (h:∀a b c d e:Value,P [a,b,c,d,e]): ∀us:zi,us.length=5->P us:=uS λa=>u4 (P:=λus=>P (a::us)) (h a)
def u6 (h:∀a b c d e f:Value,P [a,b,c,d,e,f]): ∀us:zi,us.length=6->P us:=uS λa=>u5 (P:=λus=>P (a::us)) (h a)
end
def BA (nm q:Str)(st:Stmt)(ps:zq): Prop:=∀(kV doc pm:Value) (an:zo) (cdv ct:Value) (us:zi),us.length=ps.length ->
 bindArgs (QF nm q (fW st) (dO st) (cQ st) .none kV doc pm an cdv ct) ⟨us,[]⟩=pure (ps.zip us)
section
variable {K:qv}{h:Heap}{mg:zf}{C f:Addr}{x m q:Str}{st:Stmt}{ps:zq}{oc kV doc pm cdv ct:Value}{od an:zo}{sl:zy}
def d8.of (X:K.In h)(G:h.Ns mainGlobals mg)(a:qY K mainGlobals x=some (some (.ref f)))(l:K.lookup f=some ⟨oc,od,.func (QF x x (fW st) (dO st) (cQ st) .none kV doc pm an cdv ct),sl⟩)
   (c:QG K cdv x=true) (k:QQ K (.ref f)=true) (b:BA x x st ps):d8 K mg x st ps [] :=
 ⟨f,oc,od,.none,kV,doc,pm,an,cdv,ct,sl,[],l,c,k,acd X G a,.all (b _ _ _ _ _ _),.nil⟩
def cN.of (e:Qd K (.ref C) m=some (some (.ref f)))(l:K.lookup f=some ⟨oc,od,.func (QF m q (fW st) (dO st) (cQ st) .none kV doc pm an cdv ct),sl⟩)
   (c:QG K cdv q=true) (k:QQ K (.ref f)=true) (i:adx K (.ref f)=true) (b:BA m q st ps):cN K C m q st ps [] :=
 ⟨f,oc,od,.none,kV,doc,pm,an,cdv,ct,sl,[],l,c,⟨e,i,k⟩,.all (b _ _ _ _ _ _),.nil⟩
def jE.of (e:Qd K (.ref C) "__init__" = some (some (.ref f))) (l:K.lookup f=some ⟨oc,od,.func (QF "__init__" q (fW st) (dO st) (cQ st) .none kV doc pm an cdv ct),sl⟩)
   (c:QG K cdv q=true) (k:W.makesIn K C=true) (i:adx K (.ref f)=true) (kc:QQ K (.ref C)=true) (b:BA "__init__" q st ps):jE K C q st ps [] :=
 ⟨f,oc,od,.none,kV,doc,pm,an,cdv,ct,sl,[],l,c,⟨k,e,i,kc⟩,.all (b _ _ _ _ _ _),.nil⟩
def XL.mk' {bm N nm qn bs sn sub ab col dd k0 k1 k2 k3 k5} (l:K.lookup C=some (excClassObj nm qn C N bs bm true sn sub ab col dd k0 k1 k2 k3 k5 "ValueError.__new__")) (r:I9 bm=true):XL K C :=
 ⟨bm,N,nm,qn,bs,sn,sub,ab,col,dd,k0,k1,k2,k3,k5,l,r⟩
end
end L2
namespace K42
open PySem L2 Gm Gn
def all_mk {l:W.OpenLaw} {w:World} {K:qv} {h:Heap} {mg:zf} {fa fG pe d7 eI ki jC iL eO fH iu lC iM gA pP cP fK lD dG dN fL dH iY fJ eJ fN ic gJ eW hJ eR fq eK nO jk f24 f25 f33 f34 f60 Xi f74 Xj O9 Te Vj:Addr} (X:K.In h) (G:h.Ns mainGlobals mg) (hfa:mg "law" = some (.ref fa))
  {YN YQ YR YS YT YV YW YX YY YZ Y0 Y1 Xk Xl Xm Tf:zo} {Y4 Y5 Y6 Y7 Y8 Y9 Xn Xo:zy} {Y_ aac aad aae Xp aaf aag aah aai aaj Xq aak aal aam aan aao Xr aap aaq aar aas aat Xs aau aav aaw aax aay Xt aaz aaA aaB aaC aaD Xu aaE Xv Xw Xx Xy Tg Xz XA Ti Tj Tl O_ Tn:Value}
  {XB:Value} {XC:zo} {XD:Nat} {Vk:zy} {Vl:Tok}
  {XE:Value} {XF:zo} {XG:Nat} {Vm:zy} {Vn:Tok}
  {Vo:Value} {Vp:zo} {Vq:Nat} {Sq:zy} {Sr:Tok}
  {JA JB JC JD JE JF JG JH:Tok}
  {L9:zo} {L_:Nat} {Ma:zy}
  {Az yv AA yw Cy yx AB Cz CB Gk CD:Tok}
  (Pn:qY K mainGlobals "LeafError" = some (some (.ref fG)))
  (To:qY K mainGlobals "NoShape" = some (some (.ref pe)))
  (Pp:qY K mainGlobals "NoAddress" = some (some (.ref d7)))
  (Pq:qY K mainGlobals "NoStretch" = some (some (.ref eI)))
  (Ss:qY K mainGlobals "NoNumber" = some (some (.ref ki)))
  (XH:qY K mainGlobals "Full" = some (some (.ref jC)))
  (Vr:qY K mainGlobals "NoWord" = some (some (.ref iL)))
  (Sv:qY K mainGlobals "NoRights" = some (some (.ref eO)))
  (Vs:qY K mainGlobals "NoTask" = some (some (.ref fH)))
  (Vt:qY K mainGlobals "NoName" = some (some (.ref iu)))
  (Tp:qY K mainGlobals "NoShare" = some (some (.ref lC)))
  (Vu:qY K mainGlobals "Unlike" = some (some (.ref iM)))
  (Vz:qY K mainGlobals "Taken" = some (some (.ref gA)))
  (VA:qY K mainGlobals "Fault" = some (some (.ref pP)))
  (Sw:qY K mainGlobals "Unmapped" = some (some (.ref cP)))
  (Vv:qY K mainGlobals "Barred" = some (some (.ref fK)))
  (XI:qY K mainGlobals "Leaf" = some (some (.ref lD)))
  (VB:qY K mainGlobals "Fresh" = some (some (.ref dG)))
  (XJ:qY K mainGlobals "Held" = some (some (.ref dN)))
  (XY:qY K mainGlobals "Out" = some (some (.ref fL)))
  (VC:qY K mainGlobals "Named" = some (some (.ref dH)))
  (XM:qY K mainGlobals "Hand" = some (some (.ref iY)))
  (Vw:qY K mainGlobals "Counts" = some (some (.ref fJ)))
  (VD:qY K mainGlobals "Store" = some (some (.ref eJ)))
  (XN:qY K mainGlobals "Pool" = some (some (.ref fN)))
  (XQ:qY K mainGlobals "Near" = some (some (.ref ic)))
  (VE:qY K mainGlobals "Share" = some (some (.ref gJ)))
  (Vx:qY K mainGlobals "Shares" = some (some (.ref eW)))
  (XR:qY K mainGlobals "Tree" = some (some (.ref hJ)))
  (VF:qY K mainGlobals "Space" = some (some (.ref eR)))
  (Vy:qY K mainGlobals "Memory" = some (some (.ref fq)))
  (VG:qY K mainGlobals "Shape" = some (some (.ref eK)))
  (yy:W.findCls K (.ref lD) (.type "type") "__init__" = some (.val (.ref f24)))
  (Sx:W.readsIn K lD (.type "type")=true)
  (Sy:acU K (.ref lD) "__getattribute__" = some (some (.builtin "type.__getattribute__")))
  (xx:Qd K (.ref dG) "__init__" = some (some (.ref f24)))
  (tT:Qd K (.ref cP) "__init__" = some (some (.ref f34)))
  (Gp:Qd K (.ref dG) "may" = some (some (.ref f25)))
  (Ik:Qd K (.ref dN) "may" = some (some (.ref f25)))
  (JI:Qd K (.ref fL) "may" = some (some (.ref f25)))
  (Gq:Qd K (.ref dH) "may" = some (some (.ref f25)))
  (vF:Qd K (.ref fK) "__init__" = some (some (.ref f34)))
  (xA:Qd K (.ref gA) "__init__" = some (some (.ref f33)))
  (AF:Qd K (.ref fJ) "taken" = some (some (.ref f60)))
  (DT:Qd K (.ref eJ) "made" = some (some (.ref f74)))
  (vG:Qd K (.ref fq) "__init__" = some (some (.ref O9)))
  (l24:K.lookup f24=some ⟨Y_,YN,.func (QF "__init__" "Leaf.__init__" (fW (cS 22 0)) (dO (cS 22 0)) (cQ (cS 22 0)) .none aac aad aae YQ Xp aaf),Y4⟩)
  (c24:QG K Xp "Leaf.__init__" = true)
  (k24:QQ K (.ref f24)=true)
  (i24:adx K (.ref f24)=true)
  (l25:K.lookup f25=some ⟨aag,YR,.func (QF "may" "Leaf.may" (fW (cS 22 1)) (dO (cS 22 1)) (cQ (cS 22 1)) .none aah aai aaj YS Xq aak),Y5⟩)
  (c25:QG K Xq "Leaf.may" = true)
  (k25:QQ K (.ref f25)=true)
  (i25:adx K (.ref f25)=true)
  (l33:K.lookup f33=some ⟨aal,YT,.func (QF "__init__" "Taken.__init__" (fW (cS 14 0)) (dO (cS 14 0)) (cQ (cS 14 0)) .none aam aan aao YV Xr aap),Y6⟩)
  (c33:QG K Xr "Taken.__init__" = true)
  (k33:QQ K (.ref f33)=true)
  (i33:adx K (.ref f33)=true)
  (l34:K.lookup f34=some ⟨aaq,YW,.func (QF "__init__" "Fault.__init__" (fW (cS 15 0)) (dO (cS 15 0)) (cQ (cS 15 0)) .none aar aas aat YX Xs aau),Y7⟩)
  (c34:QG K Xs "Fault.__init__" = true)
  (k34:QQ K (.ref f34)=true)
  (i34:adx K (.ref f34)=true)
  (l60:K.lookup f60=some ⟨aav,YY,.func (QF "taken" "Counts.taken" (fW (cS 32 1)) (dO (cS 32 1)) (cQ (cS 32 1)) (.ref Xi) aaw aax aay YZ Xt aaz),Y8⟩)
  (c60:QG K Xt "Counts.taken" = true)
  (k60:QQ K (.ref f60)=true)
  (i60:adx K (.ref f60)=true)
  (aaF:K.lookup Xi=some ⟨XB,XC,.seq #[.int 1 Vl] XD,Vk⟩)
  (l74:K.lookup f74=some ⟨aaA,Y0,.func (QF "made" "Store.made" (fW (cS 37 3)) (dO (cS 37 3)) (cQ (cS 37 3)) (.ref Xj) aaB aaC aaD Y1 Xu aaE),Y9⟩)
  (c74:QG K Xu "Store.made" = true)
  (k74:QQ K (.ref f74)=true)
  (i74:adx K (.ref f74)=true)
  (aaG:K.lookup Xj=some ⟨XE,XF,.seq #[.int 1 Vn] XG,Vm⟩)
  (aaH:K.lookup O9=some ⟨Xv,Xk,.func (QF "__init__" "Memory.__init__" (fW (cS 67 0)) (dO (cS 67 0)) (cQ (cS 67 0)) (.ref Te) Xw Xx Xy Xl Tg Xz),Xn⟩)
  (aaI:QG K Tg "Memory.__init__" = true)
  (aaU:QQ K (.ref O9)=true)
  (aaJ:adx K (.ref O9)=true)
  (XS:K.lookup Te=some ⟨Vo,Vp,.seq #[.int 0 Sr] Vq,Sq⟩)
  (aaK:qY K mainGlobals "law" = some (some (.ref Vj)))
  (aaL:K.lookup Vj=some ⟨XA,Xm,.func (QF "law" "law" (fW my) (dO my) (cQ my) .none Ti Tj Tl Tf O_ Tn),Xo⟩)
  (aaM:QG K O_ "law" = true)
  (aaV:QQ K (.ref Vj)=true)
  (Pa:W.makesIn K dG=true)
  (Pb:QQ K (.ref dG)=true)
  (Mb:W.makesIn K fq=true)
  (Md:QQ K (.ref fq)=true)
  (VH:qY K mainGlobals "NEEDED" = some (some (.ref jk)))
  (XT:qY K mainGlobals "SIZES" = some (some (.ref nO)))
  (Pg:K.lookup nO=some ⟨.type "tuple",L9,.seq #[.int 0 JA,.int 1 JB,.int 2 JC,.int 4 JD,.int 8 JE,.int 16 JF,.int 32 JG,.int 64 JH] L_,Ma⟩)
  (TA:@TxA ⟨w,K,mg⟩ ⟨fG,pe,d7,eI,ki,jC,iL,eO,fH,iu,lC,iM,gA,pP,cP,fK,lD,dG,dN,fL,dH,iY,fJ,eJ,fN,ic,gJ,eW,hJ,eR,fq,eK,nO,jk⟩)
  (n8:qY K jk "read" = some (some (.int 1 Az)))
  (mY:qY K jk "write" = some (some (.int 2 yv)))
  (n9:qY K mainGlobals "MOST_FRAMES" = some (some (.int 64 AA)))
  (mZ:qY K mainGlobals "MOST_NUMBERS" = some (some (.int 64 yw)))
  (pQ:qY K mainGlobals "MOST_WORDS" = some (some (.int 64 Cy)))
  (m4:qY K mainGlobals "MOST_LETTERS" = some (some (.int 8 yx)))
  (n_:qY K mainGlobals "BOTH_RIGHTS" = some (some (.int 3 AB)))
  (pR:qY K mainGlobals "READ_ALONE" = some (some (.int 1 Cz)))
  (pS:qY K mainGlobals "MOST_WIDTH" = some (some (.int 24 CB)))
  (uY:qY K mainGlobals "MOST_LOW" = some (some (.int 6 Gk)))
  (pT:qY K mainGlobals "MOST_PAGES" = some (some (.int 64 CD))) :
  ∃fd:FuncData,(∀(s:Shared) (v:Value),BindsTo s fd ⟨[v],[]⟩ [("_law_script",v)])/\∀base:Heap,K.In base->base.Ns mainGlobals mg->lw l.prog w K mg base (CXE l.prog w) 15 fa fd ["_law_script"] (KE K):=by
 have e:=hfa.symm.trans (acd X G aaK);cases e
 letI G1:Gm:=⟨w,K,mg⟩
 have T:Zq ⟨fG,pe,d7,eI,ki,jC,iL,eO,fH,iu,lC,iM,gA,pP,cP,fK,lD,dG,dN,fL,dH,iY,fJ,eJ,fN,ic,gJ,eW,hJ,eR,fq,eK,nO,jk⟩:=⟨TA,⟨_,n8⟩,⟨_,mY⟩,⟨_,acd X G n9⟩,⟨_,acd X G mZ⟩,⟨_,acd X G pQ⟩,λ_=>.inr ⟨_,_,_,Pg,rfl,rfl,K8 (n:=8) rfl,(.cons ⟨_,rfl⟩ (.cons ⟨_,rfl⟩ (.cons ⟨_,rfl⟩ (.cons ⟨_,rfl⟩ (.cons ⟨_,rfl⟩ (.cons ⟨_,rfl⟩ (.cons ⟨_,rfl⟩ (.cons ⟨_,rfl⟩ .nil))))))))⟩,⟨_,acd X G m4⟩,⟨_,acd X G n_⟩,⟨_,acd X G pR⟩,⟨_,acd X G pS⟩,⟨_,acd X G uY⟩,⟨_,acd X G pT⟩⟩;refine⟨QF "law" "law" (fW my) (dO my) (cQ my) .none Ti Tj Tl Tf O_ Tn,λs v=>.of_eq rfl,λbase _ _=>?_⟩
 letI G0:Gn:={ w:=w,K:=K,mg:=mg,P:=l.prog,base:=base }
 have kZ:=vg T;have jH:=wV T kZ;have mq:=yp T;have mw:=yq T jH mq;have gE:=Dh T;have mx:=yr T;have k_:=vy T;have li:=vA (Zz:=[]) ⟨O9,_,_,_,_,_,_,_,_,_,_,[],aaH,aaI,⟨Mb,vG,aaJ,Md⟩,(λs us XX hl=>by rw[abC] at hl;revert us;exact L2.u5 λ_ _ _ _ _=>W.binds_K XX rfl XS rfl rfl rfl),.nil⟩ T mw gE mx k_;have lr:=Ax T;have og:=BJ T;have lN:=wy T og;have ib:=vo T;have mh:=yg T;have iE:=wF T mh;have rQ:=DI T ib iE;have eG:=HX T;have hX:=BK T;have dR:=yd T hX;have iN:=Ad T;have eY:=pU T iN hX gE;have jU:=sN T;have sP:=FN T eY jU;have hU:=ug T iN hX gE;have gQ:=Ae T sP hU;have sT:=FO T gQ;have gF:=Di T sT;have lH:=NC (Zz:=[]) (ds:=[]) (wD l33 c33 T) (yG.of T.G5 xA i33) (.all (u2 λ_ _=>rfl)) .nil;have ve:=HH T gQ;have gZ:=FU T ve;have kH:=FV T dR gF lH gZ;have gw:=Ah T;have gm:=V9 (Zz:=[]) (ds:=[]) (pB l24 c24 T gw) ⟨Pa,xx,i24,Pb⟩ (.all (u2 λ_ _=>rfl)) .nil;have iA:=Ge T eG dR kH gm;have gU:=NC (Zz:=[]) (ds:=[]) (nQ l34 c34 T) (yG.of T.sK tT i34) (.all (u4 λ_ _ _ _=>rfl)) .nil;have gH:=si T gF gU hU;have mj:=yi T gm;have gk:=V_ (Zz:=[]) (ds:=[]) (pB l24 c24 T gw) ⟨Sy,⟨_,Sx,yy⟩,k24⟩ (.all (u2 λ_ _=>rfl)) .nil;have eP:=yh T gk;have m9:=Aj T eP;have jd:=Ai T gk;have oh:=BQ T jd;have iD:=wB T gk;have mn:=yj T iD;have nE:=Am T dR gw gH gZ mj m9 oh mn gF;have gq:=wW T;have jJ:=DC T gq;have oJ:=B9 T jJ gq;have je:=Aw T dR oJ;have iU:=yu T nE eG je;have p0:=Dq T;have jo:=BZ T p0;have lI:=wL T gm;have gR:=An T;have rD:=Dr T jo lI gR;have ju:=Ci T eG dR gw jo kH iD rD;have iT:=yb T eY;have pW:=RF T;have jO:=DJ T jJ iT pW;have ym:=Jv T;have iy:=Ds T ym;have kF:=FX T;have cX:=sj T kF;have gW:=tm T cX;have tE:=F1 T gW iy;have iW:=F2 T;have lK:=HR T tE iW;have gp:=wz T eY gE;have sV:=Kb (Zz:=[]) (ds:=[]) (nP l25 c25 T pW) ⟨Gp,i25,k25⟩ (.all (u2 λ_ _=>rfl)) .nil;have vf:=Kb (Zz:=[]) (ds:=[]) (nP l25 c25 T pW) ⟨Ik,i25,k25⟩ (.all (u2 λ_ _=>rfl)) .nil;have yk:=Kb (Zz:=[]) (ds:=[]) (nP l25 c25 T pW) ⟨JI,i25,k25⟩ (.all (u2 λ_ _=>rfl)) .nil;have sW:=Kb (Zz:=[]) (ds:=[]) (nP l25 c25 T pW) ⟨Gq,i25,k25⟩ (.all (u2 λ_ _=>rfl)) .nil;have kW:=NC (Zz:=[]) (ds:=[]) (nQ l34 c34 T) (yG.of T.Em vF i34) (.all (u4 λ_ _ _ _=>rfl)) .nil;have jP:=Dk T iT gF gU sV vf yk sW kW gp;have oA:=BV T;have jf:=As T oA;have lQ:=B4 T cX kF;have jL:=DA T lQ;have jY:=tM T jL;have lR:=B3 T cX;have rJ:=DB T lR;have gX:=tj T iy;have jq:=B0 T;have jj:=Dv T jq;have kG:=F3 T jj;have ou:=B6 T;have p9:=Dy T;have m_:=Ao (Zz:=[]) ⟨f60,_,_,_,_,_,_,_,_,_,_,[],l60,c60,⟨AF,i60,k60⟩,(λs us XX hl=>by rw[abC] at hl;revert us;exact L2.u2 λ_ _=>W.binds_K XX rfl aaF rfl rfl rfl),.nil⟩ T jq;have jG:=Dz (Zz:=[]) ⟨f74,_,_,_,_,_,_,_,_,_,_,[],l74,c74,⟨DT,i74,k74⟩,(λs us XX hl=>by rw[abC] at hl;revert us;exact L2.u3 λ_ _ _=>W.binds_K XX rfl aaG rfl rfl rfl),.nil⟩ T gX m_;have nh:=Ap T jj ou p9 jG;have kY:=vi T jG iW;have tO:=F5 T gX kG nh kY;have gY:=tH T;have tL:=Gc T;have oC:=BX T;have rj:=DE T;have jt:=B_ T gY tL oC rj;have ot:=B2 T cX;have mK:=Dx T ot;have oz:=B5 T;have tK:=F8 T mK oz;have iF:=wZ T gY;have iO:=Av T tK iF;have vq:=HS T jd eP;have oO:=Ck T rJ tO jt iO vq eP;have nG:=Aq T;have jM:=DK T nG jt eP;have k9:=vt T jf jY oO jM lK;have rH:=Dp T;have oP:=Cj T rH gZ eG;have tN:=F_ T gq;have jN:=DL T jL eP tN;have jQ:=DN T eG jO iy lK gp jP k9 oP jN;have rM:=DP T;have vD:=Ic T rM;have nH:=Ay T;have la:=vB T;have lM:=xk T nH la;have rO:=HY T;have lW:=Gb T kG;have lh:=DF T;have m6:=Af T;have FT:=Oj T;have sY:=FR T gQ m6 FT;have rB:=Dl T dR gH sY;have oG:=BW T gR;have jK:=DH T oG iO;have i3:=Cg T rB eG je jK;have p8:=Du T gW;have kI:=F4 T p8 iW;have rK:=DM T jf jM jN kI;have kJ:=Gf T eG jO kI gp jP rK;have lE:=wA T;have sU:=FP T lE;have iw:=Dj T sU;have oE:=BU T gR;have oo:=B1 T cX;have mJ:=Dw T oo;have tJ:=F6 T mJ;have nB:=Au T tJ iF;have rp:=DG T oE nB;have rq:=Dm T iE iw gZ;have tS:=Gd T eG ib iw rp rq;have ky:=uh T;have lL:=H_ T eG iw jK ky;have oQ:=Cp T iA i3 iU ju kJ jQ tS lL;have rN:=DQ T;have rP:=DR T oQ rN;have vE:=Ij T;have oR:=Cw T i3 iA lL
 have mM:=DS T vD lM rO lW lh rP vE oR kJ;exact Vi aaL aaM T li lr lN rQ iA iU ju jQ mM
def walk {l:W.OpenLaw}{q:Program}{loose:zq}{XP:(Str->Option Value)->Heap->Prop}{YP:World->Heap->Prop}{d:DefRec}{K:Params->qv}(hn:l.most=some 63)(hdf:d.params.defaults=[])
  (hY:∀(w:World) (h:Heap),YP w h->(K w.params).In h)
  (F:∀(w:World) (mg:zf) (fa:Addr) (h:Heap),(K w.params).In h->h.Ns mainGlobals mg->mg d.name=some (.ref fa) ->
   ∃fd:FuncData,(∀(s:Shared) (u:Value),BindsTo s fd ⟨[u],[]⟩ [("_law_script",u)])/\∀base:Heap,(K w.params).In base->base.Ns mainGlobals mg->lw l.prog w (K w.params) mg base (CXE l.prog w) 15 fa fd ["_law_script"] (KE (K w.params))) :
  W.WalkO q loose XP YP l.row.toRowW d [] (λf vs=>aeR f vs) :=
 L2.PJ (n:=63) (k:=15) (x := "_law_script") (CX:=λw=>CXE l.prog w) (sp:=λw=>KE (K w.params)) hn (by decide) hdf ⟨rfl,by decide,by decide⟩ hY F (λ_ _ a ns hl _ hS=>⟨a,ns,rfl,hS,hl,λ_=>rfl⟩) λ_ _ _ _ _ z=>by
  let⟨_,_,_,_,_,_,_,_,_,_,q⟩:=z;exact q
end K42
local macro_rules | `(tactic| walk_at "bu") => `(tactic| first | exact fun _ _ _ _ _ _ => L2.u1 fun _ => rfl | exact fun _ _ _ _ _ _ => L2.u2 fun _ _ => rfl | exact fun _ _ _ _ _ _ => L2.u3 fun _ _ _ => rfl | exact fun _ _ _ _ _ _ => L2.u4 fun _ _ _ _ => rfl | exact fun _ _ _ _ _ _ => L2.u5 fun _ _ _ _ _ => rfl | exact fun _ _ _ _ _ _ => L2.u6 fun _ _ _ _ _ _ => rfl | exact fun _ _ _ _ _ _ => L2.u7 fun _ _ _ _ _ _ _ => rfl | exact fun _ _ _ _ _ _ => L2.u8 fun _ _ _ _ _ _ _ _ => rfl | exact fun _ _ _ _ _ _ => L2.u9 fun _ _ _ _ _ _ _ _ _ => rfl | exact fun _ _ _ _ _ _ => L2.u0 rfl)
local macro_rules | `(tactic| walk_at "zz") => `(tactic| first | (with_reducible show (_ == PySem.sysModules) = false; exact rfl) | (refine' L2.NeC.mk ?a ?b ?c; (case a => k_is); (case b => k_is); (case c => k_is)) | (refine' L2.cN.of ?a ?l ?c ?k ?i ?b; (case a => k_is); (case l => k_is); (case c => k_is); (case k => k_is); (case i => k_is); (case b => walk_at "bu")) | (refine' L2.d8.of (by assumption) (by assumption) ?a ?l ?c ?k ?b; (case a => k_is); (case l => k_is); (case c => k_is); (case k => k_is); (case b => walk_at "bu")) | (refine' L2.jE.of ?a ?l ?c ?k ?i ?j ?b; (case a => k_is); (case l => k_is); (case c => k_is); (case k => k_is); (case i => k_is); (case j => k_is); (case b => walk_at "bu")) | (refine' L2.Zw.mk ?a ?b ?c ?d <;> k_is) | (refine' L2.XIs.mk ?a ?b ?c ?d ?e ?f <;> k_is) | (refine' L2.XL.mk' ?a ?b; (case a => k_is); (case b => first | rfl | decide +kernel)) | k_is | kit_is | k_exc | k_keys | rfl)
local macro_rules | `(tactic| walk_at "zr") => `(tactic| ((case a => k_is); (case b => (refine' PySem.W.mg_of (by assumption) (by assumption) ?_; k_is)); (case c => k_is); (case d => k_is)))
local macro_rules | `(tactic| walk_at "zk") => `(tactic| first | exact L2.KtL.n | (refine' L2.KtL.c ?_ ?_; ((try dsimp only); kit_is); (walk_at "zk")))
local macro_rules | `(tactic| walk_at "zt") => `(tactic| first | ((with_reducible show L2.KtL _ _ _ _); walk_at "zk") | (refine' L2.sf.of ?a ?b ?c; (case a => walk_at "zz"); (case b => k_is); (case c => k_is)) | (refine' L2.vX.of ?a ?b ?c ?d; (case a => walk_at "zz"); (case b => k_is); (case c => k_is); (case d => k_is)) | (refine' L2.NB.mk ?a ⟨PySem.Value.type "type",?b,?c⟩; (case a => k_is); (case b => k_is); (case c => k_is)) | ((with_reducible show L2.aaN _ _ _); refine' L2.XU ?a ?b; (case a => k_is); (case b => first | rfl | decide +kernel)) | ((with_reducible show ∃ _ _ _,_); first | (refine' L2.aaO ?a ?b ?c ?d; walk_at "zr") | (refine' L2.aaP ?a ?b ?c ?d; walk_at "zr")) | ((with_reducible show L2.bK _ _ _); show PySem.W.findIn _ _ _ = _; k_is) | ((with_reducible show L2.sH _ _); show PySem.W.excIn _ _ _ _ = _; k_exc) | (refine' PySem.W.mg_of (by assumption) (by assumption) ?_; k_is) | (refine' PySem.W.mg_none_of (by assumption) (by assumption) ?_; k_is) | (refine' L2.gT ?a ?b ?c ?d ?e; (case a => walk_at "zz"); (case b => k_is); (case c => k_is); (case d => k_is); (case e => k_is)) | (refine' L2.IsK.mk ?a ?b; (case a => k_is); (case b => k_is)) | (refine' L2.gD ?a ?b ?c; (case a => k_is); (case b => k_keys); (case c => rfl)) | walk_at "zz")
open PySem PySem.W PyProof.Rows
set_option maxRecDepth 100000 in
set_option maxHeartbeats 0 in
theorem PySem.Challenge.cw_leafframe_k42_refused_in_order_holds : PySem.Challenge.rw_leafframe_k42_refused_in_order.Holds := by
 refine K42.hd ?_
 k_fill
 refine K42.walk (l:=PySem.Challenge.rw_leafframe_k42_refused_in_order) rfl rfl (λw h Y=>L2.Tq Y) ?F
 case F =>
  intro w mg fa h KX G hmg;apply K42.all_mk KX G hmg
  all_goals first | (apply @K42.TxA.mk ⟨w,_,mg⟩<;>(try dsimp only)<;>walk_at "zt") | walk_at "zz" | skip
  all_goals first | rfl | exact rfl | decide