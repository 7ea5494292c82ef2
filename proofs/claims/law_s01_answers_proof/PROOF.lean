import PyProof.Rows.All
import Wide.All
import OpenK.AllK
import Wide.FinOn
import PyProof.EqAt
import PyProof.EqKinds
import PyProof.TupleCall
import KE.BitLaws
import KE.KLam
import KE.OsHead
import KE.OsGo
import Open.SpecLaws
import KE.KNest
import VbkoacSpec
import PySem.Challenge.RW_papersonpapers_s01_answers
import PyProof.ConsumeWalk
import KE.KDictList
import PyProof.Rows.SetFrom
import PyProof.CollectWalk
import PyProof.Rows.SortShellAny
import PyProof.EnumMake
import PyProof.Draws
import KE.KSortKeySt
set_option Elab.async false
set_option linter.all false
set_option maxRecDepth 100000
set_option maxHeartbeats 4000000
theorem Z.{u}{α:Sort u}{a:α}:a=a:=rfl
theorem zL{n:Nat}(h:Nat.ble n 1000=true):n<=PySem.sizeLine:=by rw[PySem.sizeLine_eq];have:=Nat.le_of_ble_eq_true h;omega
section
open PySem PySem.Spec PyProof.Rows PySem.W
def aiQ:=@List.length_map
def aiR:=@wpAny_bind
def aiS:=@List.mem_cons_of_mem
def aiT:=@List.length_append
def aiU:=@List.mem_singleton
def aiV:=@List.mem_cons_self
def aiW:=@List.getElem?_eq_getElem
def aiX:=@Heap.get?_push_of_some
def aiY:=@List.map_append
def aiZ:=@List.mem_cons
def ai0:=@if_neg
def ai1:=@List.mem_of_getElem?
def ai2:=@Nat.le_refl
def ai3:=@List.getElem?_eq_some_iff
def ai4:=@wpAny_pure
def ai5:=@if_pos
def ai6:=@sizeLine_eq
def ai7:=@List.mem_map
def ai8:=@decide_eq_true
def ai9:=@List.take_length
def aja:=@of_decide_eq_true
def ajb:=@List.length_take
def ajc:=@List.length_cons
def ajd:=@List.getElem?_map
def aje:=@Heap.get?_push_size
def ajf:=@Heap.lt_size
def ajg:=@Bool.false_ne_true
def ajh:=@List.mem_append
def aji:=@List.map_cons
def ajj:=@List.size_toArray
def ajk:=@List.length_filter_le
def ajl:=@decide_eq_false
def ajm:=@PassesOwn.never
def ajn:=@Bool.and_eq_true
def ajo:=@Nat.zero_le
def ajp:=@List.contains_iff_mem
def ajq:=@Nat.le_trans
def ajr:=@Option.some.inj
def ajs:=@List.append_nil
def ajt:=@beq_eq_false_iff_ne
def aju:=@PySem.F.plainAttrs_list
def ajv:=@Array.length_toList
def ajw:=@Bool.eq_iff_iff
def ajx:=@Nat.lt_of_lt_of_le
def ajy:=@List.mem_filter
def ajz:=@List.lookup_cons
def ajA:=@List.all_eq_true
def ajB:=@Nat.ne_of_lt
def ajC:=@Ne.symm
def ajD:=@List.flatMap_cons
def ajE:=@List.append_assoc
def ajF:=@intKind_is
def ajG:=@List.find?_cons
def ajH:=@List.mem_flatMap
def ajI:=@List.mem_append_right
def ajJ:=@PySem.mem_of_lookup
def ajK:=@PySem.boot_len
def ajL:=@PySem.F.type_list_append
def ajM:=@PySem.F.slot_list_append
def ajN:=@List.getD_eq_getElem?_getD
def ajO:=@Heap.size_push
def ajP:=@List.nodup_cons
def ajQ:=@decide_eq_true_eq
def ajR:=@Nat.lt_of_le_of_lt
def ajS:=@Heap.SameBut.update
def ajT:=@List.filter_cons_of_pos
def ajU:=@Array.getElem?_eq_getElem
def ajV:=@List.pairwise_cons
def ajW:=@List.not_mem_nil
def ajX:=@List.any_eq_true
def ajY:=@List.getElem_of_mem
def ajZ:=@List.filterMap_cons
def aj0:=@List.map_map
def aj1:=@List.mem_append_left
def aj2:=@Option.isSome_map
def aj3:=@List.take_append_drop
def aj4:=@Array.getElem?_toList
def aj5:=@Nat.lt_irrefl
def aj6:=@List.map_congr_left
def aj7:=@List.length_range
def aj8:=@List.filter_append
def aj9:=@List.flatMap_append
def aka:=@beq_self_eq_true
def akb:=@List.filter_cons_of_neg
def akc:=@congrArg
def akd:=@wpAny_Call_Name_kw
def ake:=@wpAny_mono
def akf:=@wpAny_newObj_type
def akg:=@List.find?_eq_none
def akh:=@wpAny_call_entry
def aki:=@Nat.le_of_lt
def akj:=@List.cons_append
def akk:=@List.mem_of_find?_eq_some
def akl:=@Heap.get?_update_self
def akm:=@PySem.F.type_list_extend
def akn:=@PySem.F.slot_list_extend
def ako:=@List.nodup_nil
def akp:=@Bool.and_false
def akq:=@F.slot_dict_keyiterator_next
def akr:=@Bool.false_eq_true
def aks:=@decide_eq_decide
def akt:=@List.length_drop
def aku:=@wpAny_holding
def akv:=@Bool.true_and
def akw:=@wpAny_truthy_bool
def akx:=@List.take_succ_eq_append_getElem
def aky:=@List.take_of_length_le
def akz:=@List.nodup_append
def akA:=@List.filter_congr
def akB:=@Bool.false_and
def akC:=@Nat.le_succ
def akD:=@List.mem_range
def akE:=@wpAny_setState_of
def akF:=@wpAny_callSpecial?_slot
def akG:=@List.foldl_cons
def akH:=@codeAny_mono
def akI:=@Nat.lt_succ_self
def akJ:=@List.mem_flatten
def akK:=@List.getElem_mem
def akL:=@List.mem_filterMap
def akM:=@List.getElem_range
def akN:=@List.filterMap_append
def akO:=@Nat.min_eq_left
def akP:=@List.nil_append
def akQ:=@List.length_zip
def akR:=@wpAny_pyIter_list
def akS:=@W.mg_none_of
def akT:=@Nat.lt_succ_of_lt
def akU:=@List.mem_of_mem_take
def akV:=@List.flatten_cons
def akW:=@List.any_eq_false
def akX:=@Bool.eq_false_iff
def akY:=@beq_iff_eq
def akZ:=@Option.isSome_iff_exists
def ak0:=@List.any_cons
def ak1:=@List.flatten_append
def ak2:=@wpAny_setField
def ak3:=@or_false
def ak4:=@Nat.succ_le_succ
def ak5:=@Nat.le_add_right
def ak6:=@wpAny_typeNameOfWhole_keyiter
def ak7:=@Calls.spliced_cons
def ak8:=@Array.getElem?_eq_none
def ak9:=@wpAny_passesOwn
def ala:=@codeAny_builtin
def alb:=@Nat.not_lt_zero
def alc:=@List.range_succ
def ald:=@List.find?_some
def ale:=@List.all_cons
def alf:=@PyProof.Rows.callWith_type1
def alg:=@List.getElem_take
def alh:=@Bool.not_eq_true'
def ali:=@if_false
def alj:=@List.mem_iff_getElem
def alk:=@Around.under_plainId
def alm:=@Nat.le_max_right
def aln:=@F.called_set
def alo:=@List.pairwise_iff_getElem
def alp:=@List.getElem?_append_left
def alq:=@PyProof.Rows.F.plain_set_update_loop
def alr:=@List.filter_sublist
def als:=@wpAny_typeNameOf_keyiter
def alu:=@wpAny_attempt
def alv:=@List.length_filterMap_le
def alw:=@wpAny_loadPart'
def alx:=@List.of_mem_zip
def aly:=@List.filter_map
def alz:=@List.Nodup.sublist
def alA:=@decide_eq_false_iff_not
def alB:=@List.length_eq_zero_iff
def alC:=@List.getElem?_cons_zero
def alD:=@Nat.ne_of_gt
def alE:=@Nat.le_of_eq
def alF:=@List.foldl_append
def alG:=@List.find?_append
def alH:=@List.all_map
def alI:=@Int.toNat_natCast
def alJ:=@Calls.spliced_nil
def alK:=@List.getElem?_eq_none
def alL:=@List.getElem_map
def alM:=@listUpdate_at
def alN:=@Nat.lt_or_ge
def alO:=@Array.getD_eq_getD_getElem?
def alP:=@wpAny_call
def alQ:=@tupleKind_room_in1
def alR:=@List.zip_cons_cons
def alS:=@List.getElem?_append_right
def alT:=@List.drop_eq_getElem_cons
def alU:=@Classical.byContradiction
def alV:=@wpAny_pyIter_slot
def alW:=@Nat.le_of_succ_le
def alX:=@wpAny_standAt
def alY:=@wpAny_isInstance
def alZ:=@Nat.add_sub_cancel_left
def al0:=@List.map_flatMap
def al1:=@List.getElem?_cons_succ
def al2:=@if_true
def al3:=@Option.map_eq_some_iff
def al4:=@Nat.lt_trans
def al5:=@List.map_nil
def al6:=@List.getElem?_set_self
def al7:=@List.filter_eq_nil_iff
def al8:=@Heap.get?_update_other
def al9:=@wpAny_execs_nil
def ama:=@pushCells_keeps
def amb:=@get?_update_seq
def amc:=@Option.map_some
def amd:=@Nat.le_max_left
def ame:=@List.take_left'
def amf:=@Bool.or_eq_true
def amg:=@wpAny_of_eq
def amh:=@codeAny_call_builtin
def ami:=@Prod.ext
def amj:=@List.pairwise_append
def amk:=@List.map_id
def aml:=@List.getElem?_set_ne
def amm:=@List.getElem?_of_mem
def amn:=@List.drop_zero
def amo:=@List.drop_drop
def amq:=@W.mg_of
def amr:=@PyProof.Rows.F.entry_set_update_loop
def ams:=@List.filter_eq_self
def amt:=@List.drop_succ_cons
def amu:=@plainId_quiet
def amv:=@List.map_drop
def amw:=@SeqAt.EqAt.int_int
def amx:=@List.contains_cons
def amy:=@wpAny_dictEntries
def amz:=@fits_of_scanBound
def amA:=@Option.some.injEq
def amB:=@Nat.lt_trichotomy
def amC:=@List.length_filter_eq_length_iff
def amD:=@List.any_map
def amE:=@List.all_eq_false
def amF:=@Function.comp_def
def amG:=@wpAny_askSetting
def amH:=@W.cellsFrom_some
def amI:=@PyProof.Rows.callWith_builtin1
def amJ:=@List.getElem_zip
def amK:=@List.flatten_nil
def amL:=@List.filter_cons
def amM:=@List.ext_getElem
def amN:=@F.args_dict_keyiterator_next_1
def amO:=@List.take_append_of_le_length
def amP:=@List.eq_nil_of_length_eq_zero
def amQ:=@F.entry_dict_keyiterator_next
def amR:=@wpAny_dictEpoch
def amS:=@codeAny_of_tree
def amT:=@List.zip_append
def amU:=@List.length_nil
def amV:=@F.slot_dict_keyiterator_iter
def amW:=@wpAny_rule
def amX:=@wpAny_newFunctionEnv_cells
def amY:=@wpAny_fieldsOf
def amZ:=@size_push'
def am0:=@isSubtype_stop
def am1:=@List.length_eraseIdx_of_lt
def am2:=@List.forIn_nil
def am3:=@Calls.Name_function_global
def am4:=@PySem.F.slot_dict_getitem
def am5:=@List.getLast?_eq_none_iff
def am6:=@List.getElem?_zip_eq_some
def am7:=@wpAny_newList
def am8:=@wpAny_handled
def am9:=@List.map_take
def ana:=@Bool.not_true
def anb:=@Bool.false_or
def anc:=@PySem.F.plain_list_iadd
def ane:=@wpAny_pyNext_range_end
def anf:=@wpAny_pyIter_rangeiter
def ang:=@subscriptTail_builtinR
def ani:=@W.length_le_weightAllW
def anl:=@Nat.lt_of_succ_lt_succ
def anm:=@List.pairwise_lt_range
def ano:=@List.getElem_cons_succ
def anp:=@List.drop_of_length_le
end
open Vbkoac (Known State isId isDay Call standsOn knownAt Decision paperOf asked Paper Revoke nodes nodeOf answerAt allOn below whyNot proofOf checkedFrom revokedBy checkedProof checkedSet otherwise stepsIn nodesIn groundRests Ans refutation)
set_option hygiene false in
local macro_rules
|`(EI $k)=>`(bz P w K mg base $k "hits" ["revocation", "pair"] (IB C))
|`(i8 $k)=>`(bz P w K mg base $k "revocation_of" ["known", "pair"] (DT C))
|`(jW $k)=>`(bz P w K mg base $k "all_rests" ["grounds"] sV)
|`(iF $k)=>`(bz P w K mg base $k "has_full_ground" ["grounds", "ranks"] Dd)
|`(eD $k)=>`(bz P w K mg base $k "grounds_of" ["known", "pair"] (vh C))
|`(cT $k)=>`(bz P w K mg base $k "ranks_under" ["known", "started"] (DU C))
|`(oG $k)=>`(bz P w K mg base $k "papers_on" ["known", "day"] (DW C))
|`(gz $k)=>`(bz P w K mg base $k "is_day" ["value"] Dc)
|`(dE $k)=>`(bz P w K mg base $k "refusal_of_known_day" ["house", "known_day"] (Ht C))
|`(cB $k)=>`(bz P w K mg base $k "is_number" ["value"] DZ)
|`(fK $k)=>`(bz P w K mg base $k "refusal_of_days" ["house", "day", "known_day"] (Hu C))
|`(kh $k)=>`(bz P w K mg base $k "pulled_down" ["known", "revocation", "started"] (zA C))
|`(rb $k)=>`(bz P w K mg base $k "flat" ["tuples"] ID)
|`(gX $k)=>`(bz P w K mg base $k "refusal_of_asked" ["house", "number", "day", "known_day"] (Hv C))
|`(dg $k)=>`(bz P w K mg base $k "known_at" ["house", "day"] (vg C))
|`(kg $k)=>`(bz P w K mg base $k "standing_on" ["known", "day"] (Hr C))
|`(gD $k)=>`(bz P w K mg base $k "decided_today" ["house"] (Tq C))
|`(iE $k)=>`(bz P w K mg base $k "is_standing" ["known", "pair"] (IA C))
|`(qW $k)=>`(bz P w K mg base $k "pairs_of" ["decisions"] (DX C))
|`(mE $k)=>`(bz P w K mg base $k "is_made_of" ["row", "size"] (Hy K))
|`(zr $k)=>`(bz P w K mg base $k "parts" ["row", "size"] (DV K))
|`(ki $k)=>`(bz P w K mg base $k "proof_steps" ["known", "asked", "ranks"] (Tg C TT))
|`(mF $k)=>`(bz P w K mg base $k "closed_set" ["known", "asked", "ranks"] (zH C TT))
|`(kj $k)=>`(bz P w K mg base $k "grounds_of" ["known", "pair"] (mT C))
|`(jk $k)=>`(bz P w K mg base $k "proof_ground" ["known", "pair", "ranks"] (To C))
|`(d9 $s)=>`(F.ok $s (fun vs H Q E h=>?_) (fun fv A outer s H vs Q E hr h=>?_))
|`(cO $k $x $l $s)=>`(bz P w K mg base $k $x $l $s)
|`(de $k $l $s)=>`(gU P w K mg base vT $k f fd $l $s)
|`(bL $x $s)=>`(o3 K $x $x $s f fd)
|`(aV $h $s)=>`(Inv X pins σ $h $s)
|`(gy $e $q $x $s)=>`(wpAny (model X.prog X.w) X.A $e $q $x $s)
namespace L2
open PySem PySem.Spec PyProof.Rows
variable{X:Cx}{H H' H1 H2:Hp}{s s':Shared}{pins:List (Addr×Obj)}{σ:St}{C a dx f it:Addr}{b c e e0 e1 e2 e3 tg value:Expr}{w:World}{A:Around}{base h h' h1 h2:Heap}{P prog:Program}{E Q:Value->Shared->Prop}{t0 t1 t2 t3 ta tb tc te tv:TE}{o o':HO}{u:Value}{es:List Expr}{ds us:List Value}{v y:V}{op SE:CmpOp}{N ps:List Str}{i j n t':Nat}{CX:Nz}{apos p pos' FJ:Pos}{fd:FuncData}{sp:Sp}{AX vs xs ys:List V}{r r':R2}{mA mg:Str->Option Value}{M:Model}{D:Ends}{m name qual:Str}{α:Type}{ch ex ex' fp NR:List Addr}{body:List Stmt}{g:TG}{kw:List (Str×Value)}{tA Wo:TT}{T id:String}{g':Array GenState}{d':Drawn}{R:V->V->Hp->Prop}{outer:List Env}{sc scope:Scope}
abbrev Key:=Sum Int Str
def oO:Key->Value->Bool
 | .inl k,v=>Value.isInt k v
 | .inr x,v=>Value.isStrOf x v
def ZY(w:World):Key->Int
 | .inl k=>hashInt k
 | .inr x=>hashStr w x
theorem cI:∀{k:Key} {v:Value},oO k v=true->(∃i t,k=Sum.inl i/\v=Value.int i t)\/(∃x t,k=Sum.inr x/\v=Value.str x t)
 | .inl i,v,h=>by obtain⟨t,e⟩:=Value.isInt_shape (k:=i) (v:=v) h;exact .inl ⟨i,t,Z,e⟩
 | .inr x,v,h=>by obtain⟨t,e⟩:=Value.isStrOf_shape (x:=x) (v:=v) h;exact .inr ⟨x,t,Z,e⟩
theorem F6(i:Int)(t:Tok):oO (.inl i) (.int i t)=true:=by simp[oO,Value.isInt]
theorem F5(x:Str)(t:Tok):oO (.inr x) (.str x t)=true:=by simp[oO,Value.isStrOf]
theorem QV(a b:Int):decide ((Sum.inl a:Key)=Sum.inl b)=(a==b):=by
 by_cases e:a=b
 .subst e;simp
 .have h:¬(Sum.inl a:Key)=Sum.inl b:=fun q=>e (Sum.inl.inj q);rw[ajl h];exact(ajt.mpr e).symm
theorem QS(a b:Str):decide ((Sum.inr a:Key)=Sum.inr b)=decide (a=b):=by
 by_cases e:a=b
 .subst e;simp
 .have h:¬(Sum.inr a:Key)=Sum.inr b:=fun q=>e (Sum.inr.inj q);rw[ajl h,ajl e]
theorem QU(a:Int)(b:Str):decide ((Sum.inl a:Key)=Sum.inr b)=false:=ajl nofun
theorem QT(a:Str)(b:Int):decide ((Sum.inr a:Key)=Sum.inl b)=false:=ajl nofun
def cy(prog:Program)(w:World):PySem.KeyKind prog w Key where
 is:=oO
 hash:=ZY w
 inj:=fun v a b ha hb=>by
  rcases cI ha with⟨i,t,rfl,rfl⟩|⟨x,t,rfl,rfl⟩
  .rcases cI hb with⟨j,u,rfl,e⟩|⟨y,u,rfl,e⟩
   .injection e with e1 _;rw[e1]
   .exact nomatch e
  .rcases cI hb with⟨j,u,rfl,e⟩|⟨y,u,rfl,e⟩
   .exact nomatch e
   .injection e with e1 _;rw[e1]
 byValue:=fun k v h=>by rcases cI h with⟨i,t,rfl,rfl⟩|⟨x,t,rfl,rfl⟩<;>rfl
 pyHash:=fun hv h=>by
  rcases cI hv with⟨i,t,rfl,rfl⟩|⟨x,t,rfl,rfl⟩
  .exact wpAny_pyHash_int h
  .exact wpAny_pyHash_str h
 eqBool:=fun hu hv h=>by
  rcases cI hu with⟨i,t,rfl,rfl⟩|⟨x,t,rfl,rfl⟩
  .rcases cI hv with⟨j,u,rfl,rfl⟩|⟨y,u,rfl,rfl⟩
   .rw[QV]at h;exact wpAny_eqBool_int h
   .rw[QU]at h;exact SeqAt.EqAt.int_str i t y u _ _ _ _ h
  .rcases cI hv with⟨j,u,rfl,rfl⟩|⟨y,u,rfl,rfl⟩
   .rw[QT]at h;exact SeqAt.EqAt.str_int x t j u _ _ _ _ h
   .rw[QS]at h;exact wpAny_eqBool_str h
 «strs»:=fun k x t v h=>by
  rcases cI h with⟨i,u,rfl,e⟩|⟨y,u,rfl,e⟩
  .exact nomatch e
  .injection e with e1 _;subst e1;cases v<;>rfl
theorem zq(prog:Program)(w:World)(i:Int)(t:Tok):(cy prog w).is (.inl i) (.int i t)=true:=F6 i t
theorem zp(prog:Program)(w:World)(x:Str)(t:Tok):(cy prog w).is (.inr x) (.str x t)=true:=F5 x t
inductive V where
 |cW|bl (b:Bool)|int (i:Int)|str (x:Str)|yU (b:Array UInt8)|WD (b:UInt64)|ref (a:Addr)|ty (n:String)
 deriving DecidableEq
def RelV:V->Value->Prop
 | .cW,u=>u=Value.none
 | .bl b,u=>u=Value.bool b
 | .int i,u=>∃t,u=Value.int i t
 | .str x,u=>∃t,u=Value.str x t
 | .yU b,u=>∃t,u=Value.bytes b t
 | .WD b,u=>∃t,u=Value.float b t
 | .ref a,u=>u=Value.ref a
 | .ty n,u=>u=Value.type n
abbrev bI:List V->List Value->Prop:=Paired RelV
theorem bI.length(r:bI xs us):xs.length=us.length:=Paired.length r
theorem bI.get:∀{xs:List V} {us:List Value} {i:Nat} {x:V},bI xs us->xs[i]?=some x->∃u,us[i]?=some u/\RelV x u
 |_,_,_,_,.nil,e=>by simp at e
 |_,_,0,_,.cons r _,e=>by simp at e;subst e;exact⟨_,Z,r⟩
 |_,_,i+1,x,.cons _ t,e=>by obtain⟨u,h1,h2⟩:=bI.get (i:=i) (x:=x) t (by simpa using e);exact⟨u,by simpa using h1,h2⟩
theorem bI.append:∀{xs ys:List V} {us ws:List Value},bI xs us->bI ys ws->bI (xs++ys) (us++ws)
 |_,_,_,_,.nil,s=>s
 |_,_,_,_,.cons r t,s=> .cons r (bI.append t s)
theorem bI.take:∀{xs:List V} {us:List Value} (n:Nat),bI xs us->bI (xs.take n) (us.take n)
 |_,_,0,_=> .nil
 |_,_,_+1,.nil=> .nil
 |_,_,n+1,.cons r t=> .cons r (bI.take n t)
theorem bI.drop:∀{xs:List V} {us:List Value} (n:Nat),bI xs us->bI (xs.drop n) (us.drop n)
 |_,_,0,r=>r
 |_,_,_+1,.nil=> .nil
 |_,_,n+1,.cons _ t=>bI.drop n t
def qH:Option V->Option Value->Prop
 |some v,some u=>RelV v u
 |none,none=>True
 |_,_=>False
def KV{κ:Type}:List (κ×V)->List (κ×Value)->Prop:=Paired fun(p:κ×V) (q:κ×Value)=>p.1=q.1/\RelV p.2 q.2
def kV:Key->V
 | .inl i=> .int i
 | .inr x=> .str x
inductive HO where
 |lst (xs:List V)
 |tup (xs:List V)
 |dK (aP:List (Key×V))|dT (aP:List (List Key×V))
 |set (S:Int->Bool) (n:Nat)
 |ins (C dx:Addr) (fs:List (Str×V))
 |own (x:Addr)
 |xd (fs:List (Str×V))
 |met (f x:Addr)
 |Lc (lo hi:Int)
 |br (o:Obj) (u:HO)
 |hU (ps:Array Value)
 |ext (φ:Heap->Prop)
abbrev Hp:=Addr->Option HO
def upd(H:Hp)(a:Addr)(o:HO):Hp:=fun b=>if b=a then some o else H b
theorem aA:upd H a o a=some o:=by unfold upd;rw[ai5 rfl]
theorem aB{b:Addr}(h:b≠a):upd H a o b=H b:=by unfold upd;rw[ai0 h]
theorem eX{u:HO}:upd (upd H a o) a u=upd H a u:=by funext b;unfold upd;split<;>rfl
theorem ak{b:Addr}{u:HO}(h:H a=some o)(h':H b=some u)(d:o≠u):a≠b:=by intro e;subst e;rw[h]at h';exact d (ajr h')
theorem aG{b:Addr}(h:H a=some o)(h':H b=none):a≠b:=by intro e;subst e;rw[h]at h';cases h'
section
variable(P:Program)(w:World)
def cj(H:Hp)(h:Heap)(a:Addr):HO->Prop
 | .lst xs=>xs.length<=sizeLine/\∃(bE:List Value) (n:Nat),bI xs bE/\h.get? a=some {cls:= .type "list",data:= .seq bE.toArray n}
 | .tup xs=>xs.length<=sizeLine/\∃bE:List Value,bI xs bE/\IsTup h a bE.toArray
 | .dK aP=>aP.length<=sizeLine/\(a==sysModules)=false/\∃vs,KV aP vs/\h.DictOf (cy P w) a vs
 | .dT aP=>aP.length<=sizeLine/\(a==sysModules)=false/\∃xs:List (List Key×Addr×Value),Paired (fun(p:List Key×V) (q:List Key×Addr×Value)=>p.1=q.1/\H q.2.1=some (.tup (p.1.map kV))/\RelV p.2 q.2.2) aP xs/\∃o es ep,h.get? a=some o/\o.ExactDict/\o.data= .dict es ep/\es.toList=xs.map (entryOfKey (tupleKind (cy P w)))/\(xs.map (·.1)).Nodup
 | .set S n=>h.SetOf (intKind P w) a S n
 | .ins C dx fs=>H dx=some (.own a)/\fs.length<=1000/\dx≠a/\h.get? a=some (W.instObj C dx)/\∃mA,h.Ns1 dx mA/\(∀f,qH (fs.lookup f) (mA f))/\PySem.Within mA (fs.map (·.1))
 | .own _=>∃o,h.get? a=some o
 | .xd fs=>∃mA,h.Ns1 a mA/\∀f,qH (fs.lookup f) (mA f)
 | .Lc lo hi=>∃t u v,h.get? a=some {cls:= .type "range",data:= .fields #[.int lo t,.int hi u,.int 1 v]}
 | .br o u=>h.get? a=some o/\cj H h a u
 | .hU ps=>h.get? a=some {cls:= .none,data:= .fields ps}
 | .met f x=>h.get? a=some (W.methodObj (.ref f) (.ref x))
 | .ext φ=>φ h/\(∃o,h.get? a=some o)/\∀h1 h2:Heap,φ h1->(∀o,h1.get? a=some o->h2.get? a=some o)->φ h2
def jq(H:Hp)(h:Heap):Prop:=∀a o,H a=some o->cj P w H h a o
end
theorem cj.lt(x:cj P w H h a o):a<h.objs.size:=by
 cases o with
 |lst xs=>obtain⟨_,_,_,_,e⟩:=x;exact ajf e
 |tup xs=>obtain⟨_,_,_,p⟩:=x;exact p.lt
 |dK aP=>obtain⟨_,_,_,_,o,_,_,e,_⟩:=x;exact ajf e
 |dT aP=>obtain⟨_,_,_,_,o,_,_,e,_⟩:=x;exact ajf e
 |set S n=>obtain⟨o,_,_,_,e,_⟩:=x;exact ajf e
 |ins C dx fs=>obtain⟨_,_,_,e,_⟩:=x;exact ajf e
 |own y=>obtain⟨_,e⟩:=x;exact ajf e
 |xd fs=>obtain⟨_,⟨_,_,_,e,_⟩,_⟩:=x;exact ajf e
 |Lc lo hi=>obtain⟨_,_,_,e⟩:=x;exact ajf e
 |br ob u=>obtain⟨e,_⟩:=x;exact ajf e
 |hU ps=>exact ajf (show h.get? a=some _ from x)
 |met f y=>exact ajf (show h.get? a=some _ from x)
 |ext φ=>obtain⟨_,⟨_,e⟩,_⟩:=x;exact ajf e
theorem Paired.a8{β:Type}{F G:α->β->Prop}:∀{l₁:List α} {l₂:List β},Paired F l₁ l₂->(∀a b,F a b->G a b)->Paired G l₁ l₂
 |_,_,.nil,_=> .nil
 |_,_,.cons r t,f=> .cons (f _ _ r) (Paired.a8 t f)
theorem cj.ql(x:cj P w H h a o)(k:∀b u,(b=a\/H b=some (.own a))->h.get? b=some u->h'.get? b=some u) (ho:∀b,H b=some (.own a)->H' b=some (.own a))(ht:∀b xs,H b=some (.tup xs)->H' b=some (.tup xs)):cj P w H' h' a o:=by
 induction o with
 |lst xs=>obtain⟨z,bE,n,r,e⟩:=x;exact⟨z,bE,n,r,k _ _ (.inl rfl) e⟩
 |tup xs=>obtain⟨z,bE,r,ob,e,c⟩:=x;exact⟨z,bE,r,ob,k _ _ (.inl rfl) e,c⟩
 |dK aP=>obtain⟨z,y,vs,r,ob,es,ep,e,c⟩:=x;exact⟨z,y,vs,r,ob,es,ep,k _ _ (.inl rfl) e,c⟩
 |dT aP=>
  obtain⟨z,y,xs,r,ob,es,ep,e,c⟩:=x;exact⟨z,y,xs,Paired.a8 r fun p q z=>⟨z.1,ht _ _ z.2.1,z.2.2⟩,ob,es,ep,k _ _ (.inl rfl) e,c⟩
 |set S n=>obtain⟨ob,es,ep,t,e,c⟩:=x;exact⟨ob,es,ep,t,k _ _ (.inl rfl) e,c⟩
 |ins C dx fs=>
  obtain⟨d,z,ne,e,mA,⟨od,es,ep,e2,c⟩,r⟩:=x;exact⟨ho _ d,z,ne,k _ _ (.inl rfl) e,mA,⟨od,es,ep,k _ _ (.inr d) e2,c⟩,r⟩
 |own y=>obtain⟨ob,e⟩:=x;exact⟨ob,k _ _ (.inl rfl) e⟩
 |xd fs=>obtain⟨mA,⟨od,es,ep,e,c⟩,r⟩:=x;exact⟨mA,⟨od,es,ep,k _ _ (.inl rfl) e,c⟩,r⟩
 |Lc lo hi=>obtain⟨t,u,v,e⟩:=x;exact⟨t,u,v,k _ _ (.inl rfl) e⟩
 |br ob u ih=>obtain⟨e,q⟩:=x;exact⟨k _ _ (.inl rfl) e,ih q⟩
 |hU ps=>
  have e:h.get? a=some {cls:= .none,data:= .fields ps}:=x;show h'.get? a=some {cls:= .none,data:= .fields ps};exact k a _ (.inl rfl) e
 |met f y=>
  have e:h.get? a=some (W.methodObj (.ref f) (.ref y)):=x;show h'.get? a=some (W.methodObj (.ref f) (.ref y));exact k a _ (.inl rfl) e
 |ext φ=>obtain⟨p,⟨o,e⟩,st⟩:=x;exact⟨st _ _ p fun o q=>k _ _ (.inl rfl) q,⟨o,k _ _ (.inl rfl) e⟩,st⟩
theorem jq.lt(x:jq P w H h)(e:H a=some o):a<h.objs.size:=(x a o e).lt
theorem jq.fresh(x:jq P w H h)(e:h.objs.size<=a):H a=none:=by
 cases q:H a with
 |none=>rfl
 |some u=>exact absurd (ajx (x.lt q) e) (aj5 _)
theorem jq.kept(x:jq P w H h)(k:∀b u,h.get? b=some u->h'.get? b=some u):jq P w H h':=fun a o e=>
 (x a o e).ql (fun b u _ q=>k b u q) (fun _ q=>q) fun _ _ q=>q
theorem jq.laid(x:jq P w H h)(k:∀b u,h.get? b=some u->h'.get? b=some u)(hp:h.objs.size<=a)(new:cj P w (upd H a o) h' a o):jq P w (upd H a o) h':=fun b u e=>by
 have hn:=x.fresh hp;by_cases hb:b=a
 .subst hb;rw[aA]at e;cases e;exact new
 .rw[aB hb]at e;exact(x b u e).ql (fun c v _ q=>k c v q) (fun c q=>by rw[aB (aG q hn)];exact q) fun c xs q=>by rw[aB (aG q hn)];exact q
def Rd(H:Hp)(a:Addr)(u:HO):Prop:=H a=some u\/∃o,H a=some (.br o u)
theorem Rd.ok{u:HO}(r:Rd H a u)(x:jq P w H h):cj P w H h a u:=by
 rcases r with r|⟨o,r⟩
 .exact x a u r
 .obtain⟨_,q⟩:=x a _ r;exact q
def Np:Option HO->Prop
 |some (.lst _)=>True
 |some (.dK _)=>True
 |some (.dT _)=>True
 |some (.set _ _)=>True
 |some (.ins _ _ _)=>True
 |some (.ext _)=>True
 |_=>False
section
variable{x e:Addr}
theorem jq.write(ok:jq P w H h)(mu:Np (H x))(he:e=x\/H e=some (.own x))(k:∀b u,b≠e->h.get? b=some u->h'.get? b=some u)(Sm:∃u,h'.get? e=some u) (new:cj P w (upd H x o') h' x o'):jq P w (upd H x o') h':=fun b u q=>by
 have UY:∀c y,H c=some (.own y)->c≠x:=(fun c y r z=>by subst z;rw[r]at mu;exact mu);have ZC:∀c xs,H c=some (.tup xs)->c≠x:=(fun c xs r z=>by subst z;rw[r]at mu;exact mu);by_cases hb:b=x
 .subst hb;rw[aA]at q;cases q;exact new
 .rw[aB hb]at q;by_cases RD:b=e
  .have q':H b=some (.own x):=by
    rcases he with z|z
    .exact absurd (RD.trans z) hb
    .rw[RD];exact z
   rw[q]at q';cases q';obtain⟨v,hv⟩:=Sm;exact⟨v,by rw[RD];exact hv⟩
  .refine(ok b u q).ql (fun c v hc r=>k c v ?_ r) (fun c r=>by rw[aB (UY c b r)];exact r) fun c xs r=>by rw[aB (ZC c xs r)];exact r
   rcases hc with rfl|hc
   .exact RD
   .rintro rfl;rcases he with z|z
    .exact UY c b hc z
    .rw[hc]at z;cases z;exact hb rfl
end
structure Un(fs ex:List Addr)(H H':Hp)(h h':Heap):Prop where
 keep:∀b o,h.get? b=some o->H b=none->b∉fs->b∉ex->h'.get? b=some o
 slot:∀b o,h.get? b=some o->H b=none->b∈fs->b∉ex->∃sl,h'.get? b=some {o with slots:=sl}
 free:∀b o,h.get? b=some o->H b=none->b∉ex->H' b=none
 there:∀b o,h.get? b=some o->b∉ex->∃o',h'.get? b=some o'
 xH:∀b xs,H b=some (.tup xs)->H' b=some (.tup xs)
 uF:∀b o u,H b=some (.br o u)->H' b=some (.br o u)
 qk:∀b ps,H b=some (.hU ps)->∃more,H' b=some (.hU (ps++more))
section
variable{fs:List Addr}{x e:Addr}
theorem Un.any(u:Un fs ex H H1 h h1){b:Addr}{ob:Obj}(q:h.get? b=some ob)(n:H b=none)(hx:b∉ex):∃sl,h1.get? b=some {ob with slots:=sl}:=by
 by_cases hb:b∈fs
 .exact u.slot b ob q n hb hx
 .exact⟨ob.slots,u.keep b ob q n hb hx⟩
theorem Un.kept(k:∀b u,h.get? b=some u->h'.get? b=some u):Un fs ex H H h h':=⟨fun b ob q _ _ _=>k b ob q,fun b ob q _ _ _=>⟨ob.slots,k b ob q⟩,fun _ _ _ n _=>n,fun b ob q _=>⟨ob,k b ob q⟩,fun _ _ q=>q,fun _ _ _ q=>q,fun _ ps q=>⟨#[],by rw[q];simp⟩⟩
theorem Un.refl:Un fs ex H H h h:=Un.kept fun _ _ q=>q
theorem Un.laid(k:∀b u,h.get? b=some u->h'.get? b=some u)(hp:h.objs.size<=a)(hn:H a=none):Un fs ex H (upd H a o) h h' where
 keep:=fun b u q _ _ _=>k b u q
 slot:=fun b u q _ _ _=>⟨u.slots,k b u q⟩
 free:=fun b u q n _=>by rw[aB (ajB (ajx (ajf q) hp))];exact n
 there:=fun b u q _=>⟨u,k b u q⟩
 xH:=fun b xs q=>by rw[aB (aG q hn)];exact q
 uF:=fun b u xs q=>by rw[aB (aG q hn)];exact q
 qk:=fun b ps q=>⟨#[],by rw[aB (aG q hn),q];simp⟩
theorem Un.write(mu:Np (H x))(he:e=x\/H e=some (.own x))(k:∀b u,b≠e->h.get? b=some u->h'.get? b=some u)(Sm:∃u,h'.get? e=some u):Un fs ex H (upd H x o) h h':=by
 have hx:∀b,H b=none->b≠x:=(fun b n z=>by subst z;rw[n]at mu;exact mu);have hb:∀b,H b=none->b≠e:=fun b n z=>by
  subst z;rcases he with r|r
  .exact hx b n r
  .rw[n]at r;cases r
 have hm:∀b u,H b=some u->¬Np (some u)->b≠x:=(fun b u q nm z=>by subst z;rw[q]at mu;exact nm mu);refine⟨fun b u q n _ _=>k b u (hb b n) q,fun b u q n _ _=>⟨u.slots,k b u (hb b n) q⟩,fun b u q n _=>by rw[aB (hx b n)];exact n,fun b u q _=>?_,fun b xs q=>by rw[aB (hm b _ q fun z=>z)];exact q,fun b u xs q=>by rw[aB (hm b _ q fun z=>z)];exact q,fun b ps q=>⟨#[],by rw[aB (hm b _ q fun z=>z),q];simp⟩⟩;by_cases RD:b=e
 .subst RD;exact Sm
 .exact⟨u,k b u RD q⟩
end
def Wm(h:Heap)(H:Hp):List Addr:=(List.range h.objs.size).filter fun a=>(H a).isSome
def tz(h:Heap)(H:Hp):Heap:=W.hideAll h (Wm h H)
theorem GN(h:Heap)(H:Hp):(tz h H).objs.size=h.objs.size:=W.hideAll_size _ _
theorem Kg{b:Addr}{o:Obj}(e:h.get? b=some o)(n:H b=none):(tz h H).get? b=some o:=W.hideAll_get _ e fun hm=>by have q:(H b).isSome=true:=(ajy.mp hm).2;rw[n]at q;simp at q
theorem Mp{b:Addr}{o:Obj}(e:(tz h H).get? b=some o):h.get? b=some o/\H b=none:=by
 have e':h.get? b=some o:=W.of_hideAll (Wm h H) e;refine⟨e',?_⟩;cases q:H b with
 |none=>rfl
 |some x=>
  have hm:b∈Wm h H:=ajy.mpr ⟨akD.mpr (ajf e'),by simp[q]⟩;have z:(tz h H).get? b=none:=W.hideAll_none (Wm h H) hm;rw[z]at e;cases e
def Nl(g h:Heap)(L:Addr):List (Addr×Obj):=(List.range h.objs.size).filterMap fun a=>if a=L\/(g.get? a).isSome=true then none else(h.get? a).map fun o=>(a,o)
def rest(g h:Heap)(L d:Addr):List (Addr×Obj):=(Nl g h L).filter fun p=>decide (p.1≠d)
structure Mod(K:W.Frag)(mg:Str->Option Value)(base:Heap):Prop where
 SN:K.In base
 glob:base.Ns mainGlobals mg
 blt:∃mb,base.Ns builtinsNs mb/\∀x:Str,x≠"__name__"->mb x=bootBuiltins x
 nolimit:base.NoLimit
structure Cx where
 prog:Program
 w:World
 K:W.Frag
 mg:Str->Option Value
 base:Heap
 A:Around
 N:List Str
 qm:Shared
 Gx:Hp
 env:Env
 outer:List Env
 stack:List Env
 ex:List Addr
 fn:Str->Bool
 calm:Bool
 pn:List (Addr×Obj)
 xe:Value->Shared->Prop
def yo(l:List Env):List Addr:=l.filterMap (·.frame)
abbrev Cx.fs(X:Cx):List Addr:=yo X.outer
def Rt(sc:Scope)(x:Str):Prop:=sc.names.lookup x=some .local\/sc.names.lookup x=some .cell\/sc.names.lookup x=some .free
def Loc(sc:Scope)(x:Str):Prop:=sc.names.lookup x=some .local\/sc.names.lookup x=some .cell
def Look(env:Env)(h:Heap)(m:Str->Option Value)(x:Str)(u:Value):Prop:=(env.kindOf x=some .local/\m x=some u)\/((env.kindOf x=some .cell\/env.kindOf x=some .free)/\∃c,env.cells.lookup x=some c/\h.IsCell c (some u))
structure Cx.Ok(X:Cx):Prop where
 mod:Mod X.K X.mg X.base
 kind:X.env.scope.kind= .function
 glob:X.env.globals=mainGlobals
 blt:X.env.builtins=builtinsNs
 above:X.qm.heap.objs.size<=X.env.locals
 inj:∀x y c,X.env.cells.lookup x=some c->X.env.cells.lookup y=some c->x=y
 has:∀x,(X.env.kindOf x=some .cell\/X.env.kindOf x=some .free)->∃c,X.env.cells.lookup x=some c
 Sy:∀x c,X.fn x=true->X.env.cells.lookup x=some c->X.qm.heap.objs.size<=c
 hd:X.calm=true->X.A.handled=none
 frames:X.A.frames=some X.stack
 Td:X.stack=X.outer\/(X.stack=X.env::X.outer/\X.env.frame=some X.env.locals)
 Xz:∀b∈X.ex,b≠X.env.locals/\∀x c,X.env.cells.lookup x=some c->c≠b
 bs:∀b o,X.base.get? b=some o->X.qm.heap.get? b=some o/\X.Gx b=none
 HL:X.base.objs.size<=X.qm.heap.objs.size
 Ju:∀b o,X.base.get? b=some o->b∉X.ex
 K3:∀b∈X.ex,b∉X.fs
 mx:X.qm.heap.FunFrames X.base X.outer
 NS:∀b∈X.fs,X.Gx b=none
structure Inv(X:Cx)(pins:List (Addr×Obj))(σ:List (Option V))(H:Hp)(s:Shared):Prop where
 ok:X.Ok
 os:s.os=X.qm.os
 bare:AllBare s.gens
 base:Un X.fs X.ex X.Gx H X.qm.heap s.heap
 loc:∃m,s.heap.Ns X.env.locals m/\∀(i:Nat) (x:Str) (v:V),X.N[i]?=some x->σ[i]?=some (some v)->Rt X.env.scope x->∃u,RelV v u/\Look X.env s.heap m x u
 cell:∀x c,X.env.cells.lookup x=some c->∃v,s.heap.IsCell c v
 free:H X.env.locals=none
 iH:∀x c,X.env.cells.lookup x=some c->H c=none
 pin:∀p∈X.pn++pins,s.heap.get? p.1=some p.2/\H p.1=none/\p.1≠X.env.locals/\p.1∉X.fs/\∀v,p.2.data≠ .cell v
 bK:jq X.prog X.w H s.heap
 len:σ.length=X.N.length
section
variable{σ:List (Option V)}
theorem Cx.Ok.ZG(ok:X.Ok){b:Addr}{o:Obj}(e:X.base.get? b=some o):b∉X.fs:=fun hb=>by have:=(ok.mx.mem hb).1;rw[e]at this;cases this
theorem Inv.bs(I:aV H s):∀b o,X.base.get? b=some o->s.heap.get? b=some o/\H b=none:=fun b o e=>
 ⟨I.base.keep b o (I.ok.bs b o e).1 (I.ok.bs b o e).2 (I.ok.ZG e) (I.ok.Ju b o e),I.base.free b o (I.ok.bs b o e).1 (I.ok.bs b o e).2 (I.ok.Ju b o e)⟩
theorem Inv.bk(I:aV H s):∀b o,X.base.get? b=some o->s.heap.get? b=some o:=fun b o e=>(I.bs b o e).1
theorem Inv.mod(I:aV H s):Mod X.K X.mg X.base:=I.ok.mod
theorem Inv.CU(I:aV H s):X.K.In s.heap:=I.ok.mod.SN.keeps I.bk
theorem Inv.fr(I:aV H s):∃m,Fr X.base X.env.locals s.heap m:=
 let⟨m,hn,_⟩:=I.loc
 ⟨m,hn,I.bk,ajq I.ok.HL I.ok.above⟩
theorem Inv.lt(I:aV H s):X.env.locals<s.heap.objs.size:=let⟨_,hn,_⟩:=I.loc;hn.lt
theorem Inv.sz(I:aV H s):X.qm.heap.objs.size<=s.heap.objs.size:=ajq I.ok.above (aki I.lt)
theorem Inv.UZ(I:aV H s)(h:s.heap.objs.size<=a):a∉X.fs:=fun hb=>by obtain⟨_,o,ho,_⟩:=I.ok.mx.mem hb;exact absurd (ajx (ajf ho) (ajq I.sz h)) (aj5 _)
theorem Inv.Ov(I:aV H s):∀x c,X.env.cells.lookup x=some c->c≠X.env.locals:=fun x c e z=>by obtain⟨v,o,ho,hd⟩:=I.cell x c e;obtain⟨m,⟨o',es,ep,yj,Kk,_⟩,_⟩:=I.loc;rw[z,yj]at ho;cases ho;rw[Kk]at hd;cases hd
theorem Inv.mx(I:aV H s):s.heap.FunFrames X.base X.outer:=by
 have all:∀(l:List Env),(∀b∈yo l,b∈X.fs)->X.qm.heap.FunFrames X.base l->s.heap.FunFrames X.base l:=by
  intro l
  induction l with
  |nil=>intro _ _;trivial
  |cons env r ih=>
   intro hs hl;obtain⟨hk,⟨L,o,hf,hn,ho,hd⟩,hr⟩:=hl;have hL:L∈X.fs:=hs L (by unfold yo;rw[ajZ,hf];exact aiV);obtain⟨sl,e⟩:=I.base.slot L o ho (I.ok.NS L hL) hL fun z=>I.ok.K3 L z hL;exact⟨hk,⟨L,_,hf,hn,e,hd⟩,ih (fun b hb=>hs b (by unfold yo;rw[ajZ,hf];exact aiS _ hb)) hr⟩
 exact all X.outer (fun _ hb=>hb) I.ok.mx
theorem Inv.stack(I:aV H s):s.heap.FunFrames X.base X.stack:=by
 rcases I.ok.Td with e|⟨e,hf⟩
 .rw[e];exact I.mx
 .rw[e];obtain⟨m,hn,_⟩:=I.loc;refine .cons (by rw[I.ok.kind];decide) hf hn ?_ I.mx;exact Heap.get?_none_of_le (ajq I.ok.HL I.ok.above)
theorem Inv.sS(I:aV H s):∀b∈yo X.stack,b∈X.env.locals::X.fs:=fun b hb=>by
 rcases I.ok.Td with e|⟨e,hf⟩
 .rw[e]at hb;exact aiS _ hb
 .rw[e]at hb;unfold yo at hb;rw[ajZ,hf]at hb;exact hb
theorem Inv.DQ(I:aV H s):∀b∈yo X.stack,H b=none:=fun b hb=>by
 rcases aiZ.mp (I.sS b hb)with e|hb
 .rw[e];exact I.free
 .obtain⟨_,o,ho,_⟩:=I.ok.mx.mem hb;exact I.base.free b o ho (I.ok.NS b hb) fun z=>I.ok.K3 b z hb
theorem Inv.step(I:aV H s) (Ll:∀b∈ch,(b∈X.ex\/X.qm.heap.objs.size<=b)/\b≠X.env.locals/\(∀x c,X.env.cells.lookup x=some c->c≠b)/\∀p∈X.pn++pins,p.1≠b) (keep:∀b o,b≠X.env.locals->b∉X.fs->b∉ch->s.heap.get? b=some o->H b=none->h'.get? b=some o) (slot:∀b o,b≠X.env.locals->b∈X.fs->b∉ch->s.heap.get? b=some o->H b=none->∃sl,h'.get? b=some {o with slots:=sl})(free:∀b o,b∉ch->s.heap.get? b=some o->H b=none->H' b=none) (there:∀b o,b∉ch->s.heap.get? b=some o->∃o',h'.get? b=some o') (xH:∀b xs,H b=some (.tup xs)->H' b=some (.tup xs))(uF:∀b o u,H b=some (.br o u)->H' b=some (.br o u))(qk:∀b ps,H b=some (.hU ps)->∃more,H' b=some (.hU (ps++more))) (ns:∀m,s.heap.Ns X.env.locals m->h'.Ns X.env.locals m)(bK:jq X.prog X.w H' h')(hg:AllBare g'):aV H' {s with heap:=h',gens:=g',drawn:=d',toks:=t'}:=by
 have neL:∀b o,X.qm.heap.get? b=some o->b≠X.env.locals:=fun b o e=>ajB (ajx (ajf e) I.ok.above);have XD:∀b o,X.qm.heap.get? b=some o->b∉X.ex->b∉ch:=fun b o e hx hb=>by
  rcases(Ll b hb).1 with z|z
  .exact hx z
  .exact absurd (ajx (ajf e) z) (aj5 _)
 have cellK:∀x c,X.env.cells.lookup x=some c->∀v,s.heap.IsCell c v->h'.IsCell c v:=fun x c e v ⟨o,ho,hd⟩=>by
  have Ud:c∉ch:=fun z=>(Ll c z).2.2.1 x c e rfl;by_cases hc:c∈X.fs
  .obtain⟨sl,q⟩:=slot c o (I.Ov x c e) hc Ud ho (I.iH x c e);exact⟨_,q,hd⟩
  .exact⟨o,keep c o (I.Ov x c e) hc Ud ho (I.iH x c e),hd⟩
 refine⟨I.ok,I.os,hg,⟨fun b o e n hb hx=>?_,fun b o e n hb hx=>?_,fun b o e n hx=>?_,fun b o e hx=>?_,fun b xs e=>xH b xs (I.base.xH b xs e),fun b o xs e=>uF b o xs (I.base.uF b o xs e),fun b ps e=>?_⟩,?_,fun x c e=>?_,?_,fun x c e=>?_,fun p hp=>?_,bK,I.len⟩
 .exact keep b o (neL b o e) hb (XD b o e hx) (I.base.keep b o e n hb hx) (I.base.free b o e n hx)
 .obtain⟨sl,e1⟩:=I.base.slot b o e n hb hx;obtain⟨sl',e2⟩:=slot b _ (neL b o e) hb (XD b o e hx) e1 (I.base.free b o e n hx);exact⟨sl',e2⟩
 .obtain⟨o',e1⟩:=I.base.there b o e hx;exact free b o' (XD b o e hx) e1 (I.base.free b o e n hx)
 .obtain⟨o',e1⟩:=I.base.there b o e hx;exact there b o' (XD b o e hx) e1
 .obtain⟨m1,e1⟩:=I.base.qk b ps e;obtain⟨m2,e2⟩:=qk b _ e1;exact⟨m1++m2,by rw[e2,Array.append_assoc]⟩
 .obtain⟨m,hn,hl⟩:=I.loc;refine⟨m,ns m hn,fun i x v e1 e2 e3=>?_⟩;obtain⟨u,r,l⟩:=hl i x v e1 e2 e3;refine⟨u,r,?_⟩;rcases l with l|⟨k,c,e,z⟩
  .exact .inl l
  .exact .inr ⟨k,c,e,cellK x c e _ z⟩
 .obtain⟨v,z⟩:=I.cell x c e;exact⟨v,cellK x c e v z⟩
 .obtain⟨m,⟨o,_,_,ho,_⟩,_⟩:=I.loc;exact free _ o (fun z=>(Ll _ z).2.1 rfl) ho I.free
 .obtain⟨v,o,ho,hd⟩:=I.cell x c e;exact free c o (fun z=>(Ll c z).2.2.1 x c e rfl) ho (I.iH x c e)
 .obtain⟨e,n,ne,nf,d⟩:=I.pin p hp;have Ud:p.1∉ch:=fun z=>(Ll p.1 z).2.2.2 p hp rfl;exact⟨keep p.1 p.2 ne nf Ud e n,free p.1 p.2 Ud e n,ne,nf,d⟩
theorem Inv.un(I:aV H s)(u:Un X.fs [] H H' s.heap h')(bK:jq X.prog X.w H' h'):aV H' {s with heap:=h',toks:=t'}:=by obtain⟨m,⟨o,es,ep,ho,r⟩,_⟩:=id I.loc;obtain⟨sl,hL⟩:=u.any ho I.free (by simp);exact I.step (g':=s.gens) (d':=s.drawn) (ch:=[]) nofun (fun b o _ hb _ e n=>u.keep b o e n hb (by simp)) (fun b o _ hb _ e n=>u.slot b o e n hb (by simp)) (fun b o _ e n=>u.free b o e n (by simp)) (fun b o _ e=>u.there b o e (by simp)) u.xH u.uF u.qk (fun m' hm=>by obtain⟨o',wk,HK,yj,r'⟩:=hm;rw[ho]at yj;cases yj;exact⟨_,wk,HK,hL,r'⟩) bK I.bare
theorem Inv.call(I:aV H s)(u:Un (yo X.stack) ch H H' s.heap h')(bK:jq X.prog X.w H' h')(hg:AllBare g') (Ll:∀b∈ch,(b∈X.ex\/X.qm.heap.objs.size<=b)/\b≠X.env.locals/\(∀x c,X.env.cells.lookup x=some c->c≠b)/\∀p∈X.pn++pins,p.1≠b):aV H' {s with heap:=h',gens:=g',drawn:=d',toks:=t'}:=by obtain⟨m,⟨o,es,ep,ho,r⟩,_⟩:=id I.loc;obtain⟨sl,hL⟩:=u.any ho I.free fun z=>(Ll _ z).2.1 rfl;exact I.step (ch:=ch) Ll (fun b o hL hb hc e n=>u.keep b o e n (fun z=>(aiZ.mp (I.sS b z)).elim hL hb) hc) (fun b o _ _ hc e n=>u.any e n hc) (fun b o hc e n=>u.free b o e n hc) (fun b o hc e=>u.there b o e hc) u.xH u.uF u.qk (fun m' hm=>by obtain⟨o',wk,HK,yj,r'⟩:=hm;rw[ho]at yj;cases yj;exact⟨_,wk,HK,hL,r'⟩) bK hg
theorem Inv.turned(I:aV H s)(k:∀b o,b≠it->s.heap.get? b=some o->h'.get? b=some o)(hn:H it=none)(hL:it≠X.env.locals) (h1:it∈X.ex\/X.qm.heap.objs.size<=it)(h2:∀x c,X.env.cells.lookup x=some c->c≠it)(h3:∀p∈X.pn++pins,p.1≠it):aV H {s with heap:=h',toks:=t'}:=by
 have OQ:∀b u,H b=some u->b≠it:=(fun b u e z=>by rw[z,hn]at e;cases e);refine I.step (g':=s.gens) (d':=s.drawn) (ch:=[it]) (fun b hb=>?_) (fun b o _ _ hc e _=>k b o (fun z=>hc (by simp[z])) e) (fun b o _ _ hc e _=>⟨o.slots,k b o (fun z=>hc (by simp[z])) e⟩) (fun _ _ _ _ n=>n) (fun b o hc e=>⟨o,k b o (fun z=>hc (by simp[z])) e⟩) (fun _ _ e=>e) (fun _ _ _ e=>e) (fun b ps e=>⟨#[],by rw[e];simp⟩) (fun m hm=>?_) (fun b u e=>?_) I.bare
 .have e:b=it:=(by simpa using hb);subst e;exact⟨h1,hL,h2,h3⟩
 .obtain⟨o,es,ep,ho,r⟩:=hm;exact⟨o,es,ep,k _ o (ajC hL) ho,r⟩
 .refine(I.bK b u e).ql (fun c v hc q=>k c v ?_ q) (fun _ q=>q) fun _ _ q=>q;rcases hc with z|z
  .rw[z];exact OQ b u e
  .exact OQ c _ z
theorem Inv.tok(I:aV H s)(t:Nat):aV H {s with toks:=t}:=I.un (h':=s.heap) (t':=t) Un.refl I.bK
theorem Inv.kept(I:aV H s)(k:∀b u,s.heap.get? b=some u->h'.get? b=some u):aV H {s with heap:=h',toks:=t'}:=I.un (Un.kept k) (I.bK.kept k)
theorem Inv.laid(I:aV H s)(k:∀b u,s.heap.get? b=some u->h'.get? b=some u)(hp:s.heap.objs.size<=a)(new:cj X.prog X.w (upd H a o) h' a o):aV (upd H a o) {s with heap:=h',toks:=t'}:=I.un (Un.laid k hp (I.bK.fresh hp)) (I.bK.laid k hp new)
theorem Inv.write{x e:Addr}(I:aV H s)(mu:Np (H x))(he:e=x\/H e=some (.own x))(k:∀b u,b≠e->s.heap.get? b=some u->h'.get? b=some u)(Sm:∃u,h'.get? e=some u) (new:cj X.prog X.w (upd H x o) h' x o):aV (upd H x o) {s with heap:=h',toks:=t'}:=I.un (Un.write mu he k Sm) (I.bK.write mu he k Sm new)
theorem Inv.weak{σ':List (Option V)}(I:aV H s)(hl:σ'.length=σ.length)(w:∀(i:Nat) v,σ'[i]?=some (some v)->σ[i]?=some (some v)):Inv X pins σ' H s:=⟨I.ok,I.os,I.bare,I.base,let⟨m,hn,HC⟩:=I.loc;⟨m,hn,fun i x v e1 e2 e3=>HC i x v e1 (w i v e2) e3⟩,I.cell,I.free,I.iH,I.pin,I.bK,hl.trans I.len⟩
theorem Inv.Dy{OL:List (Addr×Obj)}(I:aV H s)(h:∀p∈OL,s.heap.get? p.1=some p.2/\H p.1=none/\p.1≠X.env.locals/\p.1∉X.fs/\∀v,p.2.data≠ .cell v):Inv X OL σ H s:=⟨I.ok,I.os,I.bare,I.base,I.loc,I.cell,I.free,I.iH,fun p hp=>(ajh.mp hp).elim (fun z=>I.pin p (aj1 _ z)) (h p),I.bK,I.len⟩
theorem tL(hN:N.Nodup){x:Str}(a:N[i]?=some x)(b:N[j]?=some x):i=j:=by obtain⟨h1,e1⟩:=ai3.mp a;obtain⟨h2,e2⟩:=ai3.mp b;exact(List.getElem_inj hN).mp (e1.trans e2.symm)
theorem vc{x:Str}{Q:Unit->Shared->Prop}(I:aV H s)(hN:X.N.Nodup)(hi:X.N[i]?=some x)(hx:Loc X.env.scope x)(r:RelV v u) (h:∀s',Inv X pins (σ.set i (some v)) H s'->(∃a,Heap.SameBut a s.heap s'.heap/\(a=X.env.locals\/X.env.cells.lookup x=some a))->Q () s')(hf:X.fn x=true\/X.env.scope.names.lookup x=some .local:=by first|exact .inl rfl|exact .inr rfl|assumption):wpAny M A (storeName X.env x u) Q E s:=by
 obtain⟨m,hn,hl⟩:=id I.loc;have aaL:(X.env.scope.kind== .class||(X.env.scope.kind== .module&&X.env.locals !=X.env.globals))=false:=(by rw[I.ok.kind];rfl);have hiσ:i<σ.length:=(by rw[I.len];exact(ai3.mp hi).1);have Ov:=I.Ov;have tracked:∀{a:Addr} {h':Heap},(∃o,s.heap.get? a=some o/\H a=none)->Heap.SameBut a s.heap h'->jq X.prog X.w H h':=fun{a h'} ha hs b ob e=>by
  obtain⟨_,_,wW⟩:=ha;refine(I.bK b ob e).ql (fun c w' hc q=>(hs.2 c ?_).trans q) (fun _ q=>q) fun _ _ q=>q;rintro rfl;rcases hc with rfl|hc
  .rw[wW]at e;cases e
  .rw[wW]at hc;cases hc
 rcases hx with hk|hk
 .refine wpAny_storeName_local hk hn (fun h' hn' hs=>?_) aaL;obtain⟨oL,_,_,VL,_⟩:=id hn;refine h _ ⟨I.ok,I.os,I.bare,⟨fun b o e n hb hx=>?_,fun b o e n hb hx=>?_,I.base.free,fun b o e hx=>?_,I.base.xH,I.base.uF,I.base.qk⟩,⟨_,hn',fun j y v' e1 e2 e3=>?_⟩,fun y c e=>?_,I.free,I.iH,fun p hp=>?_,tracked ⟨oL,VL,I.free⟩ hs,by simpa using I.len⟩ ⟨_,hs,.inl rfl⟩
  .exact(hs.2 b (ajB (ajx (ajf e) I.ok.above))).trans (I.base.keep b o e n hb hx)
  .obtain⟨sl,e1⟩:=I.base.slot b o e n hb hx;exact⟨sl,(hs.2 b (ajB (ajx (ajf e) I.ok.above))).trans e1⟩
  .obtain⟨o',e1⟩:=I.base.there b o e hx;exact⟨o',(hs.2 b (ajB (ajx (ajf e) I.ok.above))).trans e1⟩
  .by_cases hj:j=i
   .subst hj;rw[hi]at e1;cases e1;rw[al6 hiσ]at e2;cases e2;exact⟨u,r,.inl ⟨hk,by simp⟩⟩
   .rw[aml (ajC hj)]at e2;obtain⟨u',r',q⟩:=hl j y v' e1 e2 e3;refine⟨u',r',?_⟩;rcases q with⟨k,e⟩|⟨k,c,e,z⟩
    .refine .inl ⟨k,?_⟩;have:y≠x:=fun e=>hj (tL hN e1 (e▸hi));simp[this,e]
    .exact .inr ⟨k,c,e,z.sameBut hs (Ov y c e)⟩
  .obtain⟨w',z⟩:=I.cell y c e;exact⟨w',z.sameBut hs (Ov y c e)⟩
  .obtain⟨e,n,ne,nf,d⟩:=I.pin p hp;exact⟨(hs.2 p.1 ne).trans e,n,ne,nf,d⟩
 .have Co:X.fn x=true:=by
   rcases hf with z|z
   .exact z
   .rw[z]at hk;cases hk
  obtain⟨c,hc⟩:=I.ok.has x (.inl hk);obtain⟨w',z⟩:=I.cell x c hc;refine wpAny_storeName_cell I.ok.kind hk hc z (fun h' Eh hs=>?_);obtain⟨oc,hoc,aab⟩:=id z;refine h {s with heap:=h'} ⟨I.ok,I.os,I.bare,⟨fun b o e n hb hx=>?_,fun b o e n hb hx=>?_,I.base.free,fun b o e hx=>?_,I.base.xH,I.base.uF,I.base.qk⟩,⟨m,hn.sameBut hs (ajC (Ov x c hc)),fun j y v' e1 e2 e3=>?_⟩,fun y c' e=>?_,I.free,I.iH,fun p hp=>?_,tracked ⟨oc,hoc,I.iH x c hc⟩ hs,by simpa using I.len⟩ ⟨c,hs,.inr hc⟩
  .exact(hs.2 b (ajB (ajx (ajf e) (I.ok.Sy x c Co hc)))).trans (I.base.keep b o e n hb hx)
  .obtain⟨sl,e1⟩:=I.base.slot b o e n hb hx;exact⟨sl,(hs.2 b (ajB (ajx (ajf e) (I.ok.Sy x c Co hc)))).trans e1⟩
  .obtain⟨o',e1⟩:=I.base.there b o e hx;exact⟨o',(hs.2 b (ajB (ajx (ajf e) (I.ok.Sy x c Co hc)))).trans e1⟩
  .by_cases hj:j=i
   .subst hj;rw[hi]at e1;cases e1;rw[al6 hiσ]at e2;cases e2;exact⟨u,r,.inr ⟨.inl hk,c,hc,Eh⟩⟩
   .rw[aml (ajC hj)]at e2;obtain⟨u',r',q⟩:=hl j y v' e1 e2 e3;refine⟨u',r',?_⟩;rcases q with q|⟨k,c',e,z'⟩
    .exact .inl q
    .refine .inr ⟨k,c',e,z'.sameBut hs ?_⟩;rintro rfl;exact hj (tL hN e1 (I.ok.inj _ _ _ e hc▸hi))
  .by_cases jo:c'=c
   .subst jo;exact⟨_,Eh⟩
   .obtain⟨w2,z2⟩:=I.cell y c' e;exact⟨w2,z2.sameBut hs jo⟩
  .obtain⟨e,n,ne,nf,d⟩:=I.pin p hp;refine⟨(hs.2 p.1 ?_).trans e,n,ne,nf,d⟩;intro q;rw[q,hoc]at e;have q':oc=p.2:=ajr e;exact d w' (by rw[<-q'];exact aab)
theorem sR{x:Str}{Q:Unit->Shared->Prop}(I:aV H s)(hN:X.N.Nodup)(hi:X.N[i]?=some x)(hx:Loc X.env.scope x)(r:RelV v u) (h:∀s',Inv X pins (σ.set i (some v)) H s'->Q () s')(hf:X.fn x=true\/X.env.scope.names.lookup x=some .local:=by first|exact .inl rfl|exact .inr rfl|assumption):wpAny M A (storeName X.env x u) Q E s:=vc I hN hi hx r (fun s' I' _=>h s' I') hf
theorem Inv.WW(I:aV H s)(ho:s'.os=s.os)(u:Un (yo X.stack) ch H H' s.heap s'.heap)(bK:jq X.prog X.w H' s'.heap)(hg:AllBare s'.gens) (Ll:∀b∈ch,(b∈X.ex\/X.qm.heap.objs.size<=b)/\b≠X.env.locals/\(∀x c,X.env.cells.lookup x=some c->c≠b)/\∀p∈X.pn++pins,p.1≠b):aV H' s':=by obtain⟨h',g',d',t',o'⟩:=s';have e:o'=s.os:=ho;subst e;exact I.call (g':=g') (t':=t') (d':=d') u bK hg Ll
end
abbrev XK:=Value->Option Addr->Hp->Prop
abbrev St:=List (Option V)
abbrev VK:=V->Hp->Prop
abbrev TE:=St->Hp->VK->Prop
abbrev TT:=St->Hp->(Bool->Hp->Prop)->Prop
abbrev TA:=St->Hp->(List V->Hp->Prop)->Prop
structure Ends where
 nx:St->Hp->Prop
 rt:VK
 bk:St->Hp->Prop:=fun _ _=>False
 ct:St->Hp->Prop:=fun _ _=>False
abbrev TS:=Ends->St->Hp->Prop
def EP(X:Cx)(pins:List (Addr×Obj))(σ:St)(Q:VK)(u:Value)(s':Shared):Prop:=∃v H',aV H' s'/\RelV v u/\Q v H'
def TP(X:Cx)(pins:List (Addr×Obj))(σ:St)(Q:Bool->Hp->Prop)(b:Bool)(s':Shared):Prop:=∃H',aV H' s'/\Q b H'
def AP(X:Cx)(pins:List (Addr×Obj))(σ:St)(Q:List V->Hp->Prop)(us:List Value)(s':Shared):Prop:=∃vs H',aV H' s'/\bI vs us/\Q vs H'
def SP(X:Cx)(pins:List (Addr×Obj))(D:Ends)(f:Flow)(s':Shared):Prop:=
 match f with
 | .next=>∃σ' H',Inv X pins σ' H' s'/\D.nx σ' H'
 | .brk=>∃σ' H',Inv X pins σ' H' s'/\D.bk σ' H'
 | .cont=>∃σ' H',Inv X pins σ' H' s'/\D.ct σ' H'
 | .ret u=>∃v σ' H',Inv X pins σ' H' s'/\RelV v u/\D.rt v H'
def PE(X:Cx)(e:Expr)(t:TE):Prop:=∀(pins:List (Addr×Obj)) (s:Shared) (σ:St) (H:Hp) (Q:VK),aV H s->t σ H Q->gy (eval e X.env) (EP X pins σ Q) X.xe s
def PT(X:Cx)(e:Expr)(t:TT):Prop:=∀(pins:List (Addr×Obj)) (s:Shared) (σ:St) (H:Hp) (Q:Bool->Hp->Prop),aV H s->t σ H Q->gy (isTrue e X.env (eval e X.env)) (TP X pins σ Q) X.xe s
def PW(X:Cx)(e:Expr)(t:TT):Prop:=∀(whole:Sem Value) (pins:List (Addr×Obj)) (s:Shared) (σ:St) (H:Hp) (Q:Bool->Hp->Prop),aV H s->t σ H Q->gy (isTrue e X.env whole) (TP X pins σ Q) X.xe s
theorem PW.pt{t:TT}(h:PW X e t):PT X e t:=h _
def PA(X:Cx)(es:List Expr)(t:TA):Prop:=∀(pos:Pos) (pins:List (Addr×Obj)) (s:Shared) (σ:St) (H:Hp) (Q:List V->Hp->Prop),aV H s->t σ H Q->gy (spliced (backTo pos (starEach es X.env))) (AP X pins σ Q) X.xe s
def PS(X:Cx)(st:Stmt)(t:TS):Prop:=∀(pins:List (Addr×Obj)) (s:Shared) (σ:St) (H:Hp) (D:Ends),aV H s->t D σ H->gy (exec st X.env) (SP X pins D) X.xe s
def BG(X:Cx)(st:List Stmt)(t:TS):Prop:=∀(pins:List (Addr×Obj)) (s:Shared) (σ:St) (H:Hp) (D:Ends),aV H s->t D σ H->gy (execs st X.env) (SP X pins D) X.xe s
theorem cQ{t:Sem α}{Q Q':α->Shared->Prop}(h:wpAny M A t Q E s)(hQ:∀a s,Q a s->Q' a s):wpAny M A t Q' E s:=ake h hQ fun _ _ x=>x
section
theorem bin{a:Expr}(ha:PE X a ta)(hb:PE X b tb)(I:aV H s)(h:ta σ H fun x H1=>tb σ H1 fun y H2=>R x y H2) {Q:α->Shared->Prop}{f:Value->Value->Sem α} (hf:∀v u s2 x y H2,aV H2 s2->RelV x v->RelV y u->R x y H2->gy (f v u) Q X.xe s2):gy (eval a X.env) (fun v s₁=>gy (eval b X.env) (fun u s₂=>gy (f v u) Q X.xe s₂) X.xe s₁) X.xe s:=by refine cQ (ha pins s σ H _ I h) fun v s1 ⟨x,H1,I1,r1,q1⟩=>?_;refine cQ (hb pins s1 σ H1 _ I1 q1) fun u s2 ⟨y,H2,I2,r2,q2⟩=>?_;exact hf v u s2 x y H2 I2 r1 r2 q2
def He(i:Nat):TE:=fun σ H Q=>∃v,σ[i]?=some (some v)/\Q v H
def tC(v:V):TE:=fun _ H Q=>Q v H
theorem JV{x:Str}{pos:Pos}(hN:X.N[i]?=some x)(hv:Rt X.env.scope x)(hd:(x==("__debug__":Str))=false:=by decide)(uD:(x==("__classdict__":Str))=false:=by decide):PE X (.Name x pos) (He i):=by
 intro pins s σ H Q I h;obtain⟨v,e,h⟩:=h;obtain⟨m,hn,hl⟩:=I.loc;obtain⟨u,r,l⟩:=hl i x v hN e hv;have fin:EP X pins σ Q u s:=⟨v,H,I,r,h⟩;rcases l with⟨hk,hm⟩|⟨hk,c,hc,Eg⟩
 .exact wpAny_Name (wpAny_loadName_local I.ok.kind hk hn hm fin) hd
 .rcases hk with hk|hk
  .exact wpAny_Name (wpAny_loadName_cell I.ok.kind hk hc Eg fin) hd
  .exact wpAny_Name (wpAny_loadName_free I.ok.kind hk hc Eg fin uD) hd
theorem aK{i j pos}:PE X (.Constant (.int i) j pos) (tC (.int i)):=fun _ _ _ H _ I h=>wpAny_Constant_int ⟨.int i,H,I.tok _,⟨_,rfl⟩,h⟩
theorem gN{b j pos}:PE X (.Constant (.bool b) j pos) (tC (.bl b)):=fun _ _ _ H _ I h=>Constant_bool ⟨.bl b,H,I,rfl,h⟩
theorem iA{j pos}:PE X (.Constant .none j pos) (tC .cW):=fun _ _ _ H _ I h=>Constant_none ⟨.cW,H,I,rfl,h⟩
def Gl(X:Cx)(x:Str):Prop:=X.env.kindOf x=some .globalImplicit
theorem oM{x:Str}{pos:Pos}(I:aV H s)(hg:Gl X x)(hm:X.mg x=some u)(h:Q u s) (hd:(x==("__debug__":Str))=false:=by decide):gy (eval (.Name x pos) X.env) Q E s:=am3 I.ok.kind hg (Calls.loadGlobal_global (by rw[I.ok.glob];exact I.mod.glob.keeps I.bk) hm h) hd
theorem kx{x:Str}{pos:Pos}(I:aV H s)(hg:Gl X x)(hm:X.mg x=none)(hv:bootBuiltins x=some u)(h:Q u s) (hn:x≠"__name__":=by decide)(hd:(x==("__debug__":Str))=false:=by decide):gy (eval (.Name x pos) X.env) Q E s:=by obtain⟨mb,h1,h2⟩:=I.mod.blt;exact am3 I.ok.kind hg (Calls.loadGlobal_builtin (by rw[I.ok.glob];exact I.mod.glob.keeps I.bk) hm (by rw[I.ok.blt];exact h1.keeps I.bk) ((h2 x hn).trans hv) h) hd
theorem D3{x:Str}{pos:Pos}(hg:Gl X x)(hm:X.mg x=some u)(r:RelV v u)(hd:(x==("__debug__":Str))=false:=by decide):PE X (.Name x pos) (tC v):=fun _ _ _ H _ I h=>oM I hg hm ⟨v,H,I,r,h⟩ hd
variable{a:Expr}{pos:Pos}
def PC(X:Cx)(op:CmpOp)(a b:Expr)(t:TE):Prop:=∀(pins:List (Addr×Obj)) (s:Shared) (σ:St) (H:Hp) (Q:VK),aV H s->t σ H Q->gy (eval a X.env) (fun v s₁=>gy (eval b X.env) (fun u s₂=>gy (compareOp op v u) (EP X pins σ Q) X.xe s₂) X.xe s₁) X.xe s
theorem zd(b:Expr)(h:op≠ .In)(h2:op≠ .NotIn):behindInMarks op b=false:=by have e1:(op==CmpOp.In)=false:=(by cases op<;>first|rfl|exact absurd rfl h);have e2:(op==CmpOp.NotIn)=false:=(by cases op<;>first|rfl|exact absurd rfl h2);cases b<;>simp[behindInMarks,e1,e2]
def TN(ta:TE):TE:=fun σ H Q=>ta σ H fun x H1=>Q (.bl (!decide (x= .cW))) H1
theorem RelV.Js{x:V}{v:Value}(r:RelV x v):(v==Value.none)=decide (x= .cW):=by
 cases x with
 |cW=>cases r;rfl
 |bl _=>cases r;rfl
 |int _=>obtain⟨t,rfl⟩:=r;rfl
 |str _=>obtain⟨t,rfl⟩:=r;rfl
 |yU _=>obtain⟨t,rfl⟩:=r;rfl
 |WD _=>obtain⟨t,rfl⟩:=r;rfl
 |ref _=>cases r;rfl
 |ty _=>cases r;rfl
theorem xo{j pos'}(ha:PE X a ta):PC X .IsNot a (.Constant .none j pos') (TN ta):=by intro pins s σ H Q I h;refine cQ (ha pins s σ H _ I h) fun v s1 ⟨x,H1,I1,r1,q1⟩=>?_;exact Constant_none (isnot_none_gen ⟨.bl _,H1,I1,by rw[r1.Js];rfl,q1⟩)
def tB(t:TE):TT:=fun σ H Q=>t σ H fun x H1=>∃c,x= .bl c/\Q c H1
theorem kZ{t:TE}(h:PC X op a b t)(h1:behindInMarks op b=false:=by first|exact zd _ (by decide) (by decide)|rfl):PE X (.Compare a [op] [b] pos) t:=fun pins s σ H Q I hw=>wpAny_Compare1 (h pins s σ H Q I hw) h1
theorem b9{t:TE}(h:PC X op a b t)(h1:behindInMarks op b=false:=by first|exact zd _ (by decide) (by decide)|rfl):PT X (.Compare a [op] [b] pos) (tB t):=by intro pins s σ H Q I hw;refine wpAny_isTrue_Compare1 (cQ (h pins s σ H _ I hw) fun v s1 h1=>cQ h1 fun u s2 h2=>cQ h2 fun c s3 ⟨x,H1,I1,r1,q1⟩=>?_) h1;obtain⟨d,rfl,q⟩:=q1;cases r1;exact akw ⟨H1,I1,q⟩
theorem bF{t:TE}(h:PE X e t)(he:∀whole,isTrue e X.env whole=(do let v<-whole;standAt e.pos;holding [v] (truthy v)):=by intro _;rfl):PT X e (tB t):=by intro pins s σ H Q I hw;refine isTrue_plain (cQ (h pins s σ H _ I hw) fun v s1 ⟨x,H1,I1,r1,q1⟩=>?_) (he _);obtain⟨d,rfl,q⟩:=q1;cases r1;exact akw ⟨H1,I1,q⟩
variable{rest:List Expr}
def YJ(t u:TT):TT:=fun σ H Q=>t σ H fun c H1=>if c=true then u σ H1 Q else Q false H1
def tOr(t u:TT):TT:=fun σ H Q=>t σ H fun c H1=>if c=true then Q true H1 else u σ H1 Q
def YE(t:TT):TT:=fun σ H Q=>t σ H fun c H1=>Q (!c) H1
theorem jO(ha:PT X a tA):PW X (.BoolOp .And [a] pos) tA:=by
 intro wh pins s σ H Q I h;refine isTrue_and (cQ (ha pins s σ H Q I h) fun c s1 e=>?_);cases c with
 |true=>exact isTrue_and_nil e
 |false=>exact e
theorem JP(ha:PT X a tA):PW X (.BoolOp .Or [a] pos) tA:=by
 intro wh pins s σ H Q I h;refine isTrue_or (cQ (ha pins s σ H Q I h) fun c s1 e=>?_);cases c with
 |false=>exact isTrue_or_nil e
 |true=>exact e
theorem jP(ha:PT X a tA)(hb:PW X (.BoolOp .And (b::rest) pos) Wo):PW X (.BoolOp .And (a::b::rest) pos) (YJ tA Wo):=by
 intro wh pins s σ H Q I h;refine isTrue_and (cQ (ha pins s σ H _ I h) fun c s1 ⟨H1,I1,q1⟩=>?_);cases c with
 |true=>exact hb wh pins s1 σ H1 Q I1 q1
 |false=>exact⟨H1,I1,q1⟩
theorem JQ(ha:PT X a tA)(hb:PW X (.BoolOp .Or (b::rest) pos) Wo):PW X (.BoolOp .Or (a::b::rest) pos) (tOr tA Wo):=by
 intro wh pins s σ H Q I h;refine isTrue_or (cQ (ha pins s σ H _ I h) fun c s1 ⟨H1,I1,q1⟩=>?_);cases c with
 |true=>exact⟨H1,I1,q1⟩
 |false=>exact hb wh pins s1 σ H1 Q I1 q1
theorem cn(ha:PT X a tA):PT X (.UnaryOp .Not a pos) (YE tA):=by intro pins s σ H Q I h;exact isTrue_not (ha pins s σ H (fun c H1=>Q (!c) H1) I h)
def TZ(ta tb:TE):TE:=fun σ H Q=>ta σ H fun x H1=>∃c,x= .bl c/\if c=true then tb σ H1 Q else Q (.bl false) H1
def YD(ta tb:TE):TE:=fun σ H Q=>ta σ H fun x H1=>∃c,x= .bl c/\if c=true then Q (.bl true) H1 else tb σ H1 Q
theorem pO{op}{t:TE}(h:PE X a t):PE X (.BoolOp op [a] pos) t:=fun pins s σ H Q I hw=>BoolOp_one (h pins s σ H Q I hw)
theorem tI(ha:PE X a ta)(hb:PE X (.BoolOp .And (b::rest) pos) tb):PE X (.BoolOp .And (a::b::rest) pos) (TZ ta tb):=by
 intro pins s σ H Q I h;refine BoolOp_and (cQ (ha pins s σ H _ I h) fun v s1 ⟨x,H1,I1,r1,q1⟩=>?_);obtain⟨c,rfl,q1⟩:=q1;cases r1;refine akw ?_;cases c with
 |true=>exact hb pins s1 σ H1 Q I1 q1
 |false=>exact⟨.bl false,H1,I1,rfl,q1⟩
theorem T8(ha:PE X a ta)(hb:PE X (.BoolOp .Or (b::rest) pos) tb):PE X (.BoolOp .Or (a::b::rest) pos) (YD ta tb):=by
 intro pins s σ H Q I h;refine BoolOp_or (cQ (ha pins s σ H _ I h) fun v s1 ⟨x,H1,I1,r1,q1⟩=>?_);obtain⟨c,rfl,q1⟩:=q1;cases r1;refine akw ?_;cases c with
 |false=>exact hb pins s1 σ H1 Q I1 q1
 |true=>exact⟨.bl true,H1,I1,rfl,q1⟩
def tIf(t:TT)(ta tb:TE):TE:=fun σ H Q=>t σ H fun c H1=>if c=true then ta σ H1 Q else tb σ H1 Q
theorem i5(hc:PT X c tA)(ha:PE X a ta)(hb:PE X b tb):PE X (.IfExp c a b pos) (tIf tA ta tb):=by
 intro pins s σ H Q I h;refine wpAny_IfExp (cQ (hc pins s σ H _ I h) fun d s1 ⟨H1,I1,q1⟩=>?_);cases d with
 |true=>exact ha pins s1 σ H1 Q I1 q1
 |false=>exact hb pins s1 σ H1 Q I1 q1
end
def ae(K:W.Frag)(H:Hp)(a:Addr)(xs:List V):Prop:=Rd H a (.lst xs)\/ ∃(o:Obj) (bE:Array Value) (n:Nat),K.lookup a=some o/\o.cls= .type "list"/\o.dict=none/\o.data= .seq bE n/\bE.size<=sizeLine/\bI xs bE.toList
def gF(K:W.Frag)(H:Hp)(a:Addr)(xs:List V):Prop:=Rd H a (.tup xs)\/ ∃(o:Obj) (bE:Array Value) (n:Nat),K.lookup a=some o/\o.cls= .type "tuple"/\o.data= .seq bE n/\bE.size<=sizeLine/\bI xs bE.toList
def abr:Value->Option V
 | .none=>some .cW
 | .bool b=>some (.bl b)
 | .int i _=>some (.int i)
 | .str x _=>some (.str x)
 | .bytes b _=>some (.yU b)
 | .float b _=>some (.WD b)
 | .ref a=>some (.ref a)
 | .type n=>some (.ty n)
 |_=>none
theorem RelV.abs{x:V}(r:RelV x u):abr u=some x:=by
 cases x with
 |cW=>cases r;rfl
 |bl _=>cases r;rfl
 |int _=>obtain⟨t,rfl⟩:=r;rfl
 |str _=>obtain⟨t,rfl⟩:=r;rfl
 |yU _=>obtain⟨t,rfl⟩:=r;rfl
 |WD _=>obtain⟨t,rfl⟩:=r;rfl
 |ref _=>cases r;rfl
 |ty _=>cases r;rfl
theorem RelV.inj{x:V}(r:RelV x u)(q:RelV y u):x=y:=ajr (r.abs.symm.trans q.abs)
theorem bI.inj:∀{xs ys:List V} {us:List Value},bI xs us->bI ys us->xs=ys
 |_,_,_,.nil,.nil=>rfl
 |_,_,_,.cons r t,.cons r' t'=>by rw[r.inj r',bI.inj t t']
theorem ae.of{K:W.Frag}(h:H a=some (.lst xs)):ae K H a xs:= .inl (.inl h)
theorem gF.of{K:W.Frag}(h:H a=some (.tup xs)):gF K H a xs:= .inl (.inl h)
theorem Inv.list(I:aV H s)(h:ae X.K H a xs):∃bE:List Value,bI xs bE/\PlainL s.heap a bE.toArray/\xs.length<=sizeLine:=by
 rcases h with h|⟨o,bE,n,hk,hc,hd,hs,hz,r⟩
 .obtain⟨z,bE,n,r,e⟩:=h.ok I.bK;exact⟨bE,r,⟨_,n,e,Z,Z,Z⟩,z⟩
 .refine⟨bE.toList,r,⟨o,n,I.CU a o hk,hc,hd,by simpa using hs⟩,?_⟩;have e:=r.length;simp only[ajv]at e;omega
theorem Inv.tuple(I:aV H s)(h:gF X.K H a xs):∃bE:List Value,bI xs bE/\IsTup s.heap a bE.toArray/\xs.length<=sizeLine:=by
 rcases h with h|⟨o,bE,n,hk,hc,hs,hz,r⟩
 .obtain⟨z,bE,r,p⟩:=h.ok I.bK;exact⟨bE,r,p,z⟩
 .refine⟨bE.toList,r,⟨o,I.CU a o hk,hc,n,by simpa using hs⟩,?_⟩;have e:=r.length;simp only[ajv]at e;omega
theorem Inv.oK(I:aV H s)(h:ae X.K H a xs)(h':ae X.K H a ys):xs=ys:=by obtain⟨bE,r,⟨o,n,e,_,_,d⟩,_⟩:=I.list h;obtain⟨its',r',⟨o',n',e',_,_,d'⟩,_⟩:=I.list h';rw[e]at e';cases e';rw[d]at d';injection d' with d1 _;have:bE=its':=(by simpa using akc Array.toList d1);subst this;exact r.inj r'
abbrev Cx.ux(X:Cx)(E:Value->Shared->Prop):Cx:={X with xe:=E}
abbrev Cx.ON(X:Cx):Cx:=X.ux fun _ _=>False
theorem Cx.Ok.ux(ok:X.Ok)(E:Value->Shared->Prop):(X.ux E).Ok:=⟨ok.mod,ok.kind,ok.glob,ok.blt,ok.above,ok.inj,ok.has,ok.Sy,ok.hd,ok.frames,ok.Td,ok.Xz,ok.bs,ok.HL,ok.Ju,ok.K3,ok.mx,ok.NS⟩
theorem Cx.Ok.kN(ok:(X.ux E).Ok):X.Ok:=⟨ok.mod,ok.kind,ok.glob,ok.blt,ok.above,ok.inj,ok.has,ok.Sy,ok.hd,ok.frames,ok.Td,ok.Xz,ok.bs,ok.HL,ok.Ju,ok.K3,ok.mx,ok.NS⟩
theorem Inv.ux(I:aV H s)(E:Value->Shared->Prop):Inv (X.ux E) pins σ H s:=⟨I.ok.ux E,I.os,I.bare,I.base,I.loc,I.cell,I.free,I.iH,I.pin,I.bK,I.len⟩
theorem Inv.kN(I:Inv (X.ux E) pins σ H s):aV H s:=⟨I.ok.kN,I.os,I.bare,I.base,I.loc,I.cell,I.free,I.iH,I.pin,I.bK,I.len⟩
theorem SP.kN{f:Flow}(h:SP (X.ux E) pins D f s'):SP X pins D f s':=by
 cases f with
 |next=>obtain⟨σ',H',I,q⟩:=h;exact⟨σ',H',I.kN,q⟩
 |brk=>obtain⟨σ',H',I,q⟩:=h;exact⟨σ',H',I.kN,q⟩
 |cont=>obtain⟨σ',H',I,q⟩:=h;exact⟨σ',H',I.kN,q⟩
 |ret u=>obtain⟨v,σ',H',I,r,q⟩:=h;exact⟨v,σ',H',I.kN,r,q⟩
theorem BG.ON{st:List Stmt}{t:TS}(h:BG X.ON st t):BG X st t:=fun pins s σ H D I hw=>
 ake (h pins s σ H D (I.ux _) hw) (fun _ _ q=>q.kN) fun _ _ z=>False.elim z
section
variable{st:Stmt}{rest:List Stmt}{t u:TS}{pos:Pos}
def TQ:TS:=fun D σ H=>D.nx σ H
def YC(t u:TS):TS:=fun D σ H=>t {D with nx:=u D} σ H
theorem aN:BG X [] TQ:=fun _ _ σ H _ I h=>al9 ⟨σ,H,I,h⟩
theorem aD(h1:PS X st t)(h2:BG X rest u):BG X (st::rest) (YC t u):=by
 intro pins s σ H D I h;refine wpAny_execs_cons (cQ (h1 pins s σ H {D with nx:=u D} I h) fun f s1 q=>?_);cases f with
 |next=>
  obtain⟨σ',H',I',q⟩:=q;exact h2 pins s1 σ' H' D I' q
 |ret v=>exact q
 |brk=>exact q
 |cont=>exact q
theorem aE(h1:PS X st t):BG X [st] t:=by
 intro pins s σ H D I h;refine wpAny_execs_cons (cQ (h1 pins s σ H D I h) fun f s1 q=>?_);cases f with
 |next=>exact al9 q
 |ret v=>exact q
 |brk=>exact q
 |cont=>exact q
theorem Inv.quiet(I:aV H s):interactive X.env=false:=by simp[interactive,I.ok.kind]
def TX(te:TE):TS:=fun D σ H=>te σ H fun _ H1=>D.nx σ H1
theorem bp(he:PE X e te)(hs:swapsWith e none pos.line X.env=pure false:=by rfl):PS X (.Expr e pos) (TX te):=by intro pins s σ H D I h;exact wpAny_Expr_any (cQ (he pins s σ H _ I h) fun v s1 ⟨x,H1,I1,r1,q1⟩=>⟨σ,H1,I1,q1⟩) I.quiet hs
def TJ(te:TE):TS:=fun D σ H=>te σ H D.rt
theorem aH(he:PE X e te):PS X (.Return (some e) pos) (TJ te):=by intro pins s σ H D I h;exact wpAny_Return_some (cQ (he pins s σ H _ I h) fun v s1 ⟨x,H1,I1,r1,q1⟩=>⟨x,σ,H1,I1,r1,q1⟩)
def YF(c:TT)(t u:TS):TS:=fun D σ H=>c σ H fun b H1=>if b=true then t D σ H1 else u D σ H1
theorem aZ{a b:List Stmt}{tc:TT}(hc:PT X c tc)(ha:BG X a t)(hb:BG X b u):PS X (.If c a b pos) (YF tc t u):=by
 intro pins s σ H D I h;refine wpAny_If (cQ (hc pins s σ H _ I h) fun d s1 ⟨H1,I1,q1⟩=>?_);cases d with
 |true=>exact ha pins s1 σ H1 D I1 q1
 |false=>exact hb pins s1 σ H1 D I1 q1
end
abbrev TG:=V->St->Hp->(St->Hp->Prop)->Prop
abbrev Ru:=List V->St->Hp->(St->Hp->Prop)->Prop
def PG(X:Cx)(target:Expr)(t:TG):Prop:=∀(pins:List (Addr×Obj)) (s:Shared) (σ:St) (H:Hp) (v:V) (u:Value) (Q:St->Hp->Prop),aV H s->RelV v u->t v σ H Q->gy (assign target X.env u) (fun _ s'=>∃σ' H',Inv X pins σ' H' s'/\Q σ' H') X.xe s
def X2(X:Cx)(ts:List Expr)(t:Ru):Prop:=∀(pins:List (Addr×Obj)) (s:Shared) (σ:St) (H:Hp) (vs:List V) (us:List Value) (Q:St->Hp->Prop),aV H s->bI vs us->t vs σ H Q->gy (assignInOrder ((assignEach ts X.env).map (·.2)) us) (fun _ s'=>∃σ' H',Inv X pins σ' H' s'/\Q σ' H') X.xe s
abbrev X1:=V->V->Hp->VK->Prop
def PIp(X:Cx)(op:Operator)(t:X1):Prop:=∀(pins:List (Addr×Obj)) (s:Shared) (σ:St) (H:Hp) (x y:V) (v u:Value) (Q:VK),aV H s->RelV x v->RelV y u->t x y H Q->gy (inplaceOp op v u) (EP X pins σ Q) X.xe s
section
variable{pos:Pos}
def wg(i:Nat):TG:=fun v σ H Q=>Q (σ.set i (some v)) H
theorem D2{x:Str}(hN:X.N.Nodup)(hi:X.N[i]?=some x)(hx:Loc X.env.scope x)(hf:X.fn x=true\/X.env.scope.names.lookup x=some .local:=by first|exact .inl rfl|exact .inr rfl|assumption):PG X (.Name x pos) (wg i):=by intro pins s σ H v u Q I r h;exact wpAny_assign_Name (sR I hN hi hx r (fun s' I'=>⟨_,H,I',h⟩) hf)
theorem zG{x:Str}(i:Nat)(hN:X.N.Nodup)(hi:X.N[i]?=some x:=by rfl)(hx:Loc X.env.scope x:=by exact Or.inl rfl)(hf:X.fn x=true\/X.env.scope.names.lookup x=some .local:=by first|exact .inl rfl|exact .inr rfl|assumption):PG X (.Name x pos) (wg i):=D2 hN hi hx hf
def aa2:Ru:=fun vs σ H Q=>vs=[]/\Q σ H
def WB(t:TG)(u:Ru):Ru:=fun vs σ H Q=>∃v r,vs=v::r/\t v σ H fun σ' H'=>u r σ' H' Q
theorem D0:X2 X [] aa2:=by intro pins s σ H vs us Q I r h;obtain⟨e,h⟩:=h;subst e;cases r;exact assignInOrder_nil ⟨σ,H,I,h⟩
theorem nj{t:TG}{u:Ru}(h1:PG X e t)(h2:X2 X es u) (hs:(assignEach (e::es) X.env).map (·.2)=assign e X.env::(assignEach es X.env).map (·.2):=by rfl):X2 X (e::es) (WB t u):=by
 intro pins s σ H vs us Q I r h;obtain⟨v,vr,e1,h⟩:=h;subst e1;cases r with
 |cons r rr=>
  rw[hs];refine assignInOrder_cons (cQ (h1 pins s σ H _ _ _ I r h) fun _ s1 ⟨σ1,H1,I1,q1⟩=>?_);exact h2 pins s1 σ1 H1 _ _ Q I1 rr q1
def aa1(K:W.Frag)(n:Nat)(t:Ru):TG:=fun v σ H Q=>∃a xs,v= .ref a/\gF K H a xs/\xs.length=n/\t xs σ H Q
theorem JT{k:Nat}{t:Ru}(hc:X.calm=true)(h:X2 X es t) (hn:(assignEach es X.env).length=n:=by rfl)(lx:(assignEach es X.env).findIdx? (·.1)=none:=by rfl):PG X (.Tuple es k pos) (aa1 X.K n t):=by intro pins s σ H v u Q I r hw;obtain⟨a,xs,e1,hq,hl,hw⟩:=hw;subst e1;cases r;obtain⟨bE,rv,ht,hz⟩:=I.tuple hq;refine assign_Tuple_tuple (I.ok.hd hc) ht (by simp[hn,<-hl,rv.length]) lx fun h' hx=>?_;have I1:aV H {s with heap:=h'}:=I.kept (t':=s.toks) fun b o e=>hx b o (ajB (ajf e)) e;exact h pins _ σ H xs _ Q I1 (by simpa using rv) hw
def PJ(te:TE)(g:TG):TS:=fun D σ H=>te σ H fun x H1=>g x σ H1 D.nx
theorem gT{x:Str}(hN:X.N.Nodup)(hi:X.N[i]?=some x)(hx:Loc X.env.scope x)(he:PE X e te)(hs:swapsWith e (some (.Name x pos')) pos.line X.env=pure false:=by rfl)(hf:X.fn x=true\/X.env.scope.names.lookup x=some .local:=by first|exact .inl rfl|exact .inr rfl|assumption):PS X (.Assign [.Name x pos'] e pos) (PJ te (wg i)):=by intro pins s σ H D I h;refine wpAny_Assign_Name (cQ (he pins s σ H _ I h) fun v s1 ⟨y,H1,I1,r1,q1⟩=>?_) hs;exact sR I1 hN hi hx r1 (fun s2 I2=>⟨_,H1,I2,q1⟩) hf
theorem zS{x:Str}(i:Nat)(hN:X.N.Nodup)(he:PE X e te)(hi:X.N[i]?=some x:=by rfl)(hx:Loc X.env.scope x:=by exact Or.inl rfl)(hs:swapsWith e (some (.Name x pos')) pos.line X.env=pure false:=by rfl)(hf:X.fn x=true\/X.env.scope.names.lookup x=some .local:=by first|exact .inl rfl|exact .inr rfl|assumption):PS X (.Assign [.Name x pos'] e pos) (PJ te (wg i)):=gT hN hi hx he hs hf
def YI(i:Nat)(te:TE)(ti:X1):TS:=fun D σ H=>∃x,σ[i]?=some (some x)/\te σ H fun y H1=>ti x y H1 fun z H2=>D.nx (σ.set i (some z)) H2
theorem xl{x:Str}{op:Operator}{ti:X1}(hN:X.N.Nodup)(hi:X.N[i]?=some x)(hx:Loc X.env.scope x)(he:PE X e te)(ho:PIp X op ti)(hf:X.fn x=true\/X.env.scope.names.lookup x=some .local:=by first|exact .inl rfl|exact .inr rfl|assumption):PS X (.AugAssign (.Name x pos') op e pos) (YI i te ti):=by
 intro pins s σ H D I h;obtain⟨v,e1,h⟩:=h;obtain⟨m,hn,hl⟩:=I.loc;have vis:Rt X.env.scope x:=(by rcases hx with k|k;exact .inl k;exact .inr (.inl k));obtain⟨u,r,l⟩:=hl i x v hi e1 vis;refine wpAny_AugAssign_Name ?_;have go:gy (eval e X.env) (fun w s₂=>gy (inplaceOp op u w) (fun r s₃=>gy (storeName X.env x r) (fun _=>SP X pins D .next) X.xe s₃) X.xe s₂) X.xe s:=(by refine cQ (he pins s σ H _ I h) fun w s1 ⟨y,H1,I1,r1,q1⟩=>?_;refine cQ (ho pins s1 σ H1 v y u w _ I1 r r1 q1) fun z s2 ⟨zv,H2,I2,r2,q2⟩=>?_;exact sR I2 hN hi hx r2 (fun s3 I3=>⟨_,H2,I3,q2⟩) hf);rcases l with⟨hk,hm⟩|⟨hk,c,hc,Eg⟩
 .exact wpAny_loadName_local I.ok.kind hk hn hm go
 .rcases hk with hk|hk
  .exact wpAny_loadName_cell I.ok.kind hk hc Eg go
  .rcases hx with k|k
   .have:X.env.scope.names.lookup x=some .free:=hk;rw[k]at this;cases this
   .have:X.env.scope.names.lookup x=some .free:=hk;rw[k]at this;cases this
def ipI(f:Int->Int->Int):X1:=fun x y H Q=>∃i j,x= .int i/\y= .int j/\Q (.int (f i j)) H
theorem yA:PIp X .Add (ipI fun i j=>i+j):=by intro pins s σ H x y v u Q I r1 r2 h;obtain⟨i,j,e1,e2,q⟩:=h;subst e1;subst e2;obtain⟨t,rfl⟩:=r1;obtain⟨t',rfl⟩:=r2;exact iadd_int ⟨.int _,H,I.tok _,⟨_,Z⟩,q⟩
end
section
variable{pos:Pos}
def Hd(c:TT)(tb:TS):TS:=fun D σ H=>∃W:Nat->St->Hp->Prop,(∃m,W m σ H)/\∀m σ H,W m σ H->c σ H fun b H1=>if b=true then∃N:St->Hp->Prop,(∀σ' H',N σ' H'->∃m',m'<m/\W m' σ' H')/\tb {D with nx:=N,ct:=N,bk:=D.nx} σ H1 else D.nx σ H1
theorem i0{tc:TT}{tb:TS}(hp:PassesOwn (model X.prog X.w) X.A X.env X.xe)(hc:PT X c tc)(hb:BG X body tb):PS X (.While c body [] pos) (Hd tc tb):=by
 intro pins s σ H D I h;obtain⟨W,⟨m0,w0⟩,turn⟩:=h;refine wpAny_While (codeAny_whileLoop (fun n s'=>∃σ' H',Inv X pins σ' H' s'/\W n σ' H') ?_ m0 ⟨σ,H,I,w0⟩);rintro n s1 ⟨σ1,H1,I1,w1⟩;refine ak9 hp (cQ (hc pins s1 σ1 H1 _ I1 (turn n σ1 H1 w1)) fun b s2 ⟨H2,I2,q2⟩=>?_);cases b with
 |true=>
  obtain⟨N,hN,q2⟩:=q2;rw[ai5 rfl];refine ak9 hp (cQ (hb pins s2 σ1 H2 _ I2 q2) fun f s3 q3=>?_);cases f with
  |next=>
   obtain⟨σ3,H3,I3,n3⟩:=q3;obtain⟨m',hm,w3⟩:=hN σ3 H3 n3;exact⟨m',hm,σ3,H3,I3,w3⟩
  |cont=>
   obtain⟨σ3,H3,I3,n3⟩:=q3;obtain⟨m',hm,w3⟩:=hN σ3 H3 n3;exact⟨m',hm,σ3,H3,I3,w3⟩
  |brk=>exact q3
  |ret v=>exact q3
 |false=>
  rw[ai0 ajg];exact al9 ⟨σ1,H2,I2,q2⟩
end
structure It where
 go:Nat->Hp->Prop
 HV:Nat->Hp->V->Hp->Prop
 stop:Nat->Hp->Prop
def rQ(X:Cx)(pins:List (Addr×Obj))(H:Hp)(b:Addr):Prop:=H b=none/\b≠X.env.locals/\b∉X.fs/\(b∈X.ex\/X.qm.heap.objs.size<=b)/\(∀x c,X.env.cells.lookup x=some c->c≠b)/\∀p∈X.pn++pins,p.1≠b
theorem Inv.Kx{b:Addr}(I:aV H s)(hb:s.heap.objs.size<=b)(hn:H' b=none):rQ X pins H' b:=by
 refine⟨hn,alD (ajx I.lt hb),I.UZ hb,.inr (ajq I.sz hb),fun x c e z=>?_,fun p hp z=>?_⟩
 .obtain⟨v,q⟩:=I.cell x c e;exact absurd (ajx q.lt (by rw[z];exact hb)) (aj5 _)
 .exact absurd (ajx (ajf (I.pin p hp).1) (by rw[z];exact hb)) (aj5 _)
structure Turn(P:Program)(w:World)(K:W.Frag)(tg:Expr)(J:It)(fp:List Addr)(it:Addr)(tn:Nat->Heap->Prop):Prop where
 mem:it∈fp
 obj:∀i h,tn i h->∀b∈fp,∃o,h.get? b=some o/\∀v,o.data≠ .cell v
 keep:∀i h h',tn i h->(∀b∈fp,∀o,h.get? b=some o->h'.get? b=some o)->tn i h'
 item:∀(X:Cx),X.prog=P->X.w=w->X.K=K->X.calm=true->∀(i:Nat) (pins:List (Addr×Obj)) (s:Shared) (σ:St) (H:Hp) (E:Value->Shared->Prop),Inv X pins σ H s->(∀b∈fp,rQ X pins H b)->tn i s.heap->J.go i H->
  wpAny (model P w) X.A (pyNext (.ref it)) (fun r s1=>∃u,r=some u/\
   wpAny (model P w) X.A (letOwnedTupleGo tg (.ref it) u) (fun _ s2=>∃x H',Inv X pins σ H' s2/\RelV x u/\J.HV i H x H'/\tn (i+1) s2.heap/\∀b∈fp,H' b=none) E s1) E s
 done:∀(X:Cx),X.prog=P->X.w=w->X.K=K->X.calm=true->∀(i:Nat) (pins:List (Addr×Obj)) (s:Shared) (σ:St) (H:Hp) (E:Value->Shared->Prop),Inv X pins σ H s->(∀b∈fp,rQ X pins H b)->tn i s.heap->J.stop i H->
  wpAny (model P w) X.A (pyNext (.ref it)) (fun r s1=>r=none/\Inv X pins σ H s1) E s
 self:∀(A:Around) (i:Nat) (s:Shared) (Q:Value->Shared->Prop) (E:Value->Shared->Prop),tn i s.heap->Q (.ref it) s->wpAny (model P w) A (pyIter (.ref it)) Q E s
abbrev TI:=St->Hp->(It->Hp->Prop)->Prop
def PIE(X:Cx)(pins:List (Addr×Obj))(σ:St)(tg:Expr)(R:It->Hp->Prop)(ZZ:Value)(s2:Shared):Prop:=∃(it:Addr) (fp:List Addr) (tn:Nat->Heap->Prop) (J:It) (H':Hp),ZZ= .ref it/\aV H' s2/\Turn X.prog X.w X.K tg J fp it tn/\tn 0 s2.heap/\(∀b∈fp,rQ X pins H' b)/\R J H'
def PI(X:Cx)(tg iter:Expr)(wi:TI):Prop:=∀(pins:List (Addr×Obj)) (s:Shared) (σ:St) (H:Hp) (R:It->Hp->Prop),aV H s->wi σ H R->gy (eval iter X.env) (fun v s1=>gy (pyIter v) (PIE X pins σ tg R) X.xe s1) X.xe s
theorem we{o:Obj}{n:String}{vs:Array Value}{Q:Unit->Shared->Prop}(ho:s.heap.get? it=some o)(hc:o.cls= .type n)(hd:o.data= .fields vs) (hn:["enumerate","zip","dict_itemiterator","dict_reverseitemiterator","odict_iterator","itertools.zip_longest","itertools.pairwise"].contains n=false)(hQ:Q () s):wpAny M A (letOwnedTupleGo tg (.ref it) u) Q E s:=by
 unfold letOwnedTupleGo;cases tg<;>first
  |exact ai4 hQ
  |(cases u<;>first
    |exact ai4 hQ
    |(refine aiR (wpAny_load ho ?_)
      rw[hc,hd];show wpAny M A (if(["enumerate","zip","dict_itemiterator","dict_reverseitemiterator","odict_iterator","itertools.zip_longest","itertools.pairwise"].contains n&&vs[0]?==some (rawInt _))=true then _ else _) Q E s;rw[ai0 (by intro h;rw[hn,akB]at h;cases h)];exact ai4 hQ))
def Oy(K:W.Frag)(a:Addr):It:=⟨fun i H=>∃xs x,ae K H a xs/\xs[i]?=some x,fun i H x H'=>H'=H/\∀xs,ae K H a xs->xs[i]?=some x,fun i H=>∃xs,ae K H a xs/\xs.length<=i⟩
def X4(lo:Int)(n:Nat):It:=⟨fun i _=>i<n,fun i H x H'=>H'=H/\x= .int (lo+i),fun i _=>n<=i⟩
theorem FH{K:W.Frag}(a it:Addr):Turn P w K tg (Oy K a) [it] it (fun i h=>h.IsListIter it a i)where
 mem:=by simp
 obj:=fun i h st b hb=>by have e:b=it:=(by simpa using hb);subst e;obtain⟨o,e,c,d⟩:=st;exact⟨o,e,fun v z=>by rw[d]at z;cases z⟩
 keep:=fun i h h' st k=>st.at fun o e=>k it (by simp) o e
 item:=by intro X hP hw hK hc i pins s σ H E I hf st hg;subst hP hw hK;obtain⟨xs,x,hq,hx⟩:=hg;obtain⟨bE,rv,p,hz⟩:=I.list hq;obtain⟨u,hu,ru⟩:=rv.get hx;obtain⟨f0,f1,f2,f3,f4,f5⟩:=hf it (by simp);refine wpAny_pyNext_list_item st p.isList (x:=u) (by simpa using hu) fun h' mS sb=>?_;have I1:aV H {s with heap:=h'}:=I.turned (t':=s.toks) (fun b o hb e=>(sb.2 b hb).trans e) f0 f1 f3 f4 f5;obtain⟨o,e,c,d⟩:=id mS;exact⟨u,rfl,we (s:={s with heap:=h'}) e c d (by decide) ⟨x,H,I1,ru,⟨rfl,fun ys hy=>by rw[I.oK hy hq];exact hx⟩,mS,fun b hb=>(hf b hb).1⟩⟩
 done:=by intro X hP hw hK hc i pins s σ H E I hf st hg;subst hP hw hK;obtain⟨xs,hq,hx⟩:=hg;obtain⟨bE,rv,p,hz⟩:=I.list hq;obtain⟨f0,f1,f2,f3,f4,f5⟩:=hf it (by simp);have hl:=rv.length;exact wpAny_pyNext_list_end (I.ok.hd hc) st p.isList (by simp;omega) fun h' eb=>⟨Z,I.turned (t':=s.toks) (fun b o hb e=>eb b o hb e) f0 f1 f3 f4 f5⟩
 self:=fun _ _ _ _ _ st h=>wpAny_pyIter_listiter st h
theorem O6{K:W.Frag}(it:Addr)(lo:Int)(n:Nat):Turn P w K tg (X4 lo n) [it] it (fun i h=>IsRangeIter h it (lo+(i:Nat)*1) ((n:Int)-(i:Nat)) 1)where
 mem:=by simp
 obj:=fun i h st b hb=>by have e:b=it:=(by simpa using hb);subst e;exact⟨_,st,fun v z=>by have z':Data.fields _=Data.cell v:=z;cases z'⟩
 keep:=fun i h h' st k=>k it (by simp) _ st
 item:=by intro X hP hw hK hc i pins s σ H E I hf st hg;subst hP hw hK;obtain⟨f0,f1,f2,f3,f4,f5⟩:=hf it (by simp);have W:=Walks.range (prog:=X.prog) (w:=X.w) (I.ok.hd hc) it lo 1 n;refine W.item i s _ _ hg st fun v h' tk hv mS kk=>?_;obtain⟨t,rfl⟩:=hv;have I1:aV H {s with heap:=h',toks:=tk}:=I.turned (fun b o hb e=>kk b o (by simpa using hb) e) f0 f1 f3 f4 f5;refine⟨_,rfl,we (s:={s with heap:=h',toks:=tk}) (n:="range_iterator") mS rfl rfl (by decide) ⟨.int (lo+i),H,I1,⟨t,?_⟩,⟨rfl,rfl⟩,mS,fun b hb=>(hf b hb).1⟩⟩;rw[Int.mul_one]
 done:=by intro X hP hw hK hc i pins s σ H E I hf st hg;subst hP hw hK;obtain⟨f0,f1,f2,f3,f4,f5⟩:=hf it (by simp);exact ane (I.ok.hd hc) st (by have:n<=i:=hg;omega) fun h' eb=>⟨Z,I.turned (t':=s.toks) (fun b o hb e=>eb b o hb e) f0 f1 f3 f4 f5⟩
 self:=fun _ _ _ _ _ st h=>anf st h
def Up(K:W.Frag)(tl:TE):TI:=fun σ H R=>tl σ H fun x H1=>∃a,x= .ref a/\(∃xs,ae K H1 a xs)/\R (Oy K a) H1
theorem ax{l:Expr}{tl:TE}(hl:PE X l tl):PI X tg l (Up X.K tl):=by intro pins s σ H R I h;refine cQ (hl pins s σ H _ I h) fun v s1 ⟨x,H1,I1,r1,q1⟩=>?_;obtain⟨a,e,⟨xs,hq⟩,q⟩:=q1;subst e;cases r1;obtain⟨bE,rv,p,hz⟩:=I1.list hq;refine akR p.isList ?_;refine⟨s1.heap.objs.size,[s1.heap.objs.size],_,_,H1,Z,I1.kept (t':=s1.toks) fun b o e=>aiX _ e,FH a _,⟨_,aje _ rfl,Z,Z⟩,fun b hb=>?_,q⟩;have e:b=s1.heap.objs.size:=(by simpa using hb);subst e;exact I1.Kx (ai2 _) (I1.bK.fresh (ai2 _))
def YG(wi:TI)(g:TG)(tb:TS):TS:=fun D σ H=>wi σ H fun J H1=>∃W:Nat->Nat->St->Hp->Prop,(∃m,W 0 m σ H1)/\∀i m σ H,W i m σ H->(J.stop i H/\D.nx σ H)\/(J.go i H/\∃N:St->Hp->Prop,(∀σ' H',N σ' H'->∃m',m'<m/\W (i+1) m' σ' H')/\∀x H',J.HV i H x H'->g x σ H' fun σ2 H2=>tb {D with nx:=N,ct:=N,bk:=D.nx} σ2 H2)
def tG(fp:List Addr)(h:Heap):List (Addr×Obj):=fp.filterMap fun b=>(h.get? b).map fun o=>(b,o)
theorem mo{b:Addr}{o:Obj}(hb:b∈fp)(e:h.get? b=some o):(b,o)∈tG fp h:=akL.mpr ⟨b,hb,by rw[e];rfl⟩
theorem Fo{p:Addr×Obj}(hp:p∈tG fp h):p.1∈fp/\h.get? p.1=some p.2:=by
 obtain⟨b,hb,e⟩:=akL.mp hp;cases q:h.get? b with
 |none=>rw[q]at e;cases e
 |some o=>
  rw[q]at e;have e':(b,o)=p:=ajr e;subst e';exact⟨hb,q⟩
theorem Inv.pinned(I:aV H s)(hf:∀b∈fp,rQ X pins H b)(ho:∀b∈fp,∃o,s.heap.get? b=some o/\∀v,o.data≠ .cell v):Inv X (pins++tG fp s.heap) σ H s:=I.Dy fun p hp=>(ajh.mp hp).elim (fun z=>I.pin p (ajI _ z)) fun z=>by obtain⟨hb,e⟩:=Fo z;obtain⟨f0,f1,f2,_⟩:=hf p.1 hb;obtain⟨o,e',d⟩:=ho p.1 hb;rw[e]at e';cases e';exact⟨e,f0,f1,f2,d⟩
theorem Inv.nN{pl:List (Addr×Obj)}(I:Inv X (pins++pl) σ H s):aV H s:=I.Dy fun p hp=>I.pin p (ajI _ (aj1 _ hp))
theorem bU{iter:Expr}{wi:TI}{tb:TS}{pos:Pos}(hp:PassesOwn (model X.prog X.w) X.A X.env X.xe)(hc:X.calm=true)(hi:PI X tg iter wi)(hg:PG X tg g)(hb:BG X body tb) (hs:∀x,foldedSetIterable iter X.env x=pure x:=by intro _;rfl):PS X (.For tg iter body [] pos) (YG wi g tb):=by
 intro pins s σ H D I h;refine wpAny_For (cQ (hi pins s σ H _ I h) fun v s1 h1=>cQ h1 fun ZZ s2 h2=>?_) hs;obtain⟨it,fp,tn,J,H2,e,I2,T,PK,f2,W,⟨m0,w0⟩,turn⟩:=h2;subst e;have BY:∀{H':Hp},(∀b∈fp,H' b=none)->∀b∈fp,rQ X pins H' b:=fun hn b hb=>⟨hn b hb,(f2 b hb).2⟩;refine codeAny_forLoop_any (fun n s'=>∃i σ' H',Inv X pins σ' H' s'/\tn i s'.heap/\(∀b∈fp,H' b=none)/\W i n σ' H') ?_ m0 ⟨0,σ,H2,I2,PK,fun b hb=>(f2 b hb).1,w0⟩;rintro n s3 ⟨i,σ3,H3,I3,Wy,fr3,w3⟩;rcases turn i n σ3 H3 w3 with⟨stop,qn⟩|⟨go,N,hN,step⟩
 .refine ak9 hp (cQ (T.done X rfl rfl rfl hc i pins s3 σ3 H3 X.xe I3 (BY fr3) Wy stop) fun r s4 ⟨hr,I4⟩=>?_);subst hr;exact al9 ⟨σ3,H3,I4,qn⟩
 .refine ak9 hp (cQ (T.item X rfl rfl rfl hc i pins s3 σ3 H3 X.xe I3 (BY fr3) Wy go) fun r s4 ⟨u,hr,h4⟩=>?_);subst hr;refine ak9 hp (cQ h4 fun _ s5 ⟨x,H5,I5,r5,y5,R5,fr5⟩=>?_);have I5':=I5.pinned (BY fr5) (T.obj _ _ R5);refine ak9 hp (cQ (hg _ s5 σ3 H5 x u _ I5' r5 (step x H5 y5)) fun _ s6 ⟨σ6,H6,I6,q6⟩=>?_);refine ak9 hp (cQ (hb _ s6 σ6 H6 _ I6 q6) fun f s7 q7=>?_);have again:∀{σ7:St} {H7:Hp},Inv X (pins++tG fp s5.heap) σ7 H7 s7->N σ7 H7->∃m,m<n/\∃i σ' H',Inv X pins σ' H' s7/\tn i s7.heap/\(∀b∈fp,H' b=none)/\W i m σ' H':=(fun{σ7 H7} I7 n7=>by obtain⟨m',hm,w7⟩:=hN σ7 H7 n7;refine⟨m',hm,i+1,σ7,H7,I7.nN,T.keep _ _ _ R5 fun b hb o e=>(I7.pin (b,o) (ajI _ (ajI _ (mo hb e)))).1,fun b hb=>?_,w7⟩;obtain⟨o,e,d⟩:=T.obj _ _ R5 b hb;exact(I7.pin (b,o) (ajI _ (ajI _ (mo hb e)))).2.1);cases f with
  |next=>obtain⟨σ7,H7,I7,n7⟩:=q7;exact again I7 n7
  |cont=>obtain⟨σ7,H7,I7,n7⟩:=q7;exact again I7 n7
  |brk=>obtain⟨σ7,H7,I7,q7⟩:=q7;exact⟨σ7,H7,I7.nN,q7⟩
  |ret v=>obtain⟨x7,σ7,H7,I7,r7,q7⟩:=q7;exact⟨x7,σ7,H7,I7.nN,r7,q7⟩
theorem bO{K:W.Frag}{tb:TS}(Pv:Nat->St->Hp->Prop)(h0:Pv 0 σ H)(hl:∀i σ H,i<=xs.length->Pv i σ H->ae K H a xs) (hs:∀i x σ H,xs[i]?=some x->Pv i σ H->g x σ H fun σ2 H2=>tb {D with nx:=Pv (i+1),ct:=Pv (i+1),bk:=D.nx} σ2 H2)(hd:∀σ H,Pv xs.length σ H->D.nx σ H):∃W:Nat->Nat->St->Hp->Prop,(∃m,W 0 m σ H)/\∀i m σ H,W i m σ H->((Oy K a).stop i H/\D.nx σ H)\/((Oy K a).go i H/\∃N:St->Hp->Prop,(∀σ' H',N σ' H'->∃m',m'<m/\W (i+1) m' σ' H')/\∀x H',(Oy K a).HV i H x H'->g x σ H' fun σ2 H2=>tb {D with nx:=N,ct:=N,bk:=D.nx} σ2 H2):=by
 refine⟨fun i m σ H=>m=xs.length-i/\i<=xs.length/\Pv i σ H,⟨xs.length,by simp,ajo _,h0⟩,?_⟩;rintro i m σ H ⟨rfl,hi,p⟩;have q:=hl i σ H hi p;by_cases fC:i<xs.length
 .refine .inr ⟨⟨xs,xs[i],q,by simp[fC]⟩,Pv (i+1),fun σ' H' p'=>⟨xs.length-(i+1),by omega,Z,fC,p'⟩,fun x H' y=>?_⟩;obtain⟨e,y⟩:=y;subst e;exact hs i x σ _ (y xs q) p
 .have e:i=xs.length:=(by omega);subst e;exact .inl ⟨⟨xs,q,ai2 _⟩,hd σ H p⟩
theorem Ss{lo:Int}{tb:TS}(Pv:Nat->St->Hp->Prop)(h0:Pv 0 σ H) (hs:∀i σ H,i<n->Pv i σ H->g (.int (lo+i)) σ H fun σ2 H2=>tb {D with nx:=Pv (i+1),ct:=Pv (i+1),bk:=D.nx} σ2 H2)(hd:∀σ H,Pv n σ H->D.nx σ H):∃W:Nat->Nat->St->Hp->Prop,(∃m,W 0 m σ H)/\∀i m σ H,W i m σ H->((X4 lo n).stop i H/\D.nx σ H)\/((X4 lo n).go i H/\∃N:St->Hp->Prop,(∀σ' H',N σ' H'->∃m',m'<m/\W (i+1) m' σ' H')/\∀x H',(X4 lo n).HV i H x H'->g x σ H' fun σ2 H2=>tb {D with nx:=N,ct:=N,bk:=D.nx} σ2 H2):=by
 refine⟨fun i m σ H=>m=n-i/\i<=n/\Pv i σ H,⟨n,by simp,ajo _,h0⟩,?_⟩;rintro i m σ H ⟨rfl,hi,p⟩;by_cases fC:i<n
 .refine .inr ⟨fC,Pv (i+1),fun σ' H' p'=>⟨n-(i+1),by omega,Z,fC,p'⟩,fun x H' y=>?_⟩;obtain⟨e,y⟩:=y;subst e y;exact hs i σ _ fC p
 .have e:i=n:=(by omega);subst e;exact .inl ⟨ai2 _,hd σ H p⟩
theorem kL{c:TT}{tb:TS}(Pv:St->Hp->Prop)(μ:St->Hp->Nat)(h0:Pv σ H) (hs:∀σ H,Pv σ H->c σ H fun b H1=>if b=true then tb {D with nx:=fun σ' H'=>Pv σ' H'/\μ σ' H'<μ σ H,ct:=fun σ' H'=>Pv σ' H'/\μ σ' H'<μ σ H,bk:=D.nx} σ H1 else D.nx σ H1) (mono:∀σ H Q Q',(∀b H1,Q b H1->Q' b H1)->c σ H Q->c σ H Q'):Hd c tb D σ H:=by
 refine⟨fun m σ H=>m=μ σ H/\Pv σ H,⟨_,Z,h0⟩,?_⟩;rintro m σ H ⟨rfl,p⟩;refine mono σ H _ _ (fun b H1 q=>?_) (hs σ H p);cases b with
 |true=>exact⟨_,fun σ' H' ⟨p',l⟩=>⟨_,l,rfl,p'⟩,q⟩
 |false=>exact q
abbrev R2:=V->V->Hp->VK->Prop
def rP(X:Cx)(f:Value->Value->Sem Value)(r:R2):Prop:=∀(pins:List (Addr×Obj)) (s:Shared) (σ:St) (H:Hp) (x y:V) (v u:Value) (Q:VK),aV H s->RelV x v->RelV y u->r x y H Q->gy (f v u) (EP X pins σ Q) X.xe s
def UnR(X:Cx)(f:Value->Sem Value)(r:V->Hp->VK->Prop):Prop:=∀(pins:List (Addr×Obj)) (s:Shared) (σ:St) (H:Hp) (x:V) (v:Value) (Q:VK),aV H s->RelV x v->r x H Q->gy (f v) (EP X pins σ Q) X.xe s
def mM(X:Cx)(f:Value)(r:List V->Hp->VK->Prop):Prop:=∀(pins:List (Addr×Obj)) (s:Shared) (σ:St) (H:Hp) (xs:List V) (us:List Value) (Q:VK),aV H s->bI xs us->r xs H Q->gy (call f us) (EP X pins σ Q) X.xe s
def TM(r:R2)(ta tb:TE):TE:=fun σ H Q=>ta σ H fun x H1=>tb σ H1 fun y H2=>r x y H2 Q
def tUn(r:V->Hp->VK->Prop)(ta:TE):TE:=fun σ H Q=>ta σ H fun x H1=>r x H1 Q
def rI(C:Int->Int->Prop)(g:Int->Int->V):R2:=fun x y H Q=>∃i j,x= .int i/\y= .int j/\C i j/\Q (g i j) H
def OK(g:Int->Int->V):R2:=fun x y H Q=>∃i j,x= .int i/\y= .int j/\Q (g i j) H
def rU(g:Int->V):V->Hp->VK->Prop:=fun x H Q=>∃i,x= .int i/\Q (g i) H
section
variable{a:Expr}{pos:Pos}
theorem Rp(ha:PE X a ta)(hb:PE X b tb)(I:aV H s) (h:ta σ H fun x H1=>tb σ H1 fun y H2=>R x y H2){f:Value->Value->Sem Value} (hf:∀v u s2 x y H2,aV H2 s2->RelV x v->RelV y u->R x y H2->gy (f v u) Q X.xe s2):gy (eval a X.env) (fun v s₁=>gy (eval b X.env) (fun u s₂=>gy (f v u) Q X.xe s₂) X.xe s₁) X.xe s:=by refine cQ (ha pins s σ H _ I h) fun v s1 ⟨x,H1,I1,r1,q1⟩=>?_;refine cQ (hb pins s1 σ H1 _ I1 q1) fun u s2 ⟨y,H2,I2,r2,q2⟩=>?_;exact hf v u s2 x y H2 I2 r1 r2 q2
theorem cE{op:Operator}(ho:rP X (binaryOp op) r)(ha:PE X a ta)(hb:PE X b tb):PE X (.BinOp a op b pos) (TM r ta tb):=by intro pins s σ H Q I h;exact wpAny_BinOp (Rp ha hb I h fun v u s2 x y H2 I2 rx ry q=>ho pins s2 σ H2 x y v u Q I2 rx ry q)
theorem vy{op:UnaryOp}{r:V->Hp->VK->Prop}(ho:UnR X (unaryOp op) r)(ha:PE X a ta):PE X (.UnaryOp op a pos) (tUn r ta):=by intro pins s σ H Q I h;exact UnaryOp_ (cQ (ha pins s σ H _ I h) fun v s1 ⟨x,H1,I1,r1,q1⟩=>ho pins s1 σ H1 x v Q I1 r1 q1)
theorem opI{f:Value->Value->Sem Value}{C:Int->Int->Prop}{g:Int->Int->Int} (rule:∀(i j:Int) (t u:Tok) (s:Shared) (Q:Value->Shared->Prop) (E:Value->Shared->Prop),C i j->Q (.int (g i j) s.toks) {s with toks:=s.toks+1}->gy (f (.int i t) (.int j u)) Q E s):rP X f (rI C fun i j=> .int (g i j)):=by intro pins s σ H x y v u Q I rx ry h;obtain⟨i,j,rfl,rfl,hc,q⟩:=h;obtain⟨t,rfl⟩:=rx;obtain⟨t',rfl⟩:=ry;exact rule i j t t' s _ _ hc ⟨.int (g i j),H,I.tok _,⟨_,Z⟩,q⟩
theorem UC{f:Value->Value->Sem Value}{g:Int->Int->Int} (rule:∀(i j:Int) (t u:Tok) (s:Shared) (Q:Value->Shared->Prop) (E:Value->Shared->Prop),Q (.int (g i j) s.toks) {s with toks:=s.toks+1}->gy (f (.int i t) (.int j u)) Q E s):rP X f (OK fun i j=> .int (g i j)):=by intro pins s σ H x y v u Q I rx ry h;obtain⟨i,j,rfl,rfl,q⟩:=h;obtain⟨t,rfl⟩:=rx;obtain⟨t',rfl⟩:=ry;exact rule i j t t' s _ _ ⟨.int (g i j),H,I.tok _,⟨_,Z⟩,q⟩
theorem ML{f:Value->Value->Sem Value}{g:Int->Int->Bool} (rule:∀(i j:Int) (t u:Tok) (s:Shared) (Q:Value->Shared->Prop) (E:Value->Shared->Prop),Q (.bool (g i j)) s->gy (f (.int i t) (.int j u)) Q E s):rP X f (OK fun i j=> .bl (g i j)):=by intro pins s σ H x y v u Q I rx ry h;obtain⟨i,j,rfl,rfl,q⟩:=h;obtain⟨t,rfl⟩:=rx;obtain⟨t',rfl⟩:=ry;exact rule i j t t' s _ _ ⟨.bl (g i j),H,I,Z,q⟩
def R3(i j:Int):Prop:=(-(2^64)<i/\i<2^64)\/(-(2^64)<j/\j<2^64)
theorem R3.ok{i j:Int}(h:R3 i j):IntMulOk i j:=by
 rcases h with⟨h1,h2⟩|⟨h1,h2⟩
 .exact .of_left (intBits_le_64 h1 h2)
 .exact .of_right (intBits_le_64 h1 h2)
theorem gC:rP X (binaryOp .Add) (OK fun i j=> .int (i+j)):=UC fun _ _ _ _ _ _ _ q=>add_int q
theorem xq:rP X (binaryOp .Sub) (OK fun i j=> .int (i-j)):=UC fun _ _ _ _ _ _ _ q=>sub_int q
theorem P7:rP X (binaryOp .Mult) (rI R3 fun i j=> .int (i*j)):=opI fun _ _ _ _ _ _ _ hc q=>mul_int q hc.ok
theorem P8:rP X (binaryOp .Mod) (rI (fun _ j=>0<j) fun i j=> .int (i%j)):=opI fun i j _ _ _ _ _ hc q=>by have h1:(0:Int)<j:=hc;exact mod_int' (by omega) (by rw[Int.fmod_eq_emod_of_nonneg i (by omega)];exact q)
theorem unI{f:Value->Sem Value}{g:Int->Int} (rule:∀(i:Int) (t:Tok) (s:Shared) (Q:Value->Shared->Prop) (E:Value->Shared->Prop),Q (.int (g i) s.toks) {s with toks:=s.toks+1}->gy (f (.int i t)) Q E s):UnR X f (rU fun i=> .int (g i)):=by intro pins s σ H x v Q I rx h;obtain⟨i,rfl,q⟩:=h;obtain⟨t,rfl⟩:=rx;exact rule i t s _ _ ⟨.int (g i),H,I.tok _,⟨_,Z⟩,q⟩
theorem pE:UnR X (unaryOp .USub) (rU fun i=> .int (-i)):=unI fun _ _ _ _ _ q=>neg_int q
end
def Ts:V->V->Bool
 | .cW,.cW=>true| .cW,.int _=>true| .int _,.cW=>true| .cW,.bl _=>true| .bl _,.cW=>true| .cW,.str _=>true| .str _,.cW=>true
 | .int _,.int _=>true| .bl _,.bl _=>true| .str _,.str _=>true| .yU _,.yU _=>true
 | .int _,.str _=>true| .str _,.int _=>true| .bl _,.str _=>true| .str _,.bl _=>true
 |_,_=>false
def rEq:R2:=fun x y H Q=>Ts x y=true/\Q (.bl (decide (x=y))) H
def rNe:R2:=fun x y H Q=>Ts x y=true/\Q (.bl (!decide (x=y))) H
theorem Eu{i j:Int}:decide (V.int i=V.int j)=(i==j):=by rw[ajw];simp
theorem C2{i j:Bool}:decide (V.bl i=V.bl j)=(i==j):=by rw[ajw];simp
theorem Et{i j:Str}:decide (V.str i=V.str j)=(i==j):=by rw[ajw];simp
theorem Ew{i j:Array UInt8}:decide (V.yU i=V.yU j)=(i.toList==j.toList):=by rw[ajw];cases i;cases j;simp
section
variable{a:Expr}{pos:Pos}
theorem bW{Q:VK}{k k':Bool}(I:aV H s)(q:Q (.bl k) H)(e:k=k'):EP X pins σ Q (.bool k') s:=by subst e;exact⟨.bl k,H,I,Z,q⟩
theorem eO:rP X (compareOp .Eq) rEq:=by
 intro pins s σ H x y v u Q I rx ry h;obtain⟨hs,q⟩:=h;cases x with
 |cW=>
  cases rx;cases y with
  |cW=>cases ry;exact PySem.EqNone.eq_none_none (bW I q (by simp))
  |bl j=>cases ry;exact PySem.EqNone.eq_none_bool (bW I q (by simp))
  |int j=>obtain⟨t',rfl⟩:=ry;exact PySem.EqNone.eq_none_int (bW I q (by simp))
  |str j=>obtain⟨t',rfl⟩:=ry;exact PySem.EqNone.eq_none_str (bW I q (by simp))
  |_=>exact absurd (show false=true from hs) ajg
 |bl i=>
  cases rx;cases y with
  |cW=>cases ry;exact PySem.EqNone.eq_bool_none (bW I q (by simp))
  |bl j=>cases ry;exact eq_bool (bW I q C2)
  |str j=>obtain⟨t',rfl⟩:=ry;exact PySem.EqMixed.eq_bool_str (bW I q (by simp))
  |_=>exact absurd (show false=true from hs) ajg
 |int i=>
  obtain⟨t,rfl⟩:=rx;cases y with
  |cW=>cases ry;exact PySem.EqNone.eq_int_none (bW I q (by simp))
  |int j=>obtain⟨t',rfl⟩:=ry;exact eq_int (bW I q Eu)
  |str j=>obtain⟨t',rfl⟩:=ry;exact PySem.EqMixed.eq_int_str (bW I q (by simp))
  |_=>exact absurd (show false=true from hs) ajg
 |str i=>
  obtain⟨t,rfl⟩:=rx;cases y with
  |cW=>cases ry;exact PySem.EqNone.eq_str_none (bW I q (by simp))
  |bl j=>cases ry;exact PySem.EqMixed.eq_str_bool (bW I q (by simp))
  |int j=>obtain⟨t',rfl⟩:=ry;exact PySem.EqMixed.eq_str_int (bW I q (by simp))
  |str j=>obtain⟨t',rfl⟩:=ry;exact eq_str (bW I q Et)
  |_=>exact absurd (show false=true from hs) ajg
 |yU i=>
  obtain⟨t,rfl⟩:=rx;cases y with
  |yU j=>obtain⟨t',rfl⟩:=ry;exact W.eq_bytes (bW I q Ew)
  |_=>exact absurd (show false=true from hs) ajg
 |_=>cases y<;>exact absurd (show false=true from hs) ajg
theorem n8:rP X (compareOp .NotEq) rNe:=by
 intro pins s σ H x y v u Q I rx ry h;obtain⟨hs,q⟩:=h;cases x with
 |cW=>
  cases rx;cases y with
  |cW=>cases ry;exact PySem.EqNone.ne_none_none (bW I q (by simp))
  |bl j=>cases ry;exact PySem.EqNone.ne_none_bool (bW I q (by simp))
  |int j=>obtain⟨t',rfl⟩:=ry;exact PySem.EqNone.ne_none_int (bW I q (by simp))
  |str j=>obtain⟨t',rfl⟩:=ry;exact PySem.EqNone.ne_none_str (bW I q (by simp))
  |_=>exact absurd (show false=true from hs) ajg
 |bl i=>
  cases rx;cases y with
  |cW=>cases ry;exact PySem.EqNone.ne_bool_none (bW I q (by simp))
  |bl j=>cases ry;exact ne_bool (bW I q (akc not C2))
  |str j=>obtain⟨t',rfl⟩:=ry;exact PySem.EqMixed.ne_bool_str (bW I q (by simp))
  |_=>exact absurd (show false=true from hs) ajg
 |int i=>
  obtain⟨t,rfl⟩:=rx;cases y with
  |cW=>cases ry;exact PySem.EqNone.ne_int_none (bW I q (by simp))
  |int j=>obtain⟨t',rfl⟩:=ry;exact ne_int (bW I q (akc not Eu))
  |str j=>obtain⟨t',rfl⟩:=ry;exact PySem.EqMixed.ne_int_str (bW I q (by simp))
  |_=>exact absurd (show false=true from hs) ajg
 |str i=>
  obtain⟨t,rfl⟩:=rx;cases y with
  |cW=>cases ry;exact PySem.EqNone.ne_str_none (bW I q (by simp))
  |bl j=>cases ry;exact PySem.EqMixed.ne_str_bool (bW I q (by simp))
  |int j=>obtain⟨t',rfl⟩:=ry;exact PySem.EqMixed.ne_str_int (bW I q (by simp))
  |str j=>obtain⟨t',rfl⟩:=ry;exact ne_str (bW I q (akc not Et))
  |_=>exact absurd (show false=true from hs) ajg
 |yU i=>
  obtain⟨t,rfl⟩:=rx;cases y with
  |yU j=>obtain⟨t',rfl⟩:=ry;exact W.ne_bytes (bW I q (akc not Ew))
  |_=>exact absurd (show false=true from hs) ajg
 |_=>cases y<;>exact absurd (show false=true from hs) ajg
theorem n9:rP X (compareOp .Lt) (OK fun i j=> .bl (decide (i<j))):=ML fun _ _ _ _ _ _ _ q=>lt_int q
theorem iM:rP X (compareOp .LtE) (OK fun i j=> .bl (decide (i<=j))):=ML fun _ _ _ _ _ _ _ q=>le_int q
theorem wB:rP X (compareOp .Gt) (OK fun i j=> .bl (decide (j<i))):=ML fun _ _ _ _ _ _ _ q=>gt_int q
theorem UB:rP X (compareOp .GtE) (OK fun i j=> .bl (decide (j<=i))):=ML fun _ _ _ _ _ _ _ q=>ge_int q
theorem tJ:rP X (compareOp .Is) (fun x y H Q=>y= .cW/\Q (.bl (decide (x= .cW))) H):=by
 intro pins s σ H x y v u Q I rx ry h;obtain⟨rfl,q⟩:=h;cases ry;refine is_none_gen (bW I q ?_);cases x<;>first
  |(cases rx;rfl)
  |(obtain⟨t,rfl⟩:=rx;rfl)
theorem Jt(b:Expr)(h:op≠ .In:=by decide)(h2:op≠ .NotIn:=by decide):behindInMarks op b=false:=by have e1:(op==CmpOp.In)=false:=(by cases op<;>first|rfl|exact absurd rfl h);have e2:(op==CmpOp.NotIn)=false:=(by cases op<;>first|rfl|exact absurd rfl h2);cases b<;>simp[behindInMarks,e1,e2]
theorem fe(ho:rP X (compareOp op) r)(ha:PE X a ta)(hb:PE X b tb)(hm:behindInMarks op b=false:=by exact Jt _):PE X (.Compare a [op] [b] pos) (TM r ta tb):=by intro pins s σ H Q I h;exact wpAny_Compare1 (Rp ha hb I h fun v u s2 x y H2 I2 rx ry q=>ho pins s2 σ H2 x y v u Q I2 rx ry q) hm
def N3(t:TE):TT:=fun σ H Q=>t σ H fun x H'=>∃k,x= .bl k/\Q k H'
theorem aY(ho:rP X (compareOp op) r)(ha:PE X a ta)(hb:PE X b tb)(hm:behindInMarks op b=false:=by exact Jt _):PT X (.Compare a [op] [b] pos) (N3 (TM r ta tb)):=by
 intro pins s σ H Q I h;refine wpAny_isTrue_Compare1 (cQ (ha pins s σ H _ I h) fun v s1 ⟨x,H1,I1,r1,q1⟩=>cQ (hb pins s1 σ H1 _ I1 q1) fun u s2 ⟨y,H2,I2,r2,q2⟩=>
  cQ (ho pins s2 σ H2 x y v u _ I2 r1 r2 q2) fun c s3 ⟨z,H3,I3,r3,k,e,q3⟩=>?_) hm
 subst e;cases r3;exact akw ⟨H3,I3,q3⟩
def Hh(r r':R2)(ta tb tc:TE):TE:=fun σ H Q=>ta σ H fun x H1=>tb σ H1 fun y H2=>r x y H2 fun z H3=>∃k,z= .bl k/\(if k=true then tc σ H3 fun w' H4=>r' y w' H4 Q else Q (.bl false) H3)
theorem nu(ho:rP X (compareOp op) r)(yj:rP X (compareOp SE) r')(ha:PE X a ta)(hb:PE X b tb)(hc:PE X c tc) (hm:lastMarks [op,SE] [b,c]=false:=by with_unfolding_all rfl):PE X (.Compare a [op,SE] [b,c] pos) (Hh r r' ta tb tc):=by
 intro pins s σ H Q I h;refine Compare_chain (cQ (ha pins s σ H _ I h) fun v s1 ⟨x,H1,I1,r1,q1⟩=>chain_link (cQ (hb pins s1 σ H1 _ I1 q1) fun u s2 ⟨y,H2,I2,r2,q2⟩=>
  cQ (ho pins s2 σ H2 x y v u _ I2 r1 r2 q2) fun d s3 ⟨z,H3,I3,r3,k,e,q3⟩=>?_)) hm
 subst e;cases r3;refine akw ?_;cases k with
 |false=>exact ite_ff ⟨.bl false,H3,I3,rfl,q3⟩
 |true=>exact ite_tt (chain_last (cQ (hc pins s3 σ H3 _ I3 q3) fun w' s4 ⟨z',H4,I4,r4,q4⟩=>yj pins s4 σ H4 y z' u w' Q I4 r2 r4 q4))
theorem zQ(ho:rP X (compareOp op) r)(yj:rP X (compareOp SE) r')(ha:PE X a ta)(hb:PE X b tb)(hc:PE X c tc) (hm:lastMarks [op,SE] [b,c]=false:=by with_unfolding_all rfl):PT X (.Compare a [op,SE] [b,c] pos) (N3 (Hh r r' ta tb tc)):=by
 intro pins s σ H Q I h;refine isTrue_chain (cQ (ha pins s σ H _ I h) fun v s1 ⟨x,H1,I1,r1,q1⟩=>test_link (cQ (hb pins s1 σ H1 _ I1 q1) fun u s2 ⟨y,H2,I2,r2,q2⟩=>
  cQ (ho pins s2 σ H2 x y v u _ I2 r1 r2 q2) fun d s3 ⟨z,H3,I3,r3,k,e,q3⟩=>?_)) hm
 subst e;cases r3;refine akw ?_;cases k with
 |false=>
  obtain⟨k',e',q'⟩:=q3;cases e';exact ite_ff ⟨H3,I3,q'⟩
 |true=>
  refine ite_tt (test_last (cQ (hc pins s3 σ H3 _ I3 q3) fun w' s4 ⟨z',H4,I4,r4,q4⟩=>cQ (yj pins s4 σ H4 y z' u w' _ I4 r2 r4 q4) fun d' s5 ⟨z2,H5,I5,r5,k2,e2,q5⟩=>?_));subst e2;cases r5;exact akw ⟨H5,I5,q5⟩
theorem CQ:(sizeLine:Nat)<2^63:=by rw[ai6];decide
theorem vals1{x:V}(r:bI [x] us):∃u,us=[u]/\RelV x u:=by
 cases r with
 |cons r1 r2=>cases r2;exact⟨_,Z,r1⟩
theorem vals2{x:V}(r:bI [x,y] us):∃u w',us=[u,w']/\RelV x u/\RelV y w':=by
 cases r with
 |cons r1 r2=>
  cases r2 with
  |cons r3 r4=>cases r4;exact⟨_,_,Z,r1,r3⟩
end
structure Gw(h:Heap)(x dx C:Addr)(mA:Str->Option Value):Prop where
 obj:h.get? x=some (W.instObj C dx)
 ns:h.Ns1 dx mA
 ne:dx≠x
theorem F2(n:h.Ns1 dx mA):∃od,h.get? dx=some od/\∀name,W.lookIn name od=some (mA name):=by
 obtain⟨o,es,ep,ho,hd,hk,_,hm⟩:=n;refine⟨o,ho,fun name=>?_⟩;have e:=hm name;unfold nsFind findBy at e;rw[<-Array.find?_toList]at e;unfold W.lookIn;rw[hd];dsimp only;split
 .rename_i y q;rw[q]at e;exact akc some e
 .rename_i q;rw[q]at e;have a:es.toList.any (·.refKey)=false:=(by rw[akW];intro y hy;obtain⟨z,t,qz⟩:=hk y (Array.mem_toList_iff.mp hy);simp[DictEntry.refKey,qz]);have a':¬es.toList.any (·.refKey)=true:=(by rw[a];exact ajg);rw[ai0 a'];exact akc some e
theorem Gw.look{x:Addr}(I:Gw h x dx C mA):∃od,W.InstAt h x (W.instObj C dx) C (some od)/\∀name,W.lookIn name od=some (mA name):=
 let⟨od,ho,hl⟩:=F2 I.ns
 ⟨od,⟨I.obj,rfl,rfl,ho⟩,hl⟩
section
variable{K:W.Frag}{x:Addr}{v:Value}
theorem get_map{expr:Bool}(X:K.In s.heap)(I:Gw s.heap x dx C mA)(hg:W.plainGet K C name=true)(hh:W.hasDictIn K C=true) (ha:W.findIn K (.ref C) name=some none)(hv:mA name=some v)(wQ:W.handedIn v=true)(h:Q v {s with toks:=s.toks+1}):wpAny (model prog w) A (getAttr (.ref x) name expr) Q E s:=by obtain⟨od,J,hl⟩:=I.look;exact W.get_value X J (W.plainGet_of hg).1 (W.findObj_own hh ha rfl (by rw[hl,hv])) wQ h
theorem L1{ns:List Str}{Q:Unit->Shared->Prop}(X:K.In s.heap)(I:Gw s.heap x dx C mA) (hs:W.findIn K (.ref C) "__setattr__"=some (some (.builtin "object.__setattr__")))(hp:W.plainOver K C=true)(ht:W.takerIn K C name=some none)(hh:W.hasDictIn K C=true) (hw:PySem.Within mA ns)(hsz:ns.length<=sizeLine) (h:∀h',Gw h' x dx C (fun y=>if y=name then some v else mA y)->Heap.SameBut dx s.heap h'->Q () {s with heap:=h',toks:=s.toks+2}):wpAny (model prog w) A (setAttr (.ref x) name v) Q E s:=by obtain⟨od,J,hl⟩:=I.look;refine W.set_plain X J hs (W.osa_open (s:={s with toks:=s.toks+1}) (r:=none) X J hp ht fun b=>?_);obtain⟨cd,hc,Kk⟩:=W.any_some hh;have hx:s.heap.get? x=some ⟨.ref C,some dx,.plain,#[]⟩:=I.obj;refine aiR (ai4 (aiR (aiR (wpAny_loadPart hx (aiR (W.Looks.here (s:={s with toks:=s.toks+1}) (W.looks_clsIn X hc) ?_))))));rw[Kk];refine ai4 (a:=some dx) (aiR (ai4 (aiR ?_)));refine wpAny_nsSet1 (s:={s with toks:=s.toks+1}) I.ns fun h' Cg Lh=>?_;obtain⟨oD,esD,epD,NG,hdD,Sn⟩:=Cg.count (PySem.Within.cons name v hw);refine aiR (wpAny_lookBehind NG (by rw[hdD];exact pastItsLine_dict (ajq Sn (by rw[ajc];omega))) ?_);exact ai4 (h _ ⟨(Lh.2 _ (ajC I.ne)).trans I.obj,Cg,I.ne⟩ Lh)
theorem J1{R:Result->Shared->Prop}{vs:List Value}(X:K.In s.heap)(hm:W.makesIn K C=true) (hi:W.findIn K (.ref C) "__init__"=some (some (.ref f)))(hf:W.typeIn K (.ref f)=some (.type "function")) (h:codeAny (model prog w) (A.under (.builtin "type.__call__" ⟨.ref C::vs,kw⟩)) (.call (.ref f) ⟨.ref (s.heap.objs.size+1)::vs,kw⟩) (W.InitBack (s.heap.objs.size+1) R) {s with heap:=(s.heap.push W.emptyDict).push (W.instObj C s.heap.objs.size)}):codeAny (model prog w) A (.call (.ref C) ⟨vs,kw⟩) R s:=by obtain⟨hh,g,d,t,os⟩:=s;exact W.make_core (W.makes_of X hm) (W.looks_findIn X hi) (fun self=>W.bind_fn X self hf) (.inl rfl) h
end
def be(f:Str)(v:V):List (Str×V)->List (Str×V)
 | []=>[(f,v)]
 |(g,x)::r=>if g=f then(g,v)::r else(g,x)::be f v r
theorem iR(f g:Str)(v:V):∀fs:List (Str×V),(be f v fs).lookup g=if g=f then some v else fs.lookup g
 | []=>by
  show List.lookup g [(f,v)]=_;by_cases h:g=f
  .have hb:(g==f)=true:=akY.mpr h;simp only[List.lookup,hb,ai5 h]
  .have hb:(g==f)=false:=ajt.mpr h;simp only[List.lookup,hb,ai0 h]
 |(k,x)::r=>by
  have ih:=iR f g v r;rw[show be f v ((k,x)::r)=(if k=f then(k,v)::r else(k,x)::be f v r)from rfl];by_cases hk:k=f
  .rw[ai5 hk];by_cases h:g=k
   .have hb:(g==k)=true:=akY.mpr h;simp only[List.lookup,hb,ai5 (h.trans hk)]
   .have hb:(g==k)=false:=ajt.mpr h;simp only[List.lookup,hb,ai0 (fun e:g=f=>h (e.trans hk.symm))]
  .rw[ai0 hk];by_cases h:g=k
   .have hb:(g==k)=true:=akY.mpr h;simp only[List.lookup,hb,ai0 (fun e:g=f=>hk (h.symm.trans e))]
   .have hb:(g==k)=false:=ajt.mpr h;simp only[List.lookup,hb];exact ih
theorem pV(f:Str)(v:V):∀fs:List (Str×V),f∈(be f v fs).map (·.1)/\∀g,g∈fs.map (·.1)->g∈(be f v fs).map (·.1)
 | []=>⟨by simp[be],fun g h=>by simp at h⟩
 |(k,x)::r=>by
  obtain⟨i1,i2⟩:=pV f v r;rw[show be f v ((k,x)::r)=(if k=f then(k,v)::r else(k,x)::be f v r)from rfl];by_cases hk:k=f
  .rw[ai5 hk];subst hk;exact⟨by simp,fun g h=>by simpa using h⟩
  .rw[ai0 hk];refine⟨?_,fun g h=>?_⟩
   .rw[aji];exact aiS _ i1
   .rw[aji]at h⊢;rcases aiZ.mp h with e|e
    .exact aiZ.mpr (.inl e)
    .exact aiS _ (i2 g e)
theorem bD(f:Str)(v:V):∀fs:List (Str×V),(be f v fs).length<=fs.length+1
 | []=>by simp[be]
 |(k,x)::r=>by
  have ih:=bD f v r;rw[show be f v ((k,x)::r)=(if k=f then(k,v)::r else(k,x)::be f v r)from rfl];by_cases hk:k=f
  .rw[ai5 hk,ajc,ajc];omega
  .rw[ai0 hk,ajc,ajc];omega
theorem qH.some_of{o:Option Value}(r:qH (some v) o):∃u,o=some u/\RelV v u:=by
 cases o with
 |none=>exact(show False from r).elim
 |some u=>exact⟨u,rfl,r⟩
theorem GQ(r:RelV v u):W.handedIn u=true:=by
 cases v with
 |cW=>cases(show u=Value.none from r);rfl
 |bl b=>cases(show u=Value.bool b from r);rfl
 |int i=>obtain⟨t,e⟩:=(show∃t,u=Value.int i t from r);cases e;rfl
 |str x=>obtain⟨t,e⟩:=(show∃t,u=Value.str x t from r);cases e;rfl
 |yU b=>obtain⟨t,e⟩:=(show∃t,u=Value.bytes b t from r);cases e;rfl
 |WD b=>obtain⟨t,e⟩:=(show∃t,u=Value.float b t from r);cases e;rfl
 |ref a=>cases(show u=Value.ref a from r);rfl
 |ty n=>cases(show u=Value.type n from r);rfl
section
variable{fs NR:List (Str×V)}
theorem ER(bK:jq P w H h)(e:H a=some (.ins C dx fs)):∃mA,Gw h a dx C mA/\(∀f,qH (fs.lookup f) (mA f))/\PySem.Within mA (fs.map (·.1))/\fs.length<=1000/\H dx=some (.own a):=by obtain⟨d,z,ne,ob,mA,n,r,q⟩:=(show cj P w H h a (.ins C dx fs)from bK a _ e);exact⟨mA,⟨ob,n,ne⟩,r,q,z,d⟩
end
structure G2(K:W.Frag)(C:Addr):Prop where
 pg:W.plainGet K C Str.empty=true
 hd:W.hasDictIn K C=true
 po:W.plainOver K C=true
 sa:W.findIn K (.ref C) "__setattr__"=some (some (.builtin "object.__setattr__"))
theorem G2.get{K:W.Frag}(c:G2 K C)(f:Str):W.plainGet K C f=true:=c.pg
def eE(K:W.Frag)(C:Addr)(f:Str):Prop:=W.findIn K (.ref C) f=some none
theorem eE.TF{K:W.Frag}{f:Str}(n:eE K C f):W.takerIn K C f=some none:=by unfold W.takerIn;rw[show W.findIn K (.ref C) f=some none from n];rfl
section
variable{fs:List (Str×V)}{f:Str}
theorem Ct{b:Bool}(I:aV H s)(e:H a=some (.ins C dx fs))(c:G2 X.K C)(n:eE X.K C f)(l:fs.lookup f=some v) (h:∀u s',aV H s'->RelV v u->Q u s'):wpAny (model X.prog X.w) A (getAttr (.ref a) f b) Q E s:=by obtain⟨mA,O,r,_,_,_⟩:=ER I.bK e;obtain⟨u,hu,ru⟩:=qH.some_of (v:=v) (o:=mA f) (by rw[<-l];exact r f);exact get_map I.CU O (c.get f) c.hd n hu (GQ ru) (h u _ (I.tok _) ru)
theorem Be{Q:Unit->Shared->Prop}(I:aV H s)(e:H a=some (.ins C dx fs))(c:G2 X.K C)(n:eE X.K C f)(hl:fs.length<1000)(ry:RelV y u) (h:∀s',aV (upd H a (.ins C dx (be f y fs))) s'->Q () s'):wpAny (model X.prog X.w) A (setAttr (.ref a) f u) Q E s:=by
 obtain⟨mA,O,r,wi,_,ho⟩:=ER I.bK e;have hz:(fs.map (·.1)).length<=sizeLine:=(by rw[aiQ,ai6];omega);refine L1 I.CU O c.sa c.po n.TF c.hd wi hz fun h' O' sb=>h _ ?_;have hd:∃o,h'.get? dx=some o:=let⟨o,_,_,e',_⟩:=O'.ns;⟨o,e'⟩;refine I.write (x:=a) (e:=dx) (by rw[e];exact True.intro) (.inr ho) (fun b q hb z=>(sb.2 b hb).trans z) hd ?_;refine⟨by rw[aB O.ne];exact ho,?_,O.ne,O'.obj,_,O'.ns,fun g=>?_,fun g hg=>?_⟩
 .have:=bD f y fs;omega
 .show qH ((be f y fs).lookup g) (if g=f then some u else mA g);rw[iR];by_cases q:g=f
  .rw[ai5 q,ai5 q];exact ry
  .rw[ai0 q,ai0 q];exact r g
 .by_cases q:g=f
  .rw[q];exact(pV f y fs).1
  .refine(pV f y fs).2 g (wi g fun z=>hg ?_);show(if g=f then some u else mA g)=none;rw[ai0 q];exact z
theorem Inv.made(I:aV H s):aV (upd (upd H s.heap.objs.size (.own (s.heap.objs.size+1))) (s.heap.objs.size+1) (.ins C s.heap.objs.size [])) {s with heap:=(s.heap.push W.emptyDict).push (W.instObj C s.heap.objs.size)}:=by have e1:(s.heap.push W.emptyDict).get? s.heap.objs.size=some W.emptyDict:=aje s.heap rfl;have e2:((s.heap.push W.emptyDict).push (W.instObj C s.heap.objs.size)).get? (s.heap.objs.size+1)=some (W.instObj C s.heap.objs.size):=(by have:=aje (s.heap.push W.emptyDict) (o:=W.instObj C s.heap.objs.size) rfl;rwa [ajO]at this);have e3:(s.heap.push W.emptyDict).Ns s.heap.objs.size (fun _=>none):=⟨W.emptyDict,#[],_,e1,rfl,(fun e he=>absurd he (by simp)),fun _=>rfl⟩;have I1:=I.laid (a:=s.heap.objs.size) (o:= .own (s.heap.objs.size+1)) (h':=s.heap.push W.emptyDict) (t':=s.toks) (fun b u q=>aiX _ q) (ai2 _) ⟨_,e1⟩;refine I1.laid (a:=s.heap.objs.size+1) (o:= .ins C s.heap.objs.size []) (t':=s.toks) (fun b u q=>aiX _ q) (alE (ajO _ _)) ?_;have ne:s.heap.objs.size≠s.heap.objs.size+1:=ajB (akI _);refine⟨by rw[aB ne,aA],ajo _,ne,e2,fun _=>none,(Heap.Ns1.of_empty e3).at fun o q=>aiX _ q,fun _=>True.intro,fun y hy=>absurd rfl hy⟩
theorem Nj{env:Env}{f:Str}{pos:Pos}(hb:attributeBase e f env (eval e env)=eval e env) (h:wpAny (model prog w) A (eval e env) (fun o s₁=>wpAny (model prog w) A (getAttr o f true) Q E s₁) E s):wpAny (model prog w) A (eval (.Attribute e f pos) env) Q E s:=Attribute_any_ h (by rw[arm_eval_Attribute,hb])
end
def TV(K:W.Frag)(ta:TE)(f:Str):TE:=fun σ H Q=>ta σ H fun x H1=>∃a C dx fs v,x= .ref a/\H1 a=some (.ins C dx fs)/\G2 K C/\eE K C f/\fs.lookup f=some v/\Q v H1
def Yp(K:W.Frag)(ta tv:TE)(f:Str):TS:=fun D σ H=>tv σ H fun y H1=>ta σ H1 fun x H2=>∃a C dx fs,x= .ref a/\H2 a=some (.ins C dx fs)/\G2 K C/\eE K C f/\fs.length<1000/\D.nx σ (upd H2 a (.ins C dx (be f y fs)))
section
variable{o:Expr}{f:Str}{pos:Pos}
theorem aL(he:PE X e ta)(hb:attributeBase e f X.env (eval e X.env)=eval e X.env):PE X (.Attribute e f pos) (TV X.K ta f):=by intro pins s σ H Q I h;refine Nj hb (cQ (he pins s σ H _ I h) fun u s1 ⟨x,H1,I1,rx,a,C,dx,fs,v,ex,ea,c,n,l,q⟩=>?_);subst ex;obtain rfl:u=Value.ref a:=rx;exact Ct I1 ea c n l fun u' s2 I2 ru=>⟨v,H1,I2,ru,q⟩
theorem bf(ha:PE X o ta)(hv:PE X value tv)(hs:swapsWith value (some (.Attribute o f pos')) pos.line X.env=pure false):PS X (.Assign [.Attribute o f pos'] value pos) (Yp X.K ta tv f):=by intro pins s σ H D I h;refine plainObj_wpAny_Assign_Attribute (cQ (hv pins s σ H _ I h) fun u s1 ⟨y,H1,I1,ry,q⟩=>cQ (ha pins s1 σ H1 _ I1 q) fun ov s2 ⟨x,H2,I2,rx,a,C,dx,fs,ex,ea,c,n,l,q2⟩=>?_) hs;subst ex;obtain rfl:ov=Value.ref a:=rx;exact Be I2 ea c n l ry fun s3 I3=>⟨σ,_,I3,q2⟩
end
structure cu(k:Nat)(A:Around):Prop where
 hd:A.handled=none
 dp:A.depth+3*k+5<recursionLimit
 un:A.units+16*k+200<cLine
theorem cu.mono{k:Nat}(r:cu k A)(h:j<=k):cu j A:=⟨r.hd,by have:=r.dp;omega,by have:=r.un;omega⟩
theorem cu.deeper{k:Nat}(r:cu (k+1) A)(env:Env):cu k (A.deeper env):=⟨r.hd,by have:=r.dp;show A.depth+1+3*k+5<_;omega,by have:=r.un;show A.units+3+16*k+200<_;omega⟩
theorem cu.in1{k:Nat}(r:cu (k+1) A):cu k A.in1:=⟨r.hd,by have:=r.dp;show A.depth+3*k+5<_;omega,by have:=r.un;show A.units+1+16*k+200<_;omega⟩
theorem CO:(A.under (.builtin "type.__call__" ⟨.ref C::us,kw⟩)).depth=A.depth+1:=by first|rfl|simp[Around.under,Code.weight,Code.isCreation,Code.isGuard,Code.isCaller,Code.frames,Code.isFrame,guardIds]
theorem CN:(A.under (.builtin "type.__call__" ⟨.ref C::us,kw⟩)).units=A.units+1:=by first|rfl|simp[Around.under,Code.cUnits,Code.frames,Code.isFrame]
theorem cu.make{k:Nat}(r:cu (k+1) A)(C:Addr)(us:List Value)(kw:List (Str×Value)):cu k (A.under (.builtin "type.__call__" ⟨.ref C::us,kw⟩)):=⟨r.hd,by have:=r.dp;rw[CO];omega,by have:=r.un;rw[CN];omega⟩
theorem cu.depth{k:Nat}(r:cu k A):A.depth<recursionLimit:=by have:=r.dp;omega
theorem cu.units{k:Nat}(r:cu k A):A.units+64<cLine:=by have:=r.un;omega
def uy:TA:=fun _ H Q=>Q [] H
def fX(ta:TE)(tr:TA):TA:=fun σ H Q=>ta σ H fun x H1=>tr σ H1 fun xs H2=>Q (x::xs) H2
section
variable{t:TA}{pos:Pos}
theorem cA:PA X [] uy:=fun _ _ _ _ H Q I h=>alJ ⟨[],H,I,.nil,h⟩
theorem bb(ha:PE X e te)(hr:PA X es t)(hs:starEach (e::es) X.env=(false,eval e X.env)::starEach es X.env:=by rfl):PA X (e::es) (fX te t):=by intro pos pins s σ H Q I h;rw[hs];show wpAny _ _ (spliced ((false,eval e X.env)::backTo pos (starEach es X.env))) _ _ s;refine ak7 (cQ (ha pins s σ H _ I h) fun u s1 ⟨x,H1,I1,r1,q1⟩=>?_);exact cQ (hr pos pins s1 σ H1 _ I1 q1) fun us s2 ⟨xs,H2,I2,r2,q2⟩=>⟨x::xs,H2,I2,.cons r1 r2,q2⟩
theorem bM(h0:PE X e0 t0)(s0:starEach [e0] X.env=(false,eval e0 X.env)::starEach [] X.env:=by rfl):PA X [e0] (fX t0 uy):=(bb h0 cA s0)
theorem cY(h0:PE X e0 t0)(h1:PE X e1 t1)(s0:starEach [e0,e1] X.env=(false,eval e0 X.env)::starEach [e1] X.env:=by rfl)(s1:starEach [e1] X.env=(false,eval e1 X.env)::starEach [] X.env:=by rfl):PA X [e0,e1] (fX t0 (fX t1 uy)):=(bb h0 (bb h1 cA s1) s0)
theorem ny(h0:PE X e0 t0)(h1:PE X e1 t1)(h2:PE X e2 t2)(s0:starEach [e0,e1,e2] X.env=(false,eval e0 X.env)::starEach [e1,e2] X.env:=by rfl)(s1:starEach [e1,e2] X.env=(false,eval e1 X.env)::starEach [e2] X.env:=by rfl)(s2:starEach [e2] X.env=(false,eval e2 X.env)::starEach [] X.env:=by rfl):PA X [e0,e1,e2] (fX t0 (fX t1 (fX t2 uy))):=(bb h0 (bb h1 (bb h2 cA s2) s1) s0)
theorem G5(h0:PE X e0 t0)(h1:PE X e1 t1)(h2:PE X e2 t2)(h3:PE X e3 t3)(s0:starEach [e0,e1,e2,e3] X.env=(false,eval e0 X.env)::starEach [e1,e2,e3] X.env:=by rfl)(s1:starEach [e1,e2,e3] X.env=(false,eval e1 X.env)::starEach [e2,e3] X.env:=by rfl)(s2:starEach [e2,e3] X.env=(false,eval e2 X.env)::starEach [e3] X.env:=by rfl)(s3:starEach [e3] X.env=(false,eval e3 X.env)::starEach [] X.env:=by rfl):PA X [e0,e1,e2,e3] (fX t0 (fX t1 (fX t2 (fX t3 uy)))):=(bb h0 (bb h1 (bb h2 (bb h3 cA s3) s2) s1) s0)
theorem T9{e4:Expr}{t4:TE}(h0:PE X e0 t0)(h1:PE X e1 t1)(h2:PE X e2 t2)(h3:PE X e3 t3)(h4:PE X e4 t4)(s0:starEach [e0,e1,e2,e3,e4] X.env=(false,eval e0 X.env)::starEach [e1,e2,e3,e4] X.env:=by rfl)(s1:starEach [e1,e2,e3,e4] X.env=(false,eval e1 X.env)::starEach [e2,e3,e4] X.env:=by rfl)(s2:starEach [e2,e3,e4] X.env=(false,eval e2 X.env)::starEach [e3,e4] X.env:=by rfl)(s3:starEach [e3,e4] X.env=(false,eval e3 X.env)::starEach [e4] X.env:=by rfl)(s4:starEach [e4] X.env=(false,eval e4 X.env)::starEach [] X.env:=by rfl):PA X [e0,e1,e2,e3,e4] (fX t0 (fX t1 (fX t2 (fX t3 (fX t4 uy))))):=(bb h0 (bb h1 (bb h2 (bb h3 (bb h4 cA s4) s3) s2) s1) s0)
def TH(t:TA):TE:=fun σ H Q=>t σ H fun xs H1=>xs.length<=sizeLine/\∀p,H1 p=none->Q (.ref p) (upd H1 p (.tup xs))
def TR(t:TA):TE:=fun σ H Q=>t σ H fun xs H1=>xs.length<=sizeLine/\∀p,H1 p=none->Q (.ref p) (upd H1 p (.lst xs))
theorem cZ{x1}(h:PA X es t):PE X (.Tuple es x1 pos) (TH t):=by intro pins s σ H Q I hq;refine wpAny_Tuple_spliced (cQ (h pos pins s σ H _ I hq) fun us s1 ⟨xs,H1,I1,r,z,q⟩=>⟨by rw[<-r.length];exact z,?_⟩);have hf:H1 s1.heap.objs.size=none:=I1.bK.fresh (ai2 _);refine⟨.ref s1.heap.objs.size,upd H1 s1.heap.objs.size (.tup xs),I1.laid (t':=s1.toks) (fun b u e=>aiX _ e) (ai2 _) ?_,Z,q _ hf⟩;exact⟨z,us,r,⟨_,aje _ rfl,Z,_,Z⟩⟩
theorem aU(h:PA X es t):PE X (.List es pos) (TR t):=by intro pins s σ H Q I hq;refine wpAny_List_spliced (cQ (h pos pins s σ H _ I hq) fun us s1 ⟨xs,H1,I1,r,z,q⟩=>⟨by rw[<-r.length];exact z,?_⟩);have hf:H1 s1.heap.objs.size=none:=I1.bK.fresh (ai2 _);refine⟨.ref s1.heap.objs.size,upd H1 s1.heap.objs.size (.lst xs),I1.laid (t':=s1.toks) (fun b u e=>aiX _ e) (ai2 _) ?_,Z,q _ hf⟩;exact⟨z,us,0,r,aje _ rfl⟩
end
abbrev Sp:=List V->Hp->VK->XK->Prop
abbrev Nz:=List Env->Hp->Shared->XK->Value->Shared->Prop
structure vO(P:Program)(w:World)(K:W.Frag)(mg:Str->Option Value)(base:Heap)(A:Around)(outer:List Env)(s:Shared)(H:Hp):Prop where
 frames:A.frames=some outer
 mod:Mod K mg base
 bs:∀b o,base.get? b=some o->s.heap.get? b=some o/\H b=none
 HL:base.objs.size<=s.heap.objs.size
 mx:s.heap.FunFrames base outer
 NS:∀b∈yo outer,H b=none
 bK:jq P w H s.heap
 bare:AllBare s.gens
def CE(outer:List Env)(P:Program)(w:World)(H:Hp)(s:Shared)(Q:VK)(u:Value)(s':Shared):Prop:=∃v H',s'.os=s.os/\AllBare s'.gens/\Un (yo outer) [] H H' s.heap s'.heap/\jq P w H' s'.heap/\RelV v u/\Q v H'
def CR(CX:Nz)(outer:List Env)(P:Program)(w:World)(H:Hp)(s:Shared)(Q:VK)(E:XK)(r:Result)(s':Shared):Prop:=
 match r with
 | .ok (.ret u)=>CE outer P w H s Q u s'
 | .ok _=>False
 | .error e=>CX outer H s E e s'
structure gU(P:Program)(w:World)(K:W.Frag)(mg:Str->Option Value)(base:Heap)(CX:Nz)(k:Nat)(f:Addr)(fd:FuncData)(ps:List Str)(sp:Sp):Prop where
 len:∀vs H Q E,sp vs H Q E->vs.length=ps.length
 run:∀(A:Around) (outer:List Env) (s:Shared) (H:Hp) (args:Args) (us:List Value) (vs:List V) (Q:VK) (E:XK),cu k A->vO P w K mg base A outer s H->BindsTo s fd args (ps.zip us)->bI vs us->sp vs H Q E->
  codeAny (model P w) A (.call (.ref f) args) (CR CX outer P w H s Q E) s
theorem gU.mono{K:W.Frag}{k:Nat}(F:gU P w K mg base CX j f fd ps sp)(h:j<=k):gU P w K mg base CX k f fd ps sp:=⟨F.len,fun A outer s H args us vs Q E hr=>F.run A outer s H args us vs Q E (hr.mono h)⟩
theorem gU.imp{K:W.Frag}{k:Nat}{sp':Sp}(F:gU P w K mg base CX k f fd ps sp) (h:∀vs H Q E,sp' vs H Q E->sp vs H Q E):gU P w K mg base CX k f fd ps sp':=⟨fun vs H Q E q=>F.len vs H Q E (h _ _ _ _ q),fun A outer s H args us vs Q E hr he hb hv hs=>F.run A outer s H args us vs Q E hr he hb hv (h _ _ _ _ hs)⟩
theorem vO.make{K:W.Frag}(e:vO P w K mg base A outer s H)(C:Addr)(us:List Value)(kw:List (Str×Value)):vO P w K mg base (A.under (.builtin "type.__call__" ⟨.ref C::us,kw⟩)) outer s H:=⟨by first|exact e.frames|(simpa [Around.under,Code.envs,Code.isFrame,pushEnvs]using e.frames),e.mod,e.bs,e.HL,e.mx,e.NS,e.bK,e.bare⟩
theorem Inv.K5(I:aV H s):vO X.prog X.w X.K X.mg X.base X.A X.stack s H:=⟨I.ok.frames,I.ok.mod,I.bs,ajq I.ok.HL I.sz,I.stack,I.DQ,I.bK,I.bare⟩
theorem Inv.after{Q:VK}(I:aV H s)(h:CE X.stack X.prog X.w H s Q u s'):EP X pins σ Q u s':=by obtain⟨v,H',os,bare,un,bK,r,q⟩:=h;obtain⟨hh,g,d,t,UA⟩:=s';obtain rfl:UA=s.os:=os;exact⟨v,H',I.call (h':=hh) (g':=g) (d':=d) (t':=t) (ch:=[]) un bK bare (fun b z=>absurd z (by simp)),r,q⟩
def N4(sp:Sp)(AX:List V)(E:XK)(t:TA):TE:=fun σ H Q=>t σ H fun vs H1=>sp (vs++AX) H1 Q E
def DO(C:Addr)(sp:Sp)(AX:List V)(E:XK)(t:TA):TE:=fun σ H Q=>t σ H fun vs H1=>∀x dx,H1 x=none->H1 dx=none->dx≠x->sp (.ref x::(vs++AX)) (upd (upd H1 dx (.own x)) x (.ins C dx [])) (fun v H2=>v= .cW/\Q (.ref x) H2) E
def Binds(K:W.Frag)(fd:FuncData)(ps:List Str)(ds:List Value):Prop:=∀(s:Shared) (us:List Value),K.In s.heap->(us++ds).length=ps.length->BindsTo s fd ⟨us,[]⟩ (ps.zip (us++ds))
theorem Binds.all{K:W.Frag}(h:∀us:List Value,us.length=ps.length->bindArgs fd ⟨us,[]⟩=pure (ps.zip us)):Binds K fd ps []:=fun s us _ hl=>by rw[ajs]at hl⊢;exact .of_eq (h us hl)
def qI(CX:Nz)(X:Cx)(E:XK):Prop:=∀(pins:List (Addr×Obj)) (σ:St) (H:Hp) (s:Shared) (e:Value) (s':Shared),aV H s->CX X.stack H s E e s'->X.xe e s'
section
variable{k:Nat}{E:XK}{x:Str}{pos:Pos}{o:Expr}{t:TA}
theorem Py{Q:VK}(F:gU X.prog X.w X.K X.mg X.base CX k f fd ps sp)(hr:cu k X.A)(hb:Binds X.K fd ps ds)(hd:bI AX ds)(hx:qI CX X E) (I:aV H s)(r:bI vs us)(h:sp (vs++AX) H Q E):gy (call (.ref f) us) (EP X pins σ Q) X.xe s:=by
 have r2:bI (vs++AX) (us++ds):=r.append hd;have hl:(us++ds).length=ps.length:=(by rw[<-r2.length];exact F.len _ _ _ _ h);refine alP (akH (F.run X.A X.stack s H ⟨us,[]⟩ (us++ds) (vs++AX) Q E hr I.K5 (hb s us I.CU hl) r2 h) fun r s' hq=>?_);cases r with
 |error e=>exact hx pins σ H s e s' I hq
 |ok fl=>
  cases fl with
  |ret u=>exact I.after hq
  |next=>exact False.elim hq
  |brk=>exact False.elim hq
  |cont=>exact False.elim hq
theorem MI(F:gU X.prog X.w X.K X.mg X.base CX k f fd ps sp)(hr:cu k X.A)(hg:Gl X x)(hm:X.mg x=some (.ref f))(hk:W.keepIn X.K (.ref f)=true)(hb:Binds X.K fd ps ds)(hd:bI AX ds)(hx:qI CX X E) (ha:PA X (e::es) t)(AL:(x==("__debug__":Str))=false:=by decide)(he:starEach (e::es) X.env=(false,eval e X.env)::starEach es X.env:=by rfl)(mI:(backTo pos (starEach es X.env)).any (·.1)=false:=by rfl):PE X (.Call (.Name x p) (e::es) [] pos) (N4 sp AX E t):=by intro pins s σ H Q I h;refine akd (oM I hg hm ?_ AL);refine W.callWith_K (h₀:=X.base) I.ok.mod.SN hk (cQ (ha pos pins s σ H _ I h) fun us s1 ⟨vs,H1,I1,r,q⟩=>⟨I1.CU,?_⟩) he mI;exact Py F hr hb hd hx I1 r q
structure Mk(K:W.Frag)(C f:Addr):Prop where
 makes:W.makesIn K C=true
 init:W.findIn K (.ref C) "__init__"=some (some (.ref f))
 fn:W.isFn K (.ref f)=true
 kp:W.keepIn K (.ref C)=true
theorem zK{Q:VK}(M:Mk X.K C f)(F:gU X.prog X.w X.K X.mg X.base CX k f fd ps sp)(hr:cu (k+1) X.A)(hb:Binds X.K fd ps ds)(hd:bI AX ds) (hx:qI CX X E)(I:aV H s)(r:bI vs us) (h:∀x dx,H x=none->H dx=none->dx≠x->sp (.ref x::(vs++AX)) (upd (upd H dx (.own x)) x (.ins C dx [])) (fun v H2=>v= .cW/\Q (.ref x) H2) E):gy (call (.ref C) us) (EP X pins σ Q) X.xe s:=by
 have hq:=h (s.heap.objs.size+1) s.heap.objs.size (I.bK.fresh (akC _)) (I.bK.fresh (ai2 _)) (ajB (akI _));have I2:=Inv.made (C:=C) I;have r2:bI (V.ref (s.heap.objs.size+1)::(vs++AX)) (Value.ref (s.heap.objs.size+1)::(us++ds)):= .cons rfl (r.append hd);have hl:(Value.ref (s.heap.objs.size+1)::us++ds).length=ps.length:=(by have e:=r2.length;rw[F.len _ _ _ _ hq]at e;exact e.symm);refine alP (J1 (f:=f) I.CU M.makes M.init (akY.mp M.fn) (akH (F.run _ X.stack _ _ ⟨Value.ref (s.heap.objs.size+1)::us,[]⟩ (Value.ref (s.heap.objs.size+1)::(us++ds)) _ _ E (hr.make C us []) (I2.K5.make C us []) (hb _ (Value.ref (s.heap.objs.size+1)::us) I2.CU hl) r2 hq) fun r s' NB=>?_));cases r with
 |error e=>exact hx pins σ _ _ e s' I2 NB
 |ok fl=>
  cases fl with
  |ret u=>
   obtain⟨v,H',I3,rv,ev,q3⟩:=I2.after NB;subst ev;exact⟨rv,⟨V.ref (s.heap.objs.size+1),H',I3,Z,q3⟩⟩
  |next=>exact False.elim NB
  |brk=>exact False.elim NB
  |cont=>exact False.elim NB
theorem MG(M:Mk X.K C f)(F:gU X.prog X.w X.K X.mg X.base CX k f fd ps sp)(hr:cu (k+1) X.A)(hg:Gl X x)(hm:X.mg x=some (.ref C))(hb:Binds X.K fd ps ds)(hd:bI AX ds)(hx:qI CX X E) (ha:PA X (e::es) t)(AL:(x==("__debug__":Str))=false:=by decide)(he:starEach (e::es) X.env=(false,eval e X.env)::starEach es X.env:=by rfl)(mI:(backTo pos (starEach es X.env)).any (·.1)=false:=by rfl):PE X (.Call (.Name x p) (e::es) [] pos) (DO C sp AX E t):=by intro pins s σ H Q I h;refine akd (oM I hg hm ?_ AL);refine W.callWith_K (h₀:=X.base) I.ok.mod.SN M.kp (cQ (ha pos pins s σ H _ I h) fun us s1 ⟨vs,H1,I1,r,q⟩=>⟨I1.CU,?_⟩) he mI;exact zK M F hr hb hd hx I1 r q
theorem JW(M:Mk X.K C f)(F:gU X.prog X.w X.K X.mg X.base CX k f fd ps sp)(hr:cu (k+1) X.A)(hg:Gl X x)(hm:X.mg x=some (.ref C))(hb:Binds X.K fd ps ds)(hd:bI AX ds)(hx:qI CX X E) (AL:(x==("__debug__":Str))=false:=by decide):PE X (.Call (.Name x p) [] [] pos) (DO C sp AX E uy):=by intro pins s σ H Q I h;refine akd (oM I hg hm ?_ AL);exact W.callWith_K0 I.CU M.kp (zK (us:=[]) M F hr hb hd hx I .nil h)
end
structure aM(N P:List Str)(sc:Scope):Prop where
 kind:sc.kind= .function
 co:sc.isCoroutine=false
 gen:sc.isGenerator=false
 nd:N.Nodup
 pre:N.take P.length=P
 par:∀x∈P,sc.names.lookup x=some .local\/sc.names.lookup x=some .cell
 QK:∀y∈sc.names,y.2≠ .free
theorem dc{P:List Str}(h:(decide (sc.kind= .function)&& !sc.isCoroutine&& !sc.isGenerator&&decide N.Nodup&&decide (N.take P.length=P)&&P.all (fun x=>decide (sc.names.lookup x=some .local)||decide (sc.names.lookup x=some .cell))&&sc.names.all (fun y=> !decide (y.2= .free)))=true:=by decide+kernel):aM N P sc:=by simp only[ajn,amf,ajQ,alh,alA,ajA]at h;exact⟨h.1.1.1.1.1.1,h.1.1.1.1.1.2,h.1.1.1.1.2,h.1.1.1.2,h.1.1.2,h.1.2,h.2⟩
theorem wx{kindOf:Str->Option NameKind}{x:Str}:∀{binds:List (Str×Value)} {m:Str->Option Value},(∀v,(x,v)∉binds)->bindL kindOf binds m x=m x
 | [],_,_=>rfl
 |(n,v)::r,m,h=>by
  unfold bindL;rw[wx fun w hw=>h w (aiS _ hw)];split
  .have:x≠n:=(by rintro rfl;exact h v aiV);simp[this]
  .rfl
theorem w4{kindOf:Str->Option NameKind}{x:Str}:∀{binds:List (Str×Value)} {m:Str->Option Value},(∀v,(x,v)∉binds)->bindC kindOf binds m x=m x
 | [],_,_=>rfl
 |(n,v)::r,m,h=>by
  unfold bindC;rw[w4 fun w hw=>h w (aiS _ hw)];split
  .rfl
  .have:x≠n:=(by rintro rfl;exact h v aiV);simp[this]
theorem wz{kindOf:Str->Option NameKind}{x:Str}{v:Value}:∀{P:List Str} {vs:List Value} {i:Nat} {m:Str->Option Value},P.Nodup->P[i]?=some x->vs[i]?=some v->kindOf x=some .local->bindL kindOf (P.zip vs) m x=some v
 | [],_,_,_,_,h,_,_=>by simp at h
 |_::_,[],_,_,_,_,h,_=>by simp at h
 |p::P,w::vs,0,m,nd,h1,h2,hk=>by simp at h1 h2;subst h1;subst h2;show bindL kindOf ((p,w)::P.zip vs) m p=_;unfold bindL;rw[wx fun v hv=>(ajP.mp nd).1 (alx hv).1,ai5 hk];simp
 |p::P,w::vs,i+1,m,nd,h1,h2,hk=>by show bindL kindOf ((p,w)::P.zip vs) m x=_;unfold bindL;exact wz (i:=i) (ajP.mp nd).2 (by simpa using h1) (by simpa using h2) hk
theorem w6{kindOf:Str->Option NameKind}{x:Str}{v:Value}:∀{P:List Str} {vs:List Value} {i:Nat} {m:Str->Option Value},P.Nodup->P[i]?=some x->vs[i]?=some v->kindOf x≠some .local->bindC kindOf (P.zip vs) m x=some v
 | [],_,_,_,_,h,_,_=>by simp at h
 |_::_,[],_,_,_,_,h,_=>by simp at h
 |p::P,w::vs,0,m,nd,h1,h2,hk=>by simp at h1 h2;subst h1;subst h2;show bindC kindOf ((p,w)::P.zip vs) m p=_;unfold bindC;rw[w4 fun v hv=>(ajP.mp nd).1 (alx hv).1,ai0 hk];simp
 |p::P,w::vs,i+1,m,nd,h1,h2,hk=>by show bindC kindOf ((p,w)::P.zip vs) m x=_;unfold bindC;exact w6 (i:=i) (ajP.mp nd).2 (by simpa using h1) (by simpa using h2) hk
def start(N:List Str)(vs:List V):St:=vs.map some++List.replicate (N.length-vs.length) none
def uR(CX:Nz)(P:Program)(w:World)(K:W.Frag)(mg:Str->Option Value)(base:Heap)(N:List Str)(qual:Str)(scope:Scope)(f:Addr)(cd:Value)(A:Around)(outer:List Env)(s:Shared)(H:Hp)(E:XK):Cx where
 prog:=P
 w:=w
 K:=K
 mg:=mg
 base:=base
 A:=A.deeper (envOfC qual scope s.heap.objs.size f cd)
 N:=N
 qm:=s
 Gx:=H
 env:=envOfC qual scope s.heap.objs.size f cd
 outer:=outer
 stack:=envOfC qual scope s.heap.objs.size f cd::outer
 ex:=[]
 calm:=true
 fn:=fun _=>true
 pn:=[]
 xe:=fun e s'=>wpAny (model P w) (A.deeper (envOfC qual scope s.heap.objs.size f cd)) (leaving (envOfC qual scope s.heap.objs.size f cd) e) (fun _ Lb=>CX outer H s E e Lb) (fun e' Lb=>CX outer H s E e' Lb) s'
theorem As{x:Str}(h:sc.names.lookup x=some .cell):∃c,(cellsFrom n sc.names []).lookup x=some c:=by have q:=amH sc.names n [] (.inl h);exact akZ.mp q
theorem wN{K:W.Frag}{cd:Value}{s1:Shared}{E:XK} (S:aM N ps scope)(hd:A.handled=none)(e0:vO P w K mg base A outer s H)(hl:vs.length=ps.length)(r:bI vs us) (x:InCallC s s.heap.objs.size (bindL (envOfC qual scope s.heap.objs.size f cd).kindOf (ps.zip us) fun _=>none) (cellsFrom (s.heap.objs.size+1) scope.names []) (bindC (envOfC qual scope s.heap.objs.size f cd).kindOf (ps.zip us) fun _=>none) s1):Inv (uR CX P w K mg base N qual scope f cd A outer s H E) [] (start N vs) H s1:=by
 have mI:ps.length<=N.length:=(by have:=akc List.length S.pre;rw[ajb]at this;omega);obtain⟨h1,tk,rfl,hk⟩:=x.done;have QL:∀b:Addr,b∉(uR CX P w K mg base N qual scope f cd A outer s H E).ex:=fun b z=>absurd (show b∈([]:List Addr)from z) (by simp);refine⟨⟨e0.mod,S.kind,Z,Z,ai2 _,fun y z c h1 h2=>?_,fun y hy=>?_,fun y c _ h=>?_,fun _=>hd,Around.frames_deeper e0.frames,.inr ⟨Z,Z⟩,fun b z=>absurd z (QL b),e0.bs,e0.HL,fun b _ _=>QL b,fun b z=>absurd z (QL b),e0.mx,e0.NS⟩,
  rfl,e0.bare,Un.kept hk,⟨_,x.toInCall.ns,fun i y v h1 h2 h3=>?_⟩,fun y c h=>⟨_,x.cell y c h⟩,e0.bK.fresh (ai2 _),fun y c h=>?_,fun p hp=>absurd (show p∈([]:List (Addr×Obj))from hp) (by simp),e0.bK.kept hk,?_⟩
 .exact name_of_addr x.apart (ajJ h1) (ajJ h2)
 .have hy:scope.names.lookup y=some .cell\/scope.names.lookup y=some .free:=hy;rcases hy with hy|hy
  .exact As hy
  .exact absurd rfl (S.QK _ (ajJ hy))
 .exact aki (x.above y c (ajJ h))
 .have hi:i<vs.length:=by
   unfold start at h2;by_cases hi:i<vs.length
   .exact hi
   .rw[alS (by simpa using hi)]at h2;rw[List.getElem?_replicate]at h2;split at h2<;>cases h2
  have ha:vs[i]?=some v:=by
   unfold start at h2;rw[alp (by simpa using hi),ajd]at h2;cases e:vs[i]? with
   |none=>rw[e]at h2;cases h2
   |some a=>rw[e]at h2;cases h2;rfl
  obtain⟨u,hu,rv⟩:=r.get ha;have hp:ps[i]?=some y:=(by rw[<-S.pre,List.getElem?_take_of_lt (by omega)];exact h1);have ndP:ps.Nodup:=(by rw[<-S.pre];exact S.nd.sublist (List.take_sublist _ _));refine⟨u,rv,?_⟩;rcases S.par y (ai1 hp)with k|k
  .exact .inl ⟨k,wz ndP hp hu k⟩
  .obtain⟨c,e⟩:=As (n:=s.heap.objs.size+1) k;refine .inr ⟨.inl k,c,e,?_⟩;have q:=x.cell y c e;rw[w6 ndP hp hu (by show scope.names.lookup y≠_;rw[k];decide)]at q;exact q
 .exact e0.bK.fresh (aki (x.above y c (ajJ h)))
 .unfold start;show _=N.length;rw[aiT,aiQ,List.length_replicate];omega
theorem Oo{K:W.Frag}{k:Nat}{params:Arguments}{dV kV doc pm fv ct oc:Value}{an od:Option Addr} {uo:Array (Option Value)}(lk:K.lookup f=some ⟨oc,od,.func (W.fnOf name qual params body scope dV kV doc pm an fv ct),uo⟩)(uD:W.codeIn K fv qual=true)(S:aM N ps scope) (len:∀vs H Q E,sp vs H Q E->vs.length=ps.length) (lB:∀(A:Around) (outer:List Env) (s:Shared) (H:Hp) (vs:List V) (Q:VK) (E:XK),cu k (A.deeper (envOfC qual scope s.heap.objs.size f fv))->sp vs H Q E->∃t,BG (uR CX P w K mg base N qual scope f fv A outer s H E) body t/\t {nx:=fun _ H'=>Q .cW H',rt:=Q} (start N vs) H):gU P w K mg base CX (k+1) f (W.fnOf name qual params body scope dV kV doc pm an fv ct) ps sp:=by
 refine⟨len,fun A outer s H args us vs Q E hr e0 hb r tw=>?_⟩;have hl:=len _ _ _ _ tw;have KX:K.In s.heap:=e0.mod.SN.keeps fun b o e=>(e0.bs b o e).1;have lim:s.heap.NoLimit:=e0.mod.nolimit.keeps fun b o e=>(e0.bs b o e).1;have Kc:∀y∈ps.zip us,scope.names.lookup y.1=some .local\/(scope.names.lookup y.1=some .cell/\((cellsFrom (s.heap.objs.size+1) scope.names []).lookup y.1).isSome=true):=fun⟨n,v⟩ hy=>by
  rcases S.par n (alx hy).1 with q|q
  .exact .inl q
  .exact .inr ⟨q,amH _ _ _ (.inl q)⟩
 refine codeAny_call_function hr.depth (KX _ _ lk) rfl S.co S.gen rfl (W.codeRec_of KX uD) (hb _ _ _ _ ?_);refine amX S.kind Kc fun env he s1 x=>?_;subst he;refine⟨lim.keeps x.toInCall.keep,codeAny_func ?_⟩;obtain⟨t,ht,hq⟩:=lB A outer s H vs Q E (hr.deeper _) tw;have I:Inv (uR CX P w K mg base N qual scope f fv A outer s H E) [] (start N vs) H s1:=wN S hr.hd e0 hl r x;refine ake (ht [] s1 (start N vs) H _ I hq) (fun fl s' hs=>?_) fun e s' hs=>hs;have fin:∀{σ':St} {H':Hp} {v:V} {u:Value},Inv (uR CX P w K mg base N qual scope f fv A outer s H E) [] σ' H' s'->RelV v u->Q v H'->CE outer P w H s Q u s':=fun{σ' H' v u} J rv q=>⟨v,H',J.os,J.bare,J.base,J.bK,rv,q⟩;cases fl with
 |ret u=>
  obtain⟨v,σ',H',J,rv,q⟩:=hs;exact fin J rv q
 |next=>
  obtain⟨σ',H',J,q⟩:=hs;exact fin (v:=V.cW) (u:=Value.none) J rfl q
 |brk=>
  obtain⟨_,_,_,q⟩:=hs;exact False.elim q
 |cont=>
  obtain⟨_,_,_,q⟩:=hs;exact False.elim q
section
variable{x:Str}{pos:Pos}{t:TA}{r:List V->Hp->VK->Prop}
def tCB(r:List V->Hp->VK->Prop)(t:TA):TE:=fun σ H Q=>t σ H fun vs H1=>r vs H1 Q
theorem bA(hc:mM X (.builtin id) r)(hg:Gl X x)(hm:X.mg x=none)(hv:bootBuiltins x=some (.builtin id))(ha:PA X (e::es) t)(hn:x≠"__name__":=by decide)(AL:(x==("__debug__":Str))=false:=by decide) (he:starEach (e::es) X.env=(false,eval e X.env)::starEach es X.env:=by rfl)(mI:(backTo pos (starEach es X.env)).any (·.1)=false:=by rfl):PE X (.Call (.Name x p) (e::es) [] pos) (tCB r t):=by intro pins s σ H Q I h;refine akd (kx I hg hm hv ?_ hn AL);exact amI (cQ (ha pos pins s σ H _ I h) fun us s1 ⟨vs,H1,I1,r1,q1⟩=>hc pins s1 σ H1 vs us Q I1 r1 q1) he mI
theorem pP(hc:mM X (.type T) r)(hg:Gl X x)(hm:X.mg x=none)(hv:bootBuiltins x=some (.type T))(ha:PA X (e::es) t)(hn:x≠"__name__":=by decide)(AL:(x==("__debug__":Str))=false:=by decide) (he:starEach (e::es) X.env=(false,eval e X.env)::starEach es X.env:=by rfl)(mI:(backTo pos (starEach es X.env)).any (·.1)=false:=by rfl):PE X (.Call (.Name x p) (e::es) [] pos) (tCB r t):=by intro pins s σ H Q I h;refine akd (kx I hg hm hv ?_ hn AL);exact alf (cQ (ha pos pins s σ H _ I h) fun us s1 ⟨vs,H1,I1,r1,q1⟩=>hc pins s1 σ H1 vs us Q I1 r1 q1) he mI
end
end L2
namespace HT
open PySem PyProof.Rows
section
variable{prog:Program}{w:World}{A:Around}{E:Value->Shared->Prop}{s:Shared}
def vn(n d:Nat):Option Int->Nat
 |none=>d
 |some v=>if v<0 then(v+(n:Int)).toNat else min v.toNat n
theorem Iq(n d:Nat):vn n d none=d:=rfl
theorem jL(n d k:Nat):vn n d (some (k:Int))=min k n:=by show(if(k:Int)<0 then((k:Int)+(n:Int)).toNat else min (k:Int).toNat n)=min k n;rw[ai0 (by omega),alI]
end
end HT
namespace L2
open PySem PySem.Spec PyProof.Rows
variable{X:Cx}{H H':Hp}{s:Shared}{σ:St}{pins:List (Addr×Obj)}{w:World}{A:Around}{u:Value}{c e elt iter tg value:Expr}{D a b d it l:Addr}{E Q:Value->Shared->Prop}{P prog:Program}{v y:V}{aP:List (List Key×V)}{o od:Obj}{scope:Scope}{ta tb td te to tv ty:TE}{es:Array DictEntry}{ep i j kk n t':Nat}{α κ:Type}{apos kG p p2 pos' FJ:Pos}{T id:String}{xs ys zs:List V}{g:TG}{h h':Heap}{own:List (Str×Nat)}{elts ifs:List Expr}{tt:TT}{env:Env}{wi:TI}{hi lo:Option Expr}{th:TO}{name:Str}{r:V->List V->Hp->VK->Prop}{bE:List Value}{M:Model}{ob:HO}{ch:List Addr}
abbrev TO:=St->Hp->(Option Int->Hp->Prop)->Prop
def PO(X:Cx)(e:Option Expr)(t:TO):Prop:=∀(pins:List (Addr×Obj)) (s:Shared) (σ:St) (H:Hp) (Q:Option Int->Hp->Prop),aV H s->t σ H Q->gy (evalPart e X.env) (fun u s'=>∃o H',aV H' s'/\IsPart u o/\Q o H') X.xe s
def Ly:TO:=fun _ H Q=>Q none H
def TK(t:TE):TO:=fun σ H Q=>t σ H fun x H1=>∃i,x= .int i/\Q (some i) H1
section
variable{tl:TO}{pos:Pos}
theorem Dv:PO X none Ly:=by intro pins s σ H Q I h;rw[evalPart_none];exact ai4 ⟨none,H,I,.none,h⟩
theorem gJ(h:PE X e te):PO X (some e) (TK te):=by intro pins s σ H Q I hw;rw[evalPart_some];refine cQ (h pins s σ H _ I hw) fun u s1 ⟨x,H1,I1,r1,q1⟩=>?_;obtain⟨i,rfl,q⟩:=q1;obtain⟨t,rfl⟩:=r1;exact⟨some i,H1,I1,.int i t,q⟩
def SlR(X:Cx)(r:V->Option Int->Option Int->Hp->VK->Prop):Prop:=∀(pins:List (Addr×Obj)) (s:Shared) (σ:St) (H:Hp) (x:V) (v vl vu:Value) (lo hi:Option Int) (sl:Addr) (Q:VK),aV H s->RelV x v->s.heap.IsSliceOf sl vl vu .none->IsPart vl lo->IsPart vu hi->r x lo hi H Q->∃T id,typeLookup (.type T) "__getitem__"=pure (some (.builtin id))/\s.TypeIs v T/\gy (getItem v (.ref sl)) (EP X pins σ Q) X.xe s
def tSl(r:V->Option Int->Option Int->Hp->VK->Prop)(te:TE)(tl th:TO):TE:=fun σ H Q=>te σ H fun x H1=>tl σ H1 fun l H2=>th σ H2 fun u H3=>r x l u H3 Q
theorem i4{r:V->Option Int->Option Int->Hp->VK->Prop}(hr:SlR X r)(he:PE X e te)(hl:PO X lo tl)(hu:PO X hi th):PE X (.Subscript e (.Slice lo hi none p2) pos) (tSl r te tl th):=by intro pins s σ H Q I h;refine Subscript_ (cQ (he pins s σ H _ I h) fun v s1 ⟨x,H1,I1,r1,q1⟩=>?_);refine wpAny_Slice (cQ (hl pins s1 σ H1 _ I1 q1) fun vl s2 ⟨l,H2,I2,pl,q2⟩=>cQ (hu pins s2 σ H2 _ I2 q2) fun vu s3 ⟨u,H3,I3,pu,q3⟩=>?_);rw[evalPart_none];refine ai4 ?_;have I4:aV H3 {s3 with heap:=s3.heap.push {cls:= .type "slice",data:= .fields #[vl,vu,.none]}}:=I3.kept (t':=s3.toks) fun b ob q=>aiX _ q;obtain⟨T,id,hT,ht,hg⟩:=hr pins {s3 with heap:=s3.heap.push {cls:= .type "slice",data:= .fields #[vl,vu,.none]}} σ H3 x v vl vu l u s3.heap.objs.size Q I4 r1 (Heap.IsSliceOf.new ..) pl pu q3;show gy (subscriptTail e (.Slice lo hi none p2) v (.ref s3.heap.objs.size)) (EP X pins σ Q) X.xe {s3 with heap:=s3.heap.push {cls:= .type "slice",data:= .fields #[vl,vu,.none]}};exact tail_any (ops:=[.ref s3.heap.objs.size,v]) ht hT hg (by with_unfolding_all rfl)
def jf(xs:List V)(lo hi:Option Int):List V:=(xs.drop (HT.vn xs.length 0 lo)).take (HT.vn xs.length xs.length hi-HT.vn xs.length 0 lo)
theorem Al(xs:List V)(lo hi:Option Int):(jf xs lo hi).length<=xs.length:=by unfold jf;rw[ajb,akt];omega
end
def OY(n:Nat)(i:Int):Option Nat:=if 0<=i then(if i<n then some i.toNat else none)else if-(n:Int)<=i then some (i+n).toNat else none
def Az(xs:List α)(i:Int):Option α:=(OY xs.length i).bind fun j=>xs[j]?
theorem M1{i:Int}(h:OY n i=some j):seqIndex? i n=some j/\j<n/\-(n:Int)<=i/\i<n:=by
 unfold OY at h;by_cases h0:0<=i
 .rw[ai5 h0]at h;by_cases h1:i<n
  .rw[ai5 h1]at h;have e:i.toNat=j:=ajr h;exact⟨by rw[seqIndex_of h0 h1,e],by omega,by omega,h1⟩
  .rw[ai0 h1]at h;cases h
 .rw[ai0 h0]at h;by_cases h1: -(n:Int)<=i
  .rw[ai5 h1]at h;have e:(i+n).toNat=j:=ajr h;exact⟨by rw[seqIndex_neg (by omega) h1,e],by omega,h1,by omega⟩
  .rw[ai0 h1]at h;cases h
theorem Ez{xs:List α}{i:Int}{v:α}(h:Az xs i=some v):∃j,seqIndex? i xs.length=some j/\xs[j]?=some v/\j<xs.length/\-(xs.length:Int)<=i/\i<xs.length:=by
 unfold Az at h;cases e:OY xs.length i with
 |none=>rw[e]at h;cases h
 |some j=>
  rw[e]at h;obtain⟨h1,h2,h3,h4⟩:=M1 e;exact⟨j,h1,h,h2,h3,h4⟩
theorem aS{xs:List α}{v:α}(h:xs[j]?=some v):Az xs (j:Int)=some v:=by have hj:j<xs.length:=(ai3.mp h).1;have e:OY xs.length (j:Int)=some j:=(by unfold OY;rw[ai5 (by omega),ai5 (by omega)];simp);unfold Az;rw[e];exact h
theorem Ay(xs:List α)(v:α):Az (xs++[v]) (-1)=some v:=by have hl:(xs++[v]).length=xs.length+1:=(by simp);have e:OY (xs++[v]).length (-1)=some xs.length:=(by unfold OY;rw[hl,ai0 (by decide),ai5 (by omega)];congr 1;omega);unfold Az;rw[e];show(xs++[v])[xs.length]?=some v;simp
def Nn(b:Expr):Prop:=∀o i,subscripted b false o i=operate [o,i] (getItem o i)
def X3(X:Cx)(r:R2):Prop:=∀(value slice:Expr) (pins:List (Addr×Obj)) (s:Shared) (σ:St) (H:Hp) (x y:V) (v u:Value) (Q:VK),aV H s->RelV x v->RelV y u->r x y H Q->subscripted slice false v u=operate [v,u] (getItem v u)->gy (subscriptTail value slice v u) (EP X pins σ Q) X.xe s
def MtR(X:Cx)(id:String)(r:V->List V->Hp->VK->Prop):Prop:=∀(pins:List (Addr×Obj)) (s:Shared) (σ:St) (H:Hp) (x:V) (xs:List V) (v:Value) (us:List Value) (Q:VK),aV H s->RelV x v->bI xs us->r x xs H Q->gy (call (.builtin id) (v::us)) (EP X pins σ Q) X.xe s
section
variable{a b:Expr}{pos:Pos}
theorem af{r:R2}(hr:X3 X r)(ha:PE X a ta)(hb:PE X b tb)(hs:Nn b:=by exact fun _ _=>rfl):PE X (.Subscript a b pos) (TM r ta tb):=by intro pins s σ H Q I h;exact Subscript_ (Rp ha hb I h fun v u s2 x y H2 I2 rx ry q=>hr a b pins s2 σ H2 x y v u Q I2 rx ry q (hs _ _))
def Yw(K:W.Frag):R2:=fun x y H Q=>∃p xs i v,x= .ref p/\y= .int i/\ae K H p xs/\Az xs i=some v/\Q v H
def T5(K:W.Frag):R2:=fun x y H Q=>∃p xs i v,x= .ref p/\y= .int i/\gF K H p xs/\Az xs i=some v/\Q v H
theorem aX:X3 X (Yw X.K):=by
 intro value slice pins s σ H x y v u Q I rx ry h hs;obtain⟨p,xs,i,z,rfl,rfl,hq,he,q⟩:=h;cases rx;obtain⟨t,rfl⟩:=ry;obtain⟨bE,r,pl,hz⟩:=I.list hq;obtain⟨j,h1,h2,h3,h4,h5⟩:=Ez he;obtain⟨w,ew,L9⟩:=r.get h2;have hl:=r.length;have hn:=CQ;have fin:EP X pins σ Q w s:=⟨z,H,I,L9,q⟩;by_cases h0:0<=i
 .have hj:i.toNat=j:=(by rw[seqIndex_of h0 h5]at h1;exact ajr h1);exact item_listR pl.isList h0 (by omega) (by rw[hj];simpa using ew) fin hs
 .have hj:(i+(bE.toArray.size:Int)).toNat=j:=(by rw[seqIndex_neg (by omega) h4]at h1;rw[ajj,<-hl];exact ajr h1);exact ang (x:=w) pl.isList.typeIs slot_list_getitem.lookup (wpAny_getItem_list_neg (Q:=fun r s'=>r=w/\EP X pins σ Q r s') pl.isList (by omega) (by rw[ajj]<;>omega) (by omega) (by rw[hj];simpa using ew) ⟨Z,fin⟩) hs
theorem cU:X3 X (T5 X.K):=by intro value slice pins s σ H x y v u Q I rx ry h hs;obtain⟨p,xs,i,z,rfl,rfl,hq,he,q⟩:=h;cases rx;obtain⟨t,rfl⟩:=ry;obtain⟨bE,r,pl,hz⟩:=I.tuple hq;obtain⟨j,h1,h2,h3,h4,h5⟩:=Ez he;obtain⟨w,ew,L9⟩:=r.get h2;have hl:=r.length;have hn:=CQ;have fin:EP X pins σ Q w s:=⟨z,H,I,L9,q⟩;exact ang (x:=w) pl.typeIs slot_tuple_getitem.lookup (getItem_tuple (j:=j) (Q:=fun r s'=>r=w/\EP X pins σ Q r s') pl (by omega) (by omega) (by rw[ajj,<-hl];exact h1) (by simpa using ew) ⟨Z,fin⟩) hs
theorem xM(lo hi:Option Int)(n:Nat):(sliceBounds lo hi none n).1=((HT.vn n 0 lo:Nat):Int)/\(sliceBounds lo hi none n).2.1=((HT.vn n n hi:Nat):Int)/\(sliceBounds lo hi none n).2.2=1:=by
 refine⟨?_,?_,Z⟩
 .cases lo with
  |none=>simp[sliceBounds,HT.vn]
  |some i=>
   simp only[sliceBounds,HT.vn,Option.getD_none,show(1:Int)>0 by decide,al2];by_cases h:i<0
   .simp only[h,al2]<;>omega
   .simp only[h,ali]<;>omega
 .cases hi with
  |none=>simp[sliceBounds,HT.vn]
  |some i=>
   simp only[sliceBounds,HT.vn,Option.getD_none,show(1:Int)>0 by decide,al2];by_cases h:i<0
   .simp only[h,al2]<;>omega
   .simp only[h,ali]<;>omega
theorem uz(bE:List Value)(lo hi:Option Int):slicePick bE.toArray lo hi none=((bE.drop (HT.vn bE.length 0 lo)).take (HT.vn bE.length bE.length hi-HT.vn bE.length 0 lo)).toArray:=by obtain⟨h1,h2,h3⟩:=xM lo hi bE.toArray.size;unfold slicePick;rw[h1,h2,h3];simp only[sliceRange_one,pick_run,ajj]<;>rfl
def T4(K:W.Frag):V->Option Int->Option Int->Hp->VK->Prop:=fun x lo hi H Q=>∃a xs,x= .ref a/\ae K H a xs/\∀p,H p=none->Q (.ref p) (upd H p (.lst (jf xs lo hi)))
theorem lQ:SlR X (T4 X.K):=by intro pins s σ H x v vl vu lo hi sl Q I rx hs pl pu h;obtain⟨a,xs,rfl,hx,q⟩:=h;cases rx;obtain⟨bE,r,ht,hz⟩:=I.list hx;have hlen:=r.length;refine⟨"list",_,slot_list_getitem.lookup,ht.isList.typeIs,?_⟩;refine wpAny_getItem_list_slice ht.isList hs pl pu .none (by simp) ?_ (by rw[ajj]<;>omega);rw[uz,<-hlen];refine⟨.ref s.heap.objs.size,_,I.laid (t':=s.toks) (o:= .lst (jf xs lo hi)) (fun b ob q=>aiX _ q) (ai2 _) ?_,Z,q _ (I.bK.fresh (ai2 _))⟩;exact⟨ajq (Al xs lo hi) hz,_,0,(r.drop (HT.vn xs.length 0 lo)).take (HT.vn xs.length xs.length hi-HT.vn xs.length 0 lo),aje _ rfl⟩
def oR:V->Bool
 | .cW=>true
 | .bl _=>true
 | .int _=>true
 | .str _=>true
 |_=>false
def Ln:V->V->Bool
 | .cW,.cW=>true
 | .bl a,.bl b=>a==b
 | .bl a,.int b=>(if a then 1 else 0)==b
 | .int a,.bl b=>a==(if b then 1 else 0)
 | .int a,.int b=>a==b
 | .str a,.str b=>a==b
 |_,_=>false
theorem RX{x:V}{v:Value}(ry:RelV y u)(rx:RelV x v)(fy:oR y=true)(fx:oR x=true):SeqAt.EqAt A s u v (Ln y x):=by
 cases y with
 |cW=>
  cases ry;cases x with
  |cW=>cases rx;exact SeqAt.EqAt.same _
  |bl b=>cases rx;exact SeqAt.EqAt.none_bool b
  |int b=>obtain⟨t,rfl⟩:=rx;exact SeqAt.EqAt.none_int b t
  |str b=>obtain⟨t,rfl⟩:=rx;exact SeqAt.EqAt.none_str b t
  |_=>exact absurd (show false=true from fx) ajg
 |bl a=>
  cases ry;cases x with
  |cW=>cases rx;exact SeqAt.EqAt.bool_none a
  |bl b=>cases rx;exact SeqAt.EqAt.bool_bool a b
  |int b=>obtain⟨t,rfl⟩:=rx;exact SeqAt.EqAt.bool_int a b t
  |str b=>obtain⟨t,rfl⟩:=rx;exact SeqAt.EqAt.bool_str a b t
  |_=>exact absurd (show false=true from fx) ajg
 |int a=>
  obtain⟨t',rfl⟩:=ry;cases x with
  |cW=>cases rx;exact SeqAt.EqAt.int_none a t'
  |bl b=>cases rx;exact SeqAt.EqAt.int_bool a t' b
  |int b=>obtain⟨t,rfl⟩:=rx;exact amw a t' b t
  |str b=>obtain⟨t,rfl⟩:=rx;exact SeqAt.EqAt.int_str a t' b t
  |_=>exact absurd (show false=true from fx) ajg
 |str a=>
  obtain⟨t',rfl⟩:=ry;cases x with
  |cW=>cases rx;exact SeqAt.EqAt.str_none a t'
  |bl b=>cases rx;exact SeqAt.EqAt.str_bool a t' b
  |int b=>obtain⟨t,rfl⟩:=rx;exact SeqAt.EqAt.str_int a t' b t
  |str b=>obtain⟨t,rfl⟩:=rx;exact SeqAt.EqAt.str_str a t' b t
  |_=>exact absurd (show false=true from fx) ajg
 |_=>exact absurd (show false=true from fy) ajg
def NU(x:V)(u:Value):Bool:=match u with
 | .none=>Ln .cW x
 | .bool b=>Ln (.bl b) x
 | .int i _=>Ln (.int i) x
 | .str z _=>Ln (.str z) x
 |_=>false
theorem K4{x:V}(r:RelV y u)(f:oR y=true):NU x u=Ln y x:=by
 cases y with
 |cW=>cases r;rfl
 |bl b=>cases r;rfl
 |int i=>obtain⟨t,rfl⟩:=r;rfl
 |str z=>obtain⟨t,rfl⟩:=r;rfl
 |_=>exact absurd (show false=true from f) ajg
theorem yX{x:V}:∀{xs:List V} {us:List Value},bI xs us->xs.all oR=true->us.any (NU x)=xs.any fun y=>Ln y x
 |_,_,.nil,_=>rfl
 |y::xs,u::us,.cons r t,f=>by rw[ale,ajn]at f;rw[ak0,ak0,K4 r f.1,yX t f.2]
theorem tW{A:Around}{s:Shared}{x:V}{v:Value}(rx:RelV x v)(fx:oR x=true):∀{xs:List V} {us:List Value},bI xs us->xs.all oR=true->∀u∈us,SeqAt.EqAt A s u v (NU x u)
 |_,_,.nil,_=>fun u hu=>by cases hu
 |y::xs,u::us,.cons r t,f=>fun u' hu=>by
  rw[ale,ajn]at f;rcases aiZ.mp hu with rfl|hu
  .rw[K4 r f.1];exact RX r rx f.1 fx
  .exact tW rx fx t f.2 u' hu
def SO(x:V)(xs:List V):Bool:=xs.any fun y=>Ln y x
def rIn(K:W.Frag)(neg:Bool):R2:=fun x y H Q=>∃p xs,y= .ref p/\(ae K H p xs\/gF K H p xs)/\oR x=true/\xs.all oR=true/\Q (.bl (if neg then !SO x xs else SO x xs)) H
theorem gq:rP X (compareOp .In) (rIn X.K false):=by
 intro pins s σ H x y v u Q I rx ry h;obtain⟨p,xs,rfl,hq,fx,fs,q⟩:=h;cases ry;rcases hq with hq|hq
 .obtain⟨bE,r,pl,hz⟩:=I.list hq;refine SeqAt.in_listAt (NU x) pl.isList (fun w hw=>tW rx fx r fs w (by simpa using hw)) ⟨.bl _,H,I,Z,?_⟩;rw[show bE.toArray.any (NU x)=bE.any (NU x) by simp,yX r fs];exact q
 .obtain⟨bE,r,pl,hz⟩:=I.tuple hq;refine SeqAt.in_tupleAt (NU x) pl (fun w hw=>tW rx fx r fs w (by simpa using hw)) ⟨.bl _,H,I,Z,?_⟩;rw[show bE.toArray.any (NU x)=bE.any (NU x) by simp,yX r fs];exact q
theorem az:mM X (.builtin "len") (fun xs H Q=>∃p ys,xs=[.ref p]/\(ae X.K H p ys\/gF X.K H p ys)/\Q (.int ys.length) H):=by
 intro pins s σ H xs us Q I r h;obtain⟨p,ys,rfl,hq,q⟩:=h;obtain⟨u,rfl,rx⟩:=vals1 r;cases rx;have hn:=CQ;rcases hq with hq|hq
 .obtain⟨bE,r',pl,hz⟩:=I.list hq;have hlen:=r'.length;exact Calls.call_len_list pl.isList (by simp only[ajj]<;>omega) ⟨.int ys.length,H,I.tok _,⟨s.toks+1,by rw[ajj,hlen]⟩,q⟩
 .obtain⟨bE,r',pl,hz⟩:=I.tuple hq;have hlen:=r'.length;exact len_tuple pl (by simp only[ajj]<;>omega) ⟨.int ys.length,H,I.tok _,⟨s.toks+1,by rw[ajj,hlen]⟩,q⟩
theorem yS:mM X (.type "list") (fun xs H Q=>∃p ys,xs=[.ref p]/\(ae X.K H p ys\/gF X.K H p ys)/\∀l,H l=none->Q (.ref l) (upd H l (.lst ys))):=by
 intro pins s σ H xs us Q I r h;obtain⟨p,ys,rfl,hq,q⟩:=h;obtain⟨u,rfl,rx⟩:=vals1 r;cases rx;have fin:∀(bE:List Value),bI ys bE->ys.length<=sizeLine->∀(h':Heap) (c':Nat),(∀b o',s.heap.get? b=some o'->h'.get? b=some o')->h'.get? s.heap.objs.size=some {cls:= .type "list",dict:=none,data:= .seq bE.toArray c',slots:= #[]}->EP X pins σ Q (.ref s.heap.objs.size) {s with heap:=h'}:=fun bE r' hz h' c' kp e=>
  ⟨.ref s.heap.objs.size,_,I.laid (t':=s.toks) kp (ai2 _) (show cj X.prog X.w _ h' _ (.lst ys)from⟨hz,bE,c',r',e⟩),rfl,q _ (I.bK.fresh (ai2 _))⟩
 rcases hq with hq|hq
 .obtain⟨bE,r',pl,hz⟩:=I.list hq;have hlen:=r'.length;obtain⟨o,ho,hc,n,hd⟩:=pl.isList;exact call_list_seq p (.inl rfl) ho hc hd (fun h' c' kp e=>fin bE r' hz h' c' kp e) (by simp only[ajj]<;>omega)
 .obtain⟨bE,r',pl,hz⟩:=I.tuple hq;have hlen:=r'.length;obtain⟨o,ho,hc,n,hd⟩:=pl;exact call_list_seq p (.inr rfl) ho hc hd (fun h' c' kp e=>fin bE r' hz h' c' kp e) (by simp only[ajj]<;>omega)
theorem vN:mM X (.type "tuple") (fun xs H Q=>∃p ys,xs=[.ref p]/\((ae X.K H p ys/\∀l,H l=none->Q (.ref l) (upd H l (.tup ys)))\/(gF X.K H p ys/\Q (.ref p) H))):=by
 intro pins s σ H xs us Q I r h;obtain⟨p,ys,rfl,h⟩:=h;obtain⟨u,rfl,rx⟩:=vals1 r;cases rx;rcases h with⟨hq,q⟩|⟨hq,q⟩
 .obtain⟨bE,r',pl,hz⟩:=I.list hq;have hlen:=r'.length;refine call_tuple_list pl.isList (fun h' kp=>?_) (by simp only[ajj]<;>omega);have I1:aV H {s with heap:=h'}:=I.kept (t':=s.toks) kp;have I2:aV (upd H h'.objs.size (.tup ys)) {s with heap:=h'.push {cls:= .type "tuple",data:= .seq bE.toArray}}:=I1.laid (t':=s.toks) (fun b o e=>aiX _ e) (ai2 _) (show cj X.prog X.w _ _ _ (.tup ys)from⟨hz,bE,r',IsTup.new _ _⟩);exact⟨.ref h'.objs.size,_,I2,Z,q _ (I1.bK.fresh (ai2 _))⟩
 .obtain⟨bE,r',pl,hz⟩:=I.tuple hq;exact call_tuple_same pl ⟨.ref p,H,I,Z,q⟩
def tyV(K:W.Frag)(T:String)(x:V)(H:Hp):Prop:=match x with
 | .str _=>T="str"
 | .int _=>T="int"
 | .ref p=>(T="list"/\∃xs,ae K H p xs)\/(T="tuple"/\∃o,K.lookup p=some o/\o.cls= .type "tuple"/\o.dict=none)\/ (T="dict"/\((∃aP,H p=some (.dK aP))\/∃aP,H p=some (.dT aP)))\/(T="set"/\∃S n,H p=some (.set S n))
 |_=>False
theorem O5{x:V}{v:Value}(I:aV H s)(r:RelV x v)(ty:tyV X.K T x H):s.TypeIs v T/\∀a,v= .ref a->∃ob,s.heap.get? a=some ob/\ob.dict=none:=by
 cases x with
 |str z=>
  obtain⟨t,rfl⟩:=r;cases(show T="str"from ty);exact⟨typeIs_str s z t,nofun⟩
 |int i=>
  obtain⟨t,rfl⟩:=r;cases(show T="int"from ty);exact⟨typeIs_int s i t,nofun⟩
 |ref p=>
  cases r;rcases ty with⟨rfl,xs,hq⟩|⟨rfl,o,hk,hc,hd⟩|⟨rfl,hk⟩|⟨rfl,S,n,hk⟩
  .obtain⟨bE,_,pl,_⟩:=I.list hq;refine⟨pl.isList.typeIs,fun a e=>?_⟩;cases e;obtain⟨o,n,e,c,hd,_⟩:=pl;exact⟨o,e,hd⟩
  .refine⟨⟨o,I.CU p o hk,hc⟩,fun a e=>?_⟩;cases e;exact⟨o,I.CU _ o hk,hd⟩
  .have z:∃o,s.heap.get? p=some o/\o.ExactDict:=by
    rcases hk with⟨aP,hk⟩|⟨aP,hk⟩
    .obtain⟨_,_,_,_,o,_,_,e,ex,_⟩:=I.bK p _ hk;exact⟨o,e,ex⟩
    .obtain⟨_,_,_,_,o,_,_,e,ex,_⟩:=I.bK p _ hk;exact⟨o,e,ex⟩
   obtain⟨o,e,ex⟩:=z;refine⟨⟨o,e,ex.1⟩,fun a e2=>?_⟩;cases e2;exact⟨o,e,ex.2.1⟩
  .obtain⟨o,_,_,_,e,ex,_⟩:=I.bK p _ hk;refine⟨⟨o,e,ex.1⟩,fun a e2=>?_⟩;cases e2;exact⟨o,e,ex.2.1⟩
 |_=>exact False.elim ty
def tBM(K:W.Frag)(T:String)(r:V->List V->Hp->VK->Prop)(to:TE)(t:TA):TE:=fun σ H Q=>to σ H fun x H1=>tyV K T x H1/\t σ H1 fun xs H2=>r x xs H2 Q
variable{o:Expr}{es:List Expr}{t:TA}
theorem fN(pa:PlainAttrs T)(slot:Slot T name id)(hty:typeOf (.builtin id)=pure (.type "method_descriptor"))(hm:MtR X id r)(ho:PE X o to)(ha:PA X (e::es) t) (Kn:attributeBase o name X.env (eval o X.env)=eval o X.env:=by rfl) (Vq:((backTo kG (starEach (e::es) X.env)).all (fun x=> !x.1)&&(backToKw kG (keywordEach [] X.env)).all (fun x=>x.1.isSome) &&decide ((e::es).length+([]:List Keyword).length+(if([]:List Keyword).isEmpty then 0 else 1)<30))=true:=by rfl) (KU:(apos.endLine==kG.line)=true:=by rfl)(hs:starEach (e::es) X.env=(false,eval e X.env)::starEach es X.env:=by rfl)(Cf:(backTo kG (starEach es X.env)).any (·.1)=false:=by rfl):PE X (.Call (.Attribute o name apos) (e::es) [] kG) (tBM X.K T r to t):=by intro pins s σ H Q I h;refine wpAny_Call_method_late Kn Vq KU rfl (cQ (ho pins s σ H _ I h) fun v s1 ⟨x,H1,I1,r1,ty,q1⟩=>?_);obtain⟨h1,h2⟩:=O5 I1 r1 ty;refine⟨T,id,pa,slot,hty,h1,h2,?_⟩;have hA:=ha kG pins s1 σ H1 _ I1 q1;rw[hs]at hA⊢;refine Calls.callWith_builtin (by show(false||(backTo kG (starEach es X.env)).any (·.1))=false;rw[Cf]<;>rfl) (Calls.evalArgs_plain ?_);exact cQ hA fun us s2 ⟨vs,H2,I2,r2,q2⟩=>hm pins s2 σ H2 x vs v us Q I2 r1 r2 q2
end
def MtM(X:Cx)(id:String)(r:V->List V->Hp->VK->Prop):Prop:=∀(pins:List (Addr×Obj)) (s:Shared) (σ:St) (H:Hp) (x:V) (xs:List V) (v:Value) (us:List Value) (Q:VK),aV H s->RelV x v->bI xs us->r x xs H Q->gy (call (.builtin id) (v::us)) (EP X pins σ Q) X.xe s
theorem bI.one:∀{x:V} {us:List Value},bI [x] us->∃u,us=[u]/\RelV x u
 |_,_,.cons r .nil=>⟨_,rfl,r⟩
theorem Inv.QO{its':List Value}{f:Array Value->Array Value}(I:aV H s)(hH:H l=some (.lst xs)) (e:s.heap.get? l=some {cls:= .type "list",data:= .seq bE.toArray n})(hf:f bE.toArray=its'.toArray)(hv:bI ys its')(hz:ys.length<=sizeLine):aV (upd H l (.lst ys)) {s with heap:=s.heap.update l (Obj.mapSeq f),toks:=t'}:=by have q:=PySem.IsL.update e f;rw[hf]at q;refine I.write (x:=l) (e:=l) (by rw[hH];exact trivial) (.inl rfl) (fun b' u hb hu=>(al8 s.heap (Obj.mapSeq f) (ajC hb)).trans hu) ⟨_,q⟩ ?_;exact⟨hz,its',_,hv,q⟩
theorem Inv.ZP(I:aV H s)(hv:bI ys bE)(hz:ys.length<=sizeLine):aV (upd H s.heap.objs.size (.lst ys)) {s with heap:=s.heap.push {cls:= .type "list",data:= .seq bE.toArray},toks:=t'}:=I.laid (fun _ _ q=>aiX _ q) (ai2 _) ⟨hz,bE,0,hv,aje _ rfl⟩
theorem Inv.fresh(I:aV H s):H s.heap.objs.size=none:=I.bK.fresh (ai2 _)
theorem Inv.Fy(I:aV H s)(hH:H l=some (.lst xs)):xs.length<=sizeLine/\∃(bE:List Value) (n:Nat),bI xs bE/\xs.length=bE.length/\s.heap.get? l=some {cls:= .type "list",data:= .seq bE.toArray n}:=by obtain⟨z,bE,n,r,e⟩:=I.bK l _ hH;exact⟨z,bE,n,r,r.length,e⟩
theorem zb(h:n<=sizeLine):Builtin.List.listTooLong n=false:=by unfold Builtin.List.listTooLong;exact ajl (by omega)
def MD:V->List V->Hp->VK->Prop:=fun x vs H Q=>∃l xs y,x= .ref l/\vs=[y]/\H l=some (.lst xs)/\xs.length<sizeLine/\Q .cW (upd H l (.lst (xs++[y])))
theorem cN:MtM X "list.append" MD:=by intro pins s σ H x vs v us Q I rx rv h;obtain⟨l,xs,y,rfl,rfl,hH,hz,q⟩:=h;cases rx;obtain⟨u,rfl,ru⟩:=rv.one;obtain⟨z,bE,n,r,hl,e⟩:=I.Fy hH;refine call_meets F.slot_list_append ⟨_,e,Z⟩ F.entry_list_append (F.args_list_append_2 _ _) (PySem.list_append l bE.toArray n u (by rw[ajj];omega)) ⟨e,?_⟩;refine⟨.cW,_,I.QO (its':=bE++[u]) hH e (by simp) (r.append (.cons ru .nil)) ?_,Z,q⟩;rw[aiT,List.length_singleton];omega
def MC:V->List V->Hp->VK->Prop:=fun x vs H Q=>∃l b xs zs,x= .ref l/\vs=[.ref b]/\H l=some (.lst xs)/\H b=some (.lst zs)/\xs.length+zs.length<=sizeLine/\Q .cW (upd H l (.lst (xs++zs)))
theorem gv:MtM X "list.extend" MC:=by intro pins s σ H x vs v us Q I rx rv h;obtain⟨l,b,xs,zs,rfl,rfl,hH,hB,hz,q⟩:=h;cases rx;obtain⟨u,rfl,ru⟩:=rv.one;cases ru;obtain⟨z,bE,n,r,hl,e⟩:=I.Fy hH;obtain⟨z2,jy,n2,r2,ky,e2⟩:=I.Fy hB;have hsz:bE.toArray.size+jy.toArray.size<=sizeLine:=(by rw[ajj,ajj];omega);have KR:¬(!bE.toArray.isEmpty&&Builtin.List.listTooLong (bE.toArray.size+jy.toArray.size))=true:=(by rw[zb hsz,akp];exact ajg);refine call_meets F.slot_list_extend ⟨_,e,Z⟩ F.entry_list_extend (F.args_list_extend_2 _ _) (AutoSeq1.list_extend_list_list_0 l bE.toArray n b jy.toArray n2 KR (by rw[ajj];omega) (by omega)) ⟨e,e2,?_⟩;refine⟨.cW,_,I.QO (its':=bE++jy) hH e (by simp) (r.append r2) ?_,Z,q⟩;rw[aiT];omega
def T6:R2:=fun x y H Q=>∃l b xs zs,x= .ref l/\y= .ref b/\H l=some (.lst xs)/\H b=some (.lst zs)/\xs.length+zs.length<=sizeLine/\∀p,H p=none->Q (.ref p) (upd H p (.lst (xs++zs)))
theorem gB:rP X (binaryOp .Add) T6:=by intro pins s σ H x y v u Q I rx ry h;obtain⟨l,b,xs,zs,rfl,rfl,hH,hB,hz,q⟩:=h;cases rx;cases ry;obtain⟨z,bE,n,r,hl,e⟩:=I.Fy hH;obtain⟨z2,jy,n2,r2,ky,e2⟩:=I.Fy hB;refine PySem.P.add_list e e2 ?_ (by rw[ajj,ajj];omega);have ea:bE.toArray++jy.toArray=(bE++jy).toArray:=(by simp);rw[ea];exact⟨.ref _,_,I.ZP (t':=s.toks) (r.append r2) (by rw[aiT];omega),Z,q _ I.fresh⟩
theorem bI.ints:∀{ns:List Int} {us:List Value},bI (ns.map V.int) us->IntsAre us ns
 | [],us,h=>by rw[al5]at h;cases h;exact IntsAre.nil
 |n::ns,us,h=>by
  rw[aji]at h;cases h with
  |cons r t=>
   obtain⟨k,rfl⟩:=r;exact IntsAre.cons n k (bI.ints t)
theorem nM:∀{us:List Value} {ns:List Int},IntsAre us ns->bI (ns.map V.int) us
 |_,_,.nil=>by rw[al5];exact Paired.nil
 |_,_,.cons n t h=>by rw[aji];exact Paired.cons (show RelV (V.int n) (Value.int n t)from⟨t,Z⟩) (nM h)
abbrev LX(h:Heap)(c:Addr)(v:Option Value):Prop:=h.IsCell c v
def Yv(scope sc:Scope):Scope:={scope with names:=scope.names.map fun(n,k)=>if(k== .free&&sc.kind== .function&&sc.names.lookup n==some .cell)then(n,.cell)else(n,k)}
def bj(cells:List (Str×Addr)):List (Str×NameKind)->List (Str×Addr)->List (Str×Addr)
 | [],acc=>acc
 |(n,k)::r,acc=>if k== .free then bj cells r ((n,(cells.lookup n).getD 0)::acc)else bj cells r acc
theorem oa(env:Env)(f:Str×NameKind->List (Str×Addr)->Sem (ForInStep (List (Str×Addr)))) (hf:∀n k c,f (n,k) c=if k== .free then(do let a<-cellOf env n;pure (.yield ((n,a)::c)))else pure (.yield c)):
  ∀(names:List (Str×NameKind)) (acc:List (Str×Addr)),(∀y∈names,y.2= .free->∃c,env.cells.lookup y.1=some c)->forIn names acc f=pure (bj env.cells names acc)
 | [],acc,_=>by rw[am2];rfl
 |(n,k)::r,acc,h=>by
  rw[List.forIn_cons,hf];have ih:=fun acc=>oa env f hf r acc fun y hy=>h y (aiS _ hy);unfold bj;by_cases hk:(k==NameKind.free)=true
  .rw[ai5 hk,ai5 hk];obtain⟨c,hc⟩:=h (n,k) aiV (by simpa using hk);have e:cellOf env n=pure c:=(by unfold cellOf;rw[hc]);rw[e];have e2:(env.cells.lookup n).getD 0=c:=(by rw[hc];rfl);rw[e2];exact ih _
  .rw[ai0 hk,ai0 hk];exact ih _
theorem C8(h:∀y∈scope.names,y.2= .free->∃c,env.cells.lookup y.1=some c):closureFor scope env=pure (bj env.cells scope.names []):=by simp only[closureFor];rw[oa env _ (fun n k c=>rfl) scope.names [] h];rfl
theorem mem_lookup{α:Type}:∀{l:List (Str×α)} {n:Str} {c:α},(n,c)∈l->∃c',l.lookup n=some c'
 |(k,v)::r,n,c,h=>by
  rw[ajz];cases hb:n==k with
  |true=>exact⟨_,rfl⟩
  |false=>
   rcases aiZ.mp h with e|h
   .cases e;simp at hb
   .exact mem_lookup h
theorem iV{cells:List (Str×Addr)}:∀{names:List (Str×NameKind)} {acc:List (Str×Addr)} {n:Str} {c:Addr},(n,c)∈bj cells names acc->(n,c)∈acc\/((n,.free)∈names/\c=(cells.lookup n).getD 0)
 | [],_,_,_,h=> .inl h
 |(m,k)::r,acc,n,c,h=>by
  unfold bj at h;split at h
  .rename_i hk;have hk:k= .free:=(by simpa using hk);rcases iV h with h|⟨h1,h2⟩
   .rcases aiZ.mp h with e|h
    .cases e;exact .inr ⟨hk▸aiV,Z⟩
    .exact .inl h
   .exact .inr ⟨aiS _ h1,h2⟩
  .rcases iV h with h|⟨h1,h2⟩
   .exact .inl h
   .exact .inr ⟨aiS _ h1,h2⟩
theorem lI{cells:List (Str×Addr)}:∀{names:List (Str×NameKind)} {acc:List (Str×Addr)} {p:Str×Addr},p∈acc->p∈bj cells names acc
 | [],_,_,h=>h
 |(m,k)::r,acc,p,h=>by
  unfold bj;split
  .exact lI (aiS _ h)
  .exact lI h
theorem lH{cells:List (Str×Addr)}:∀{names:List (Str×NameKind)} {acc:List (Str×Addr)} {n:Str},(n,.free)∈names->(n,(cells.lookup n).getD 0)∈bj cells names acc
 |(m,k)::r,acc,n,h=>by
  unfold bj;rcases aiZ.mp h with e|h
  .cases e;exact lI aiV
  .split
   .exact lH h
   .exact lH h
theorem jD:∀{names:List (Str×NameKind)} {h:Heap} {acc:List (Str×Addr)} {x:Str} {c:Addr},(x,c)∈cellsFrom h.objs.size names acc->(x,c)∈acc\/((x,.cell)∈names/\h.objs.size<=c/\LX (pushCells h names) c none)
 | [],_,_,_,_,h=> .inl h
 |(n,k)::r,h,acc,x,c,hm=>by
  unfold cellsFrom at hm;unfold pushCells;split at hm
  .rename_i hk;rw[ai5 hk];have hk:k= .cell:=(by simpa using hk);rw[<-ajO h {cls:= .type "cell",data:= .cell none}]at hm;rcases jD hm with hm|⟨h1,h2,h3⟩
   .rcases aiZ.mp hm with e|hm
    .cases e;exact .inr ⟨hk▸aiV,ai2 _,_,ama r _ _ _ (aje _ rfl),Z⟩
    .exact .inl hm
   .rw[ajO]at h2;exact .inr ⟨aiS _ h1,alW h2,h3⟩
  .rename_i hk;rw[ai0 hk];rcases jD hm with hm|⟨h1,h2,h3⟩
   .exact .inl hm
   .exact .inr ⟨aiS _ h1,h2,h3⟩
theorem lh:∀{names:List (Str×NameKind)} {n:Nat} {acc:List (Str×Addr)} {p:Str×Addr},p∈acc->p∈cellsFrom n names acc
 | [],_,_,_,h=>h
 |(m,k)::r,n,acc,p,h=>by
  unfold cellsFrom;split
  .exact lh (aiS _ h)
  .exact lh h
theorem qE:∀{names:List (Str×NameKind)} {n:Nat} {acc:List (Str×Addr)} {x:Str},(x,.cell)∈names->∃c,(x,c)∈cellsFrom n names acc
 |(m,k)::r,n,acc,x,h=>by
  unfold cellsFrom;rcases aiZ.mp h with e|h
  .cases e;exact⟨n,lh aiV⟩
  .split
   .exact qE h
   .exact qE h
theorem qD:∀{names:List (Str×NameKind)} {h:Heap} {acc:List (Str×Addr)} {x y:Str} {c:Addr},(∀p∈acc,p.2<h.objs.size)->(∀x y c,(x,c)∈acc->(y,c)∈acc->x=y)->(x,c)∈cellsFrom h.objs.size names acc->(y,c)∈cellsFrom h.objs.size names acc->x=y
 | [],_,_,_,_,_,_,hi,h1,h2=>hi _ _ _ h1 h2
 |(n,k)::r,h,acc,x,y,c,hl,hi,h1,h2=>by
  unfold cellsFrom at h1 h2;split at h1
  .rename_i hk;rw[ai5 hk]at h2;rw[<-ajO h {cls:= .type "cell",data:= .cell none}]at h1 h2;refine qD (h:=h.push _) (fun p hp=>?_) (fun x y c a b=>?_) h1 h2
   .rw[ajO];rcases aiZ.mp hp with rfl|hp
    .exact akI _
    .exact akT (hl p hp)
   .rcases aiZ.mp a with e|a<;>rcases aiZ.mp b with e'|b
    .cases e;cases e';rfl
    .cases e;exact absurd (hl _ b) (aj5 _)
    .cases e';exact absurd (hl _ a) (aj5 _)
    .exact hi _ _ _ a b
  .rename_i hk;rw[ai0 hk]at h2;exact qD hl hi h1 h2
theorem ze{globals:Addr}{closure:List (Str×Addr)}{qual:Str}{func:Option Addr}{code:Value}{around:Env}{builtins:Addr}{Q:Env->Shared->Prop} (h:Q (newEnv scope s.heap.objs.size globals (cellsFrom (s.heap.objs.size+1) scope.names closure) qual func code (some around) builtins) {s with heap:=pushCells (s.heap.push {cls:= .type "dict",data:= .dict #[]}) scope.names}):wpAny M A (newFunctionEnv scope globals closure [] qual func code (some around) builtins) Q E s:=by simp only[newFunctionEnv,Option.isSome_some,al2];refine aiR (wpAny_alloc ?_);refine aiR (wpAny_layCells _ (fun n k c=>rfl) scope.names closure _ _ ?_);rw[show({s with heap:=s.heap.push {cls:= .type "dict",data:= .dict #[]}}:Shared).heap.objs.size=s.heap.objs.size+1 from ajO ..];rw[am2];exact aiR (ai4 (ai4 h))
theorem ko{sc:Scope}:∀{names:List (Str×NameKind)} {x:Str} {k:NameKind},(names.map fun(n,k)=>if(k==NameKind.free&&sc.kind== .function&&sc.names.lookup n==some .cell)then(n,NameKind.cell)else(n,k)).lookup x=some k->∃k',names.lookup x=some k'/\(k=k'\/(k'= .free/\k= .cell))
 | [],_,_,h=>by simp at h
 |(n,k₀)::r,x,k,h=>by
  have ih:= @ko sc r x k;have h':List.lookup x ((if(k₀==NameKind.free&&sc.kind== .function&&sc.names.lookup n==some .cell)=true then(n,NameKind.cell)else(n,k₀))::(r.map _))=some k:=h;cases hx:x==n with
  |true=>
   simp only[ajz,hx];by_cases hc:(k₀==NameKind.free&&sc.kind== .function&&sc.names.lookup n==some .cell)=true
   .rw[ai5 hc]at h';simp only[ajz,hx]at h';cases h';simp only[ajn,akY]at hc;exact⟨k₀,Z,.inr ⟨hc.1.1,Z⟩⟩
   .rw[ai0 hc]at h';simp only[ajz,hx]at h';cases h';exact⟨_,Z,.inl rfl⟩
  |false=>
   simp only[ajz,hx];by_cases hc:(k₀==NameKind.free&&sc.kind== .function&&sc.names.lookup n==some .cell)=true
   .rw[ai5 hc]at h';simp only[ajz,hx]at h';exact ih h'
   .rw[ai0 hc]at h';simp only[ajz,hx]at h';exact ih h'
structure BB(N:List Str)(sc scope:Scope)(own:List (Str×Nat)):Prop where
 kind:scope.kind= .function
 uniq:∀y∈scope.names,scope.names.lookup y.1=some y.2
 ix:∀p∈own,N[p.2]?=some p.1
 free:∀y∈scope.names,y.2= .free->sc.names.lookup y.1=some .cell\/sc.names.lookup y.1=some .free
 own:∀y∈scope.names,y.2= .local\/y.2= .cell->y.1∈own.map (·.1)\/y.1∉N
def wipe(σ:St):List Nat->St
 | []=>σ
 |v::vs=>(wipe σ vs).set v none
theorem kK(σ:St):∀vs:List Nat,(wipe σ vs).length=σ.length
 | []=>rfl
 |v::vs=>by unfold wipe;rw[List.length_set,kK σ vs]
theorem pC{σ:St}{i:Nat}{x:V}:∀{vs:List Nat},(wipe σ vs)[i]?=some (some x)->σ[i]?=some (some x)/\i∉vs
 | [],h=>⟨h,by simp⟩
 |v::vs,h=>by
  unfold wipe at h;by_cases hi:v=i
  .subst hi;by_cases hv:v<(wipe σ vs).length
   .rw[al6 hv]at h;cases h
   .rw[alK (by simpa using hv)]at h;cases h
  .rw[aml hi]at h;obtain⟨h1,h2⟩:=pC h;exact⟨h1,by simp only[aiZ,not_or];exact⟨fun e=>hi e.symm,h2⟩⟩
abbrev Cx.yW(X:Cx)(s:Shared)(H:Hp)(scope:Scope)(fW:Env)(fp:List Addr):Cx:={X with qm:=s,Gx:=H,env:=fW,outer:=X.stack,ex:=fp,fn:=fun x=>scope.names.lookup x==some .cell,pn:=[],xe:=fun _ _=>False}
theorem Aw{fp:List Addr}(I:aV H s)(ok:BB X.N X.env.scope scope own)(hN:X.N.Nodup)(HF:∀b∈fp,rQ X pins H b/\b<s.heap.objs.size):Inv (X.yW s H scope (compEnvC scope (cellsFrom (s.heap.objs.size+1) scope.names (bj X.env.cells scope.names [])) s.heap.objs.size X.env) fp) [] (wipe σ (own.map (·.2))) H {s with heap:=pushCells (s.heap.push {cls:= .type "dict",data:= .dict #[]}) scope.names}:=by
 have wW:∀y∈scope.names,y.2= .free->∃c,X.env.cells.lookup y.1=some c:=fun y hy e=>by
  rcases ok.free y hy e with k|k
  .exact I.ok.has _ (.inl k)
  .exact I.ok.has _ (.inr k)
 generalize AN:compEnvC scope (cellsFrom (s.heap.objs.size+1) scope.names (bj X.env.cells scope.names [])) s.heap.objs.size X.env=fW;have kp:∀b o,s.heap.get? b=some o->(pushCells (s.heap.push {cls:= .type "dict",data:= .dict #[]}) scope.names).get? b=some o:=fun b o e=>ama _ _ _ _ (aiX _ e);have hL:fW.locals=s.heap.objs.size:=(by rw[<-AN];rfl);have ib:fW.cells=cellsFrom (s.heap.objs.size+1) scope.names (bj X.env.cells scope.names []):=(by rw[<-AN];rfl);have Qb:fW.scope=Yv scope X.env.scope:=(by rw[<-AN];rfl);rw[<-ajO s.heap {cls:= .type "dict",data:= .dict #[]}]at ib;have cm:∀{y c},(y,c)∈bj X.env.cells scope.names []->X.env.cells.lookup y=some c/\c<s.heap.objs.size:=fun{y c} hm=>by
  rcases iV hm with hm|⟨h1,rfl⟩
  .cases hm
  .obtain⟨c,hc⟩:=wW _ h1 rfl;rw[hc];obtain⟨w,z⟩:=I.cell _ _ hc;exact⟨Z,z.lt⟩
 have mem:∀{y c},fW.cells.lookup y=some c->(X.env.cells.lookup y=some c/\c<s.heap.objs.size)\/(s.heap.objs.size+1<=c/\LX (pushCells (s.heap.push {cls:= .type "dict",data:= .dict #[]}) scope.names) c none):=fun{y c} e=>by
  rw[ib]at e;rcases jD (ajJ e)with hm|⟨_,h2,h3⟩
  .exact .inl (cm hm)
  .rw[ajO]at h2;exact .inr ⟨h2,h3⟩
 have look:∀{y},scope.names.lookup y=some .free->∃c,fW.cells.lookup y=some c/\X.env.cells.lookup y=some c:=fun{y} hl=>by
  have hy:(y,NameKind.free)∈scope.names:=ajJ hl;obtain⟨c',e'⟩:=mem_lookup (lh (names:=scope.names) (n:=(s.heap.push {cls:= .type "dict",data:= .dict #[]}).objs.size) (lH (cells:=X.env.cells) (acc:=[]) hy));rw[<-ib]at e';refine⟨c',e',?_⟩;rw[ib]at e';rcases jD (ajJ e')with hm|⟨h1,_,_⟩
  .exact(cm hm).1
  .have:=ok.uniq _ h1;rw[hl]at this;cases this
 have okB:(X.yW s H scope fW fp).Ok:=by
  refine⟨I.ok.mod,by show fW.scope.kind=_;rw[Qb];exact ok.kind,by show fW.globals=_;rw[<-AN];exact I.ok.glob,by show fW.builtins=_;rw[<-AN];exact I.ok.blt,by show s.heap.objs.size<=fW.locals;rw[hL];exact ai2 _,fun y z c e1 e2=>?_,fun y hy=>?_,fun y c z e=>?_,I.ok.hd,I.ok.frames,.inl rfl,fun b hb=>⟨?_,fun y c e z=>?_⟩,I.bs,ajq I.ok.HL I.sz,fun b o e hb=>?_,fun b hb z=>?_,I.stack,I.DQ⟩
  .have e1:fW.cells.lookup y=some c:=e1;have e2:fW.cells.lookup z=some c:=e2;rw[ib]at e1 e2;refine qD (fun p hp=>?_) (fun y z c a b=>I.ok.inj y z c (cm a).1 (cm b).1) (ajJ e1) (ajJ e2);rw[ajO];exact akT (cm (y:=p.1) (c:=p.2) hp).2
  .show∃c,fW.cells.lookup y=some c;have key:∀k,fW.kindOf y=some k->(k= .cell\/k= .free)->∃c,fW.cells.lookup y=some c:=fun k hk Lk=>by
    unfold Env.kindOf at hk;rw[Qb]at hk;obtain⟨k',e,r⟩:=ko hk;have:k'= .cell\/k'= .free:=by
     rcases r with rfl|⟨rfl,_⟩
     .exact Lk
     .exact .inr rfl
    rcases this with rfl|rfl
    .obtain⟨c,hm⟩:=qE (n:=(s.heap.push {cls:= .type "dict",data:= .dict #[]}).objs.size) (acc:=bj X.env.cells scope.names []) (ajJ e);obtain⟨c',e'⟩:=mem_lookup hm;exact⟨c',by rw[ib];exact e'⟩
    .obtain⟨c,h1,_⟩:=look e;exact⟨c,h1⟩
   rcases hy with hy|hy
   .exact key _ hy (.inl rfl)
   .exact key _ hy (.inr rfl)
  .have z:(scope.names.lookup y==some NameKind.cell)=true:=z;have z:scope.names.lookup y=some .cell:=(by simpa using z);have e:fW.cells.lookup y=some c:=e;rw[ib]at e;rcases jD (ajJ e)with hm|⟨_,h2,_⟩
   .rcases iV hm with hm|⟨h1,_⟩
    .cases hm
    .have q:=ok.uniq _ h1;rw[z]at q;cases q
   .rw[ajO]at h2;exact alW h2
  .show b≠fW.locals;rw[hL];exact ajB (HF b hb).2
  .have e:fW.cells.lookup y=some c:=e;rcases mem e with⟨h1,_⟩|⟨h1,_⟩
   .exact(HF b hb).1.2.2.2.2.1 y c h1 z
   .have h2:s.heap.objs.size+1<=b:=(by rw[<-z];exact h1);exact absurd (ajx (HF b hb).2 (alW h2)) (aj5 _)
  .rcases(HF b hb).1.2.2.2.1 with z|z
   .exact I.ok.Ju b o e z
   .exact absurd (ajx (ajf e) (ajq I.ok.HL z)) (aj5 _)
  .rcases aiZ.mp (I.sS b z)with z|z
   .exact(HF b hb).1.2.1 z
   .exact(HF b hb).1.2.2.1 z
 refine⟨okB,Z,I.bare,Un.kept kp,⟨fun _=>none,?_,fun i y av e1 e2 e3=>?_⟩,fun y c e=>?_,?_,fun y c e=>?_,fun p hp=>?_,I.bK.kept kp,by rw[kK];exact I.len⟩
 .show Heap.Ns _ fW.locals _;rw[hL];exact Heap.Ns.keeps (Heap.Ns.new ..) fun b o e=>ama _ _ _ _ e
 .obtain⟨e2,jZ⟩:=pC e2;have uB:scope.names.lookup y=some .free/\(fW.kindOf y=some .cell\/fW.kindOf y=some .free):=by
   have key:∀k,fW.scope.names.lookup y=some k->k= .local\/k= .cell\/k= .free->scope.names.lookup y=some .free/\(fW.kindOf y=some .cell\/fW.kindOf y=some .free):=fun k hk Lk=>by
    have Ke:=hk;rw[Qb]at hk;obtain⟨k',e,r⟩:=ko hk;have no:¬(k'= .local\/k'= .cell):=fun hh=>by
     rcases ok.own _ (ajJ e) hh with e'|e'
     .obtain⟨p,hp,hpy⟩:=ai7.mp e';have e3:=ok.ix p hp;have:p.1=y:=hpy;rw[this]at e3;exact jZ (ai7.mpr ⟨p,hp,tL hN e3 e1⟩)
     .exact e' (ai1 e1)
    rcases r with rfl|⟨rfl,rfl⟩
    .rcases Lk with rfl|rfl|rfl
     .exact absurd (.inl rfl) no
     .exact absurd (.inr rfl) no
     .exact⟨e,.inr Ke⟩
    .exact⟨e,.inl Ke⟩
   have e3:Rt fW.scope y:=e3;rcases e3 with e3|e3|e3
   .exact key _ e3 (.inl rfl)
   .exact key _ e3 (.inr (.inl rfl))
   .exact key _ e3 (.inr (.inr rfl))
  obtain⟨m,hn,hl⟩:=I.loc;have Zi:Rt X.env.scope y:=(ok.free _ (ajJ uB.1) rfl).elim (fun k=> .inr (.inl k)) (fun k=> .inr (.inr k));obtain⟨w,r,q⟩:=hl i y av e1 e2 Zi;refine⟨w,r,.inr ⟨uB.2,?_⟩⟩;obtain⟨c,h1,h2⟩:=look uB.1;rcases q with⟨k,_⟩|⟨_,c',e',z⟩
  .have k:X.env.scope.names.lookup y=some .local:=k;rcases ok.free _ (ajJ uB.1) rfl with k'|k'<;>rw[show X.env.scope.names.lookup y=_ from k']at k<;>cases k
  .rw[h2]at e';cases e';exact⟨c,h1,z.keeps kp⟩
 .have e:fW.cells.lookup y=some c:=e;rcases mem e with⟨h1,_⟩|⟨_,z⟩
  .obtain⟨w,z⟩:=I.cell y c h1;exact⟨w,z.keeps kp⟩
  .exact⟨_,z⟩
 .show H fW.locals=none;rw[hL];exact I.bK.fresh (ai2 _)
 .have e:fW.cells.lookup y=some c:=e;rcases mem e with⟨h1,_⟩|⟨h1,_⟩
  .exact I.iH y c h1
  .exact I.bK.fresh (alW h1)
 .exact absurd (show p∈([]:List (Addr×Obj))++[]from hp) (by simp)
theorem Rr{v:Value}(I:aV H s)(hD:H D=some (.lst xs))(hz:xs.length<sizeLine)(r:RelV y v) (h:∀s',aV (upd H D (.lst (xs++[y]))) s'->Q .none s'):gy (call (.builtin "list.append") [.ref D,v]) Q E s:=by obtain⟨qx,bE,n,ri,e⟩:=I.bK D _ hD;have hl:=ri.length;refine append_at (hsz:=by rw[ajj];omega) e fun h' sb yj=>?_;refine h {s with heap:=h'} (I.write (t':=s.toks) (by rw[hD];trivial) (.inl rfl) (fun b u hb q=>(sb.2 b hb).trans q) ⟨_,yj⟩ ⟨by rw[aiT];exact hz,bE++[v],n+1,ri.append (.cons r .nil),?_⟩);rw[yj];simp
def Wc(X:Cx)(ifs:List Expr)(t:TT):Prop:=∀(pins:List (Addr×Obj)) (s:Shared) (σ:St) (H:Hp) (Q:Bool->Hp->Prop),aV H s->t σ H Q->gy (forIn ifs true fun c r=>if r=true then do let ok<-isTrue c X.env (eval c X.env);pure (ForInStep.yield ok)else pure (ForInStep.yield r)) (TP X pins σ Q) X.xe s
def nQ:TT:=fun _ H Q=>Q true H
theorem eZ:Wc X [] nQ:=fun _ _ _ H _ I h=>wpAny_tests_nil ⟨H,I,h⟩
theorem gI{t:TT}(h:PT X c t):Wc X [c] t:=fun pins s σ H Q I hw=>wpAny_tests_one (h pins s σ H Q I hw)
theorem FK{t:Sem α}{Q Q':α->Shared->Prop}(h:wpAny M A t Q (fun _ _=>False) s)(hQ:∀a s,Q a s->Q' a s):wpAny M A t Q' E s:=ake h hQ fun _ _ z=>False.elim z
theorem yQ{R:Result->Shared->Prop}{target:Expr}{pos:Pos}{it acc:Value}(I:Nat->Shared->Prop) (turn:∀n s,I n s->wpAny (model prog w) A (pyNext it) (fun r s₁=>match r with
   |none=>R (.ok .next) s₁
   |some v=>wpAny (model prog w) A (letOwnedTupleGo target it v) (fun _ s₁'=>wpAny (model prog w) A (assign target env v) (fun _ s₂=>
     wpAny (model prog w) A (forIn ifs true fun c r=>if r=true then do let ok<-isTrue c env (eval c env);pure (ForInStep.yield ok)else pure (ForInStep.yield r)) (fun ok s₃=>
      if ok=true then wpAny (model prog w) A (eval elt env) (fun x s₄=>
       wpAny (model prog w) A (call (.builtin "list.append") [acc,x]) (fun _ s₅=>∃m,m<n/\I m s₅) (notedBy (model prog w) A env fun e s'=>R (.error e) s') s₄) (notedBy (model prog w) A env fun e s'=>R (.error e) s') s₃
      else∃m,m<n/\I m s₃) (notedBy (model prog w) A env fun e s'=>R (.error e) s') s₂) (notedBy (model prog w) A env fun e s'=>R (.error e) s') s₁') (notedBy (model prog w) A env fun e s'=>R (.error e) s') s₁) (notedBy (model prog w) A env fun e s'=>R (.error e) s') s)
  (n:Nat)(h:I n s):
  codeAny (model prog w) A (.compLoop (.ListComp elt [⟨target,iter,ifs,0⟩] scope pos) 0 it acc env) R s:=by
 refine codeAny_loop rfl I (fun n s hI=>?_) n h;show wpAny _ A ((compTurn (.ListComp elt [⟨target,iter,ifs,0⟩] scope pos) 0 it acc env).onRaise (fun x=>do noteFrame x env;theTreesLotGoes x)) _ _ s;refine wpAny_noted ?_;rw[compTurn_list];refine aiR (alX (aiR (ake (turn n s hI) (fun r s₁ h₁=>?_) fun _ _ h'=>h')));cases r with
 |none=>exact ai4 h₁
 |some v=>
  refine aiR (ake h₁ (fun _ s₁' h₁'=>?_) fun _ _ h'=>h');refine aiR (ake h₁' (fun _ s₂ h₂=>aiR (ake h₂ (fun ok s₃ h₃=>?_) fun _ _ h'=>h')) fun _ _ h'=>h');cases ok with
  |false=>exact ai4 ⟨rfl,h₃⟩
  |true=>
   exact aiR (aiR (ake h₃ (fun x s₄ h₄=>aiR (ake h₄ (fun _ s₅ h₅=>ai4 (ai4 ⟨Z,h₅⟩)) fun _ _ h'=>h')) fun _ _ h'=>h'))
def Wn(wi:TI)(g:TG)(tt:TT)(te:TE)(vs:List Nat):TE:=fun σ H Q=>wi σ H fun J H1=>∀D,H1 D=none->∃W:Nat->Nat->Hp->Prop,(∃m,W 0 m (upd H1 D (.lst [])))/\∀i m H,W i m H->(J.stop i H/\Q (.ref D) H)\/(J.go i H/\∃Nx:Hp->Prop,(∀H',Nx H'->∃m',m'<m/\W (i+1) m' H')/\∀x H',J.HV i H x H'->g x (wipe σ vs) H' fun σ2 H2=>wipe σ2 vs=wipe σ vs/\tt σ2 H2 fun b H3=>
  if b=true then te σ2 H3 fun y H4=>∃acc,H4 D=some (.lst acc)/\acc.length<sizeLine/\Nx (upd H4 D (.lst (acc++[y])))else Nx H3)
theorem EM{Q:VK}{pos:Pos}{use:Option (Value->Sem Unit)}{Qf:Value->Shared->Prop} (hc:X.calm=true)(hN:X.N.Nodup)(I:aV H s)(hi:PI X tg iter wi)(ok:BB X.N X.env.scope scope own) (hg:∀(s:Shared) (H:Hp) (C:Addr) (cl:List (Str×Addr)) (fp:List Addr),PG (X.yW s H scope (compEnvC scope cl C X.env) fp) tg g)(ht:∀(s:Shared) (H:Hp) (C:Addr) (cl:List (Str×Addr)) (fp:List Addr),Wc (X.yW s H scope (compEnvC scope cl C X.env) fp) ifs tt) (he:∀(s:Shared) (H:Hp) (C:Addr) (cl:List (Str×Addr)) (fp:List Addr),PE (X.yW s H scope (compEnvC scope cl C X.env) fp) elt te)(hs:∀x,foldedSetIterable iter X.env x=pure x) (h:Wn wi g tt te (own.map (·.2)) σ H Q) (hRR:∀D C s' m H',aV H' s'->Q (.ref D) H'->s'.heap.Ns C m->rQ X pins H' C->compPost (model X.prog X.w) X.A X.xe use Qf (.ref D) C (.ok .next) s'):gy (comprehension (.ListComp elt [⟨tg,iter,ifs,0⟩] scope pos) scope X.env pos' (newList []) false (eval iter X.env) use) Qf X.xe s:=by
 have wW:∀y∈scope.names,y.2= .free->∃c,X.env.cells.lookup y.1=some c:=fun y hy e=>by
  rcases ok.free y hy e with k|k
  .exact I.ok.has _ (.inl k)
  .exact I.ok.has _ (.inr k)
 refine wpAny_comprehension_free (use:=use) rfl hs (C8 wW) ok.kind (fun y hy e=>by rw[ok.uniq y hy,e]) (cQ (hi pins s σ H _ I h) fun xv s1 hx=>cQ hx fun ZZ s2 h2=>?_);obtain⟨it,fp,tn,J,H2,e,I2,T,PK,f2,q⟩:=h2;subst e;refine akf (ze ?_) (by show 0<=sizeLine;decide);generalize hD:s2.heap.objs.size=D;have hDn:H2 D=none:=I2.bK.fresh (alE hD);obtain⟨W,⟨m0,w0⟩,turn⟩:=q D hDn;generalize XO:({s2 with heap:=s2.heap.push {cls:= .type "list",data:= .seq ([]:List Value).toArray}}:Shared)=s3;have I3:aV (upd H2 D (.lst [])) s3:=(by rw[<-XO];refine I2.laid (t':=s2.toks) (fun b o e=>aiX _ e) (alE hD) ⟨ajo _,[],0,.nil,?_⟩;rw[<-hD];exact aje _ rfl);have h3:s3.heap=s2.heap.push {cls:= .type "list",data:= .seq ([]:List Value).toArray}:=(by rw[<-XO]);have sz:∀b∈fp,b<s2.heap.objs.size:=(fun b hb=>by obtain⟨o,e,_⟩:=T.obj _ _ PK b hb;exact ajf e);have f3:∀b∈fp,rQ X pins (upd H2 D (.lst [])) b/\b<s3.heap.objs.size:=(fun b hb=>by have fC:=sz b hb;refine⟨⟨?_,(f2 b hb).2⟩,by rw[h3,ajO];exact akT fC⟩;rw[aB (by rw[<-hD];exact ajB fC)];exact(f2 b hb).1);have Wy:tn 0 s3.heap:=(T.keep _ _ _ PK fun b _ o e=>by rw[h3];exact aiX _ e);have I4:=Aw I3 ok hN f3;have pg:=hg s3 (upd H2 D (.lst [])) s3.heap.objs.size (cellsFrom (s3.heap.objs.size+1) scope.names (bj X.env.cells scope.names [])) fp;have pt:=ht s3 (upd H2 D (.lst [])) s3.heap.objs.size (cellsFrom (s3.heap.objs.size+1) scope.names (bj X.env.cells scope.names [])) fp;have pe:=he s3 (upd H2 D (.lst [])) s3.heap.objs.size (cellsFrom (s3.heap.objs.size+1) scope.names (bj X.env.cells scope.names [])) fp;show codeAny _ _ (.compStart (.ListComp elt [⟨tg,iter,ifs,0⟩] scope pos) 0 (.ref it) (.ref D) (compEnvC scope (cellsFrom (s3.heap.objs.size+1) scope.names (bj X.env.cells scope.names [])) s3.heap.objs.size X.env)) (compPost (model X.prog X.w) X.A X.xe use Qf (.ref D) s3.heap.objs.size) {s3 with heap:=pushCells (s3.heap.push {cls:= .type "dict",data:= .dict #[]}) scope.names};have Uc:∀b∈fp,(upd H2 D (.lst [])) b=none:=fun b hb=>(f3 b hb).1.1;generalize hce:compEnvC scope (cellsFrom (s3.heap.objs.size+1) scope.names (bj X.env.cells scope.names [])) s3.heap.objs.size X.env=ce at I4 pg pt pe⊢;have cL:ce.locals=s3.heap.objs.size:=(by subst hce;rfl);generalize V5:upd H2 D (.lst [])=H3 at I3 I4 pg pt pe w0 Uc f3;generalize GD:({s3 with heap:=pushCells (s3.heap.push {cls:= .type "dict",data:= .dict #[]}) scope.names}:Shared)=s4 at I4⊢;have st4:tn 0 s4.heap:=(T.keep _ _ _ Wy fun b _ o e=>by rw[<-GD];exact ama _ _ _ _ (aiX _ e));have BY:∀{σ':St} {H':Hp} {s':Shared},Inv (X.yW s3 H3 scope ce fp) [] σ' H' s'->(∀b∈fp,H' b=none)->∀b∈fp,rQ (X.yW s3 H3 scope ce fp) [] H' b:=fun{σ' H' s'} I' hn b hb=>
  ⟨hn b hb,(I'.ok.Xz b hb).1,I'.ok.K3 b hb,.inl hb,fun x c e=>(I'.ok.Xz b hb).2 x c e,fun p hp=>absurd (show p∈([]:List (Addr×Obj))++[]from hp) (by simp)⟩
 have loop:codeAny (model X.prog X.w) X.A (.compLoop (.ListComp elt [⟨tg,iter,ifs,0⟩] scope pos) 0 (.ref it) (.ref D) ce) (compPost (model X.prog X.w) X.A X.xe use Qf (.ref D) s3.heap.objs.size) s4:=by
  refine yQ (fun n s'=>∃i H',Inv (X.yW s3 H3 scope ce fp) [] (wipe σ (own.map (·.2))) H' s'/\tn i s'.heap/\(∀b∈fp,H' b=none)/\W i n H') ?_ m0 ⟨0,H3,I4,st4,Uc,w0⟩;rintro n s5 ⟨i,H5,I5,R5,n5,w5⟩;rcases turn i n H5 w5 with⟨stop,qq⟩|⟨go,Nx,hNx,step⟩
  .have td:=T.done (X.yW s3 H3 scope ce fp) rfl rfl rfl hc i [] s5 _ H5 (fun _ _=>False) I5 (BY I5 n5) R5 stop;refine FK td fun r s6 ⟨hr,I6⟩=>?_;subst hr;have I7:aV H5 s6:=I3.WW (ch:=fp) I6.os I6.base I6.bK I6.bare fun b hb=>⟨(f3 b hb).1.2.2.2.1,(f3 b hb).1.2.1,(f3 b hb).1.2.2.2.2.1,(f3 b hb).1.2.2.2.2.2⟩;have nC:H5 s3.heap.objs.size=none:=(by have z:H5 ce.locals=none:=I6.free;rw[cL]at z;exact z);obtain⟨m,hn,_⟩:=I6.loc;have hn:s6.heap.Ns ce.locals m:=hn;rw[cL]at hn;exact hRR D s3.heap.objs.size s6 m H5 I7 qq hn (I3.Kx (ai2 _) nC)
  .have ti:=T.item (X.yW s3 H3 scope ce fp) rfl rfl rfl hc i [] s5 _ H5 (fun _ _=>False) I5 (BY I5 n5) R5 go;refine FK ti fun r s6 ⟨u,hr,h6⟩=>?_;subst hr;refine FK h6 fun _ s7 ⟨x,H7,I7,r7,y7,YM,n7⟩=>?_;have I7':=I7.pinned (BY I7 n7) (T.obj _ _ YM);refine FK (pg _ s7 _ H7 x u _ I7' r7 (step x H7 y7)) fun _ s8 ⟨σ8,H8,I8,hw8,q8⟩=>?_;refine FK (pt _ s8 σ8 H8 _ I8 q8) fun b s9 ⟨H9,I9,q9⟩=>?_;have fin:∀{s':Shared} {H':Hp},Inv (X.yW s3 H3 scope ce fp) ([]++tG fp s7.heap) σ8 H' s'->Nx H'->∃m,m<n/\∃i H',Inv (X.yW s3 H3 scope ce fp) [] (wipe σ (own.map (·.2))) H' s'/\tn i s'.heap/\(∀b∈fp,H' b=none)/\W i m H':=fun{s' H'} I' nx=>by
    obtain⟨m',hm,w'⟩:=hNx H' nx;have T7:∀b∈fp,∀o,s7.heap.get? b=some o->s'.heap.get? b=some o/\H' b=none:=fun b hb o e=>
     let z:=I'.pin (b,o) (ajI _ (ajI _ (mo hb e)))
     ⟨z.1,z.2.1⟩
    have hl:(wipe σ (own.map (·.2))).length=σ8.length:=(by rw[<-hw8,kK]);refine⟨m',hm,i+1,H',(I'.nN (pins:=[])).weak hl (fun j v e=>?_),T.keep _ _ _ YM fun b hb o e=>(T7 b hb o e).1,fun b hb=>?_,w'⟩
    .rw[<-hw8]at e;exact(pC e).1
    .obtain⟨o,e,_⟩:=T.obj _ _ YM b hb;exact(T7 b hb o e).2
   cases b with
   |false=>
    simp only[akr,ali]at q9⊢;exact fin I9 q9
   |true=>
    simp only[al2]at q9⊢;refine FK (pe _ s9 σ8 H9 _ I9 q9) fun z W3 ⟨yv,H10,I10,r10,acc,aaY,Zb,nx⟩=>?_;exact Rr (X:=X.yW s3 H3 scope ce fp) I10 aaY Zb r10 fun s11 I11=>fin I11 nx
 exact codeAny_compStart_list loop (T.self X.A 0 _ _ _ st4 loop)
theorem fw{pos:Pos}(hc:X.calm=true)(hN:X.N.Nodup)(hi:PI X tg iter wi)(ok:BB X.N X.env.scope scope own) (hg:∀(s:Shared) (H:Hp) (C:Addr) (cl:List (Str×Addr)) (fp:List Addr),PG (X.yW s H scope (compEnvC scope cl C X.env) fp) tg g)(ht:∀(s:Shared) (H:Hp) (C:Addr) (cl:List (Str×Addr)) (fp:List Addr),Wc (X.yW s H scope (compEnvC scope cl C X.env) fp) ifs tt) (he:∀(s:Shared) (H:Hp) (C:Addr) (cl:List (Str×Addr)) (fp:List Addr),PE (X.yW s H scope (compEnvC scope cl C X.env) fp) elt te)(hs:∀x,foldedSetIterable iter X.env x=pure x:=by intro _;rfl):PE X (.ListComp elt [⟨tg,iter,ifs,0⟩] scope pos) (Wn wi g tt te (own.map (·.2))):=by intro pins s σ H Q I h;rw[eval_ListComp];refine EM hc hN I hi ok hg ht he hs h fun D C s' m H' I' q hn f=>⟨m,hn,fun Oj sb=>?_⟩;obtain⟨f0,f1,f2,f3,f4,f5⟩:=f;exact⟨.ref D,H',I'.turned (t':=s'.toks) (fun b o hb e=>(sb.2 b hb).trans e) f0 f1 f3 f4 f5,Z,q⟩
theorem kX{y:Str}{py:Pos}{pos Te:Pos}(hc:X.calm=true)(hN:X.N.Nodup)(hy:X.N[i]?=some y)(hyl:X.env.scope.names.lookup y=some .local) (hsw:swapsWith (.ListComp elt [⟨tg,iter,ifs,0⟩] scope pos) (some (.Name y py)) Te.line X.env=pure true)(hi:PI X tg iter wi)(ok:BB X.N X.env.scope scope own) (hg:∀(s:Shared) (H:Hp) (C:Addr) (cl:List (Str×Addr)) (fp:List Addr),PG (X.yW s H scope (compEnvC scope cl C X.env) fp) tg g)(ht:∀(s:Shared) (H:Hp) (C:Addr) (cl:List (Str×Addr)) (fp:List Addr),Wc (X.yW s H scope (compEnvC scope cl C X.env) fp) ifs tt) (he:∀(s:Shared) (H:Hp) (C:Addr) (cl:List (Str×Addr)) (fp:List Addr),PE (X.yW s H scope (compEnvC scope cl C X.env) fp) elt te)(hs:∀x,foldedSetIterable iter X.env x=pure x:=by intro _;rfl):PS X (.Assign [.Name y py] (.ListComp elt [⟨tg,iter,ifs,0⟩] scope pos) Te) (PJ (Wn wi g tt te (own.map (·.2))) (wg i)):=by
 intro pins s σ H D I h;rw[exec_Assign_Name_used _ _ _ _ hsw];refine aiR (alX (aiR ?_));show wpAny _ X.A (do let _<-comprehension (.ListComp elt [⟨tg,iter,ifs,0⟩] scope pos) scope X.env (firstIterPos [⟨tg,iter,ifs,0⟩] pos) (newList []) false (eval iter X.env) (some (assign (.Name y py) X.env))) _ _ s;have h:Wn wi g tt te (own.map (·.2)) σ H (fun x H1=>wg i x σ H1 D.nx):=h;refine aiR (cQ (EM (Qf:=fun _ s'=>SP X pins D .next s') hc hN I hi ok hg ht he hs h fun L C s' m H' I' q hn f=>?_) fun _ s' hq=>ai4 (ai4 hq));show wpAny _ _ (assign (.Name y py) X.env (.ref L)) _ _ _;refine wpAny_assign_Name (vc (v:=V.ref L) I' hN hy (.inl hyl) rfl (fun s2 I2 ⟨a,sb,ha⟩=>?_) (.inr hyl));obtain⟨f0,f1,f2,f3,f4,f5⟩:=f;have haC:C≠a:=by
  rcases ha with z|z
  .rw[z];exact f1
  .exact fun e=>f4 y a z e.symm
 refine⟨m,hn.sameBut sb haC,fun h3 sb3=>?_⟩;exact⟨_,H',I2.turned (t':=s2.toks) (fun b o hb e=>(sb3.2 b hb).trans e) f0 f1 f3 f4 f5,q⟩
theorem eG{K:W.Frag}{vs:List Nat}{H1:Hp}{Qd:Hp->Prop}(Pv:Nat->Hp->Prop)(h0:Pv 0 (upd H1 D (.lst [])))(hl:∀i H,i<=xs.length->Pv i H->ae K H a xs) (hs:∀i x H,xs[i]?=some x->Pv i H->g x (wipe σ vs) H fun σ2 H2=>wipe σ2 vs=wipe σ vs/\tt σ2 H2 fun b H3=>
   if b=true then te σ2 H3 fun y H4=>∃acc,H4 D=some (.lst acc)/\acc.length<sizeLine/\Pv (i+1) (upd H4 D (.lst (acc++[y])))else Pv (i+1) H3)(hd:∀H,Pv xs.length H->Qd H):
  ∃W:Nat->Nat->Hp->Prop,(∃m,W 0 m (upd H1 D (.lst [])))/\∀i m H,W i m H->((Oy K a).stop i H/\Qd H)\/((Oy K a).go i H/\∃Nx:Hp->Prop,(∀H',Nx H'->∃m',m'<m/\W (i+1) m' H')/\∀x H',(Oy K a).HV i H x H'->g x (wipe σ vs) H' fun σ2 H2=>wipe σ2 vs=wipe σ vs/\tt σ2 H2 fun b H3=>
    if b=true then te σ2 H3 fun y H4=>∃acc,H4 D=some (.lst acc)/\acc.length<sizeLine/\Nx (upd H4 D (.lst (acc++[y])))else Nx H3):=by
 refine⟨fun i m H=>m=xs.length-i/\i<=xs.length/\Pv i H,⟨xs.length,by simp,ajo _,h0⟩,?_⟩;rintro i m H ⟨rfl,hi,p⟩;have q:=hl i H hi p;by_cases fC:i<xs.length
 .refine .inr ⟨⟨xs,xs[i],q,by simp[fC]⟩,Pv (i+1),fun H' p'=>⟨xs.length-(i+1),by omega,Z,fC,p'⟩,fun x H' y=>?_⟩;obtain⟨e,y⟩:=y;subst e;exact hs i x _ (y xs q) p
 .have e:i=xs.length:=(by omega);subst e;exact .inl ⟨⟨xs,q,ai2 _⟩,hd H p⟩
section
variable [DecidableEq κ]
def bc(aP:List (κ×V))(k:κ):Option V:=(aP.find? fun kv=>decide (kv.1=k)).map (·.2)
def putK(aP:List (κ×V))(k:κ)(v:V):List (κ×V):=if(aP.any fun kv=>decide (kv.1=k))=true then aP.map (fun kv=>if kv.1=k then(kv.1,v)else kv)else aP++[(k,v)]
theorem eK{p:κ×V}{r:List (κ×V)}{k:κ}(e:p.1=k):bc (p::r) k=some p.2:=by simp[bc,ajG,e]
theorem eL{p:κ×V}{r:List (κ×V)}{k:κ}(e:¬p.1=k):bc (p::r) k=bc r k:=by simp[bc,ajG,e]
theorem kM(k:κ):∀aP:List (κ×V),(aP.any fun kv=>decide (kv.1=k))=(bc aP k).isSome
 | []=>rfl
 |p::r=>by
  rw[ak0];by_cases e:p.1=k
  .simp only[eK e,ai8 e,Bool.true_or,Option.isSome_some]
  .rw[eL e,ajl e,anb];exact kM k r
theorem yx(k j:κ)(y:V):∀aP:List (κ×V),bc (aP.map fun kv=>if kv.1=k then(kv.1,y)else kv) j=(bc aP j).map fun x=>if j=k then y else x
 | []=>rfl
 |p::r=>by
  have ih:=yx k j y r;rw[aji];by_cases h:p.1=k
  .rw[ai5 h];by_cases e:p.1=j
   .rw[eK (p:=(p.1,y)) e,eK e,amc,ai5 (e.symm.trans h)]
   .rw[eL (p:=(p.1,y)) e,eL e,ih]
  .rw[ai0 h];by_cases e:p.1=j
   .rw[eK (p:=p) e,eK e,amc,ai0 (fun z=>h (e.trans z))]
   .rw[eL (p:=p) e,eL e,ih]
theorem vZ(k j:κ)(y:V):∀aP:List (κ×V),bc aP k=none->bc (aP++[(k,y)]) j=if j=k then some y else bc aP j
 | [],_=>by
  by_cases e:k=j
  .rw[ai5 e.symm];exact eK (p:=(k,y)) e
  .rw[ai0 (fun z=>e z.symm)];exact eL (p:=(k,y)) e
 |p::r,hn=>by
  rw[akj];have hk:¬p.1=k:=(fun z=>by rw[eK z]at hn;cases hn);rw[eL hk]at hn;have ih:=vZ k j y r hn;by_cases e:p.1=j
  .rw[eK e,eK e,ai0 (fun z=>hk (e.trans z))]
  .rw[eL e,eL e,ih]
theorem HZ(aP:List (κ×V))(k j:κ)(y:V):bc (putK aP k y) j=if j=k then some y else bc aP j:=by
 unfold putK;by_cases a:(aP.any fun kv=>decide (kv.1=k))=true
 .rw[ai5 a,yx];rw[kM]at a;by_cases e:j=k
  .obtain⟨x,hx⟩:=akZ.mp a;rw[ai5 e,e,hx,amc,ai5 rfl]
  .rw[ai0 e];cases bc aP j with
   |none=>rfl
   |some x=>rw[amc,ai0 e]
 .rw[ai0 a];refine vZ k j y aP ?_;rw[kM]at a;cases q:bc aP k with
  |none=>rfl
  |some x=>rw[q]at a;exact(a rfl).elim
theorem iS(aP:List (κ×V))(k:κ)(v:V):(putK aP k v).length<=aP.length+1:=by
 unfold putK;split
 .rw[aiQ];omega
 .rw[aiT,ajc,amU];omega
theorem iz{aP:List (κ×V)}{k:κ}(v:V)(h:bc aP k=none):putK aP k v=aP++[(k,v)]:=by unfold putK;rw[kM,h];exact ai0 (by decide)
theorem qH.jB{o:Option V}{u:Option Value}(r:qH o u):o.isSome=u.isSome:=by
 cases o with
 |none=>cases u with
  |none=>rfl
  |some _=>exact(show False from r).elim
 |some _=>cases u with
  |none=>exact(show False from r).elim
  |some _=>rfl
theorem KV.val{aP:List (κ×V)}{vs:List (κ×Value)}(r:KV aP vs)(k:κ):qH (bc aP k) (valueAt vs k):=by
 unfold KV at r
 induction r with
 |nil=>exact True.intro
 | @cons p q ps qs h t ih=>
  obtain⟨h1,h2⟩:=h;by_cases e:p.1=k
  .have e':q.1=k:=h1.symm.trans e;have b:valueAt (q::qs) k=some q.2:=(by simp[valueAt,ajG,e']);rw[eK e,b];exact h2
  .have e':¬q.1=k:=fun z=>e (h1.trans z);have b:valueAt (q::qs) k=valueAt qs k:=(by simp[valueAt,ajG,e']);rw[eL e,b];exact ih
theorem KV.any{aP:List (κ×V)}{vs:List (κ×Value)}(r:KV aP vs)(k:κ):(aP.any fun kv=>decide (kv.1=k))=vs.any fun kv=>decide (kv.1=k):=by
 unfold KV at r
 induction r with
 |nil=>rfl
 |cons h t ih=>rw[ak0,ak0,ih,h.1]
theorem KV.P1{aP:List (κ×V)}{vs:List (κ×Value)}(r:KV aP vs)(k:κ)(ry:RelV y u):KV (aP.map fun kv=>if kv.1=k then(kv.1,y)else kv) (vs.map fun kv=>if kv.1=k then(kv.1,u)else kv):=by
 unfold KV at r⊢
 induction r with
 |nil=>exact .nil
 | @cons p q ps qs h t ih=>
  rw[aji,aji];refine .cons ?_ ih;obtain⟨h1,h2⟩:=h;by_cases e:p.1=k
  .rw[ai5 e,ai5 (h1.symm.trans e)];exact⟨h1,ry⟩
  .rw[ai0 e,ai0 (fun z=>e (h1.trans z))];exact⟨h1,h2⟩
theorem KV.put{aP:List (κ×V)}{vs:List (κ×Value)}(r:KV aP vs)(k:κ)(ry:RelV y u):KV (putK aP k y) (stored vs k u):=by
 unfold putK stored;rw[r.any k];by_cases e:(vs.any fun kv=>decide (kv.1=k))=true
 .rw[ai5 e,ai5 e];exact r.P1 k ry
 .rw[ai0 e,ai0 e];exact Paired.snoc r ⟨Z,ry⟩
theorem KV.length{aP:List (κ×V)}{vs:List (κ×Value)}(r:KV aP vs):aP.length=vs.length:=Paired.length r
end
theorem wJ{k:Key}(r:RelV (kV k) u):(cy P w).is k u=true:=by
 cases k with
 |inl i=>obtain⟨t,e⟩:=(show∃t,u=Value.int i t from r);subst e;exact zq P w i t
 |inr x=>obtain⟨t,e⟩:=(show∃t,u=Value.str x t from r);subst e;exact zp P w x t
theorem wK{P:Program}{w:World}:∀{ks:List Key} {us:List Value},bI (ks.map kV) us->ItemsAre (cy P w) ks us
 | [],_,r=>by rw[al5]at r;cases r;exact .nil
 |k::ks,_,r=>by
  rw[aji]at r;cases r with
  |cons h t=>exact .cons (wJ h) (wK t)
abbrev KT(H:Hp):List (List Key×V)->List (List Key×Addr×Value)->Prop:=Paired fun p q=>p.1=q.1/\H q.2.1=some (.tup (p.1.map kV))/\RelV p.2 q.2.2
theorem KT.val{xs:List (List Key×Addr×Value)}(r:KT H aP xs)(k:List Key):qH (bc aP k) ((atKey xs k).map (·.2)):=by
 induction r with
 |nil=>exact True.intro
 | @cons p q ps qs h t ih=>
  obtain⟨h1,_,h2⟩:=h;by_cases e:p.1=k
  .have e':q.1=k:=h1.symm.trans e;have b:atKey (q::qs) k=some q.2:=(by simp[atKey,ajG,e']);rw[eK e,b];exact h2
  .have e':¬q.1=k:=fun z=>e (h1.trans z);have b:atKey (q::qs) k=atKey qs k:=(by simp[atKey,ajG,e']);rw[eL e,b];exact ih
theorem KT.P1{xs:List (List Key×Addr×Value)}(r:KT H aP xs)(k:List Key)(ry:RelV y u):KT H (aP.map fun kv=>if kv.1=k then(kv.1,y)else kv) (xs.map (putAt k u)):=by
 induction r with
 |nil=>exact .nil
 | @cons p q ps qs h t ih=>
  rw[aji,aji];refine .cons ?_ ih;obtain⟨h1,h2,h3⟩:=h;unfold putAt;by_cases e:p.1=k
  .rw[ai5 e,ai5 (h1.symm.trans e)];exact⟨h1,h2,ry⟩
  .rw[ai0 e,ai0 (fun z=>e (h1.trans z))];exact⟨h1,h2,h3⟩
theorem KT.put{xs:List (List Key×Addr×Value)}(r:KT H aP xs)(k:List Key)(hb:H b=some (.tup (k.map kV)))(ry:RelV y u):KT H (putK aP k y) (storedH xs k b u):=by
 have e:(aP.any fun kv=>decide (kv.1=k))=(atKey xs k).isSome:=(by rw[kM,(r.val k).jB,aj2]);unfold putK storedH;rw[e];by_cases q:(atKey xs k).isSome=true
 .rw[ai5 q,ai5 q];exact r.P1 k ry
 .rw[ai0 q,ai0 q];exact Paired.snoc r ⟨Z,hb,ry⟩
theorem KT.keeps{xs:List (List Key×Addr×Value)}(r:KT H aP xs)(ht:∀b ys,H b=some (.tup ys)->H' b=some (.tup ys)):KT H' aP xs:=Paired.a8 r fun _ _ z=>⟨z.1,ht _ _ z.2.1,z.2.2⟩
theorem OJ{u:HO}(ok:jq P w H h)(e:Rd H a u):cj P w H h a u:=e.ok ok
theorem wq{aP:List (Key×V)}(ok:jq P w H h)(e:Rd H a (.dK aP)):aP.length<=sizeLine/\(a==sysModules)=false/\∃vs,KV aP vs/\h.DictOf (cy P w) a vs:=
 show cj P w H h a (.dK aP)from OJ ok e
theorem WS{aP:List (Key×V)}(ok:jq P w H h)(e:H a=some (.dK aP)):aP.length<=sizeLine/\(a==sysModules)=false/\∃vs,KV aP vs/\h.DictOf (cy P w) a vs:=wq ok (.inl e)
theorem jY{ks:List Key}(ok:jq P w H h)(e:H a=some (.tup (ks.map kV))):(tupleKind (cy P w)).is h ks a:=by obtain⟨_,bE,r,o,h1,h2,n,h3⟩:=(show cj P w H h a (.tup (ks.map kV))from ok a _ e);exact⟨o,bE.toArray,n,h1,h2,h3,by simpa using wK r⟩
theorem Aa(ok:jq P w H h)(e:Rd H a (.dT aP)):aP.length<=sizeLine/\(a==sysModules)=false/\∃xs,KT H aP xs/\h.DictOfH (tupleKind (cy P w)) a xs:=by
 obtain⟨z,y,xs,r,o,es,ep,h1,h2,h3,h4,h5⟩:=(show cj P w H h a (.dT aP)from OJ ok e);refine⟨z,y,xs,r,o,es,ep,h1,h2,h3,h4,fun x hx=>?_,h5⟩;have all:∀{l:List (List Key×V)} {m:List (List Key×Addr×Value)},KT H l m->∀x∈m,(tupleKind (cy P w)).is h x.1 x.2.1:=by
  intro l m q
  induction q with
  |nil=>intro x hx;exact nomatch hx
  | @cons p q ps qs hq t ih=>
   intro x hx;rcases aiZ.mp hx with e|hx
   .subst e;exact jY ok (by rw[<-hq.1];exact hq.2.1)
   .exact ih x hx
 exact all r x hx
theorem Oq(ok:jq P w H h)(e:H a=some (.dT aP)):aP.length<=sizeLine/\(a==sysModules)=false/\∃xs,KT H aP xs/\h.DictOfH (tupleKind (cy P w)) a xs:=Aa ok (.inl e)
def ba(H:Hp)(a:Addr)(y:V)(r:Option V):Prop:=(∃aP k,Rd H a (.dK aP)/\y=kV k/\r=bc aP k)\/∃aP k b,Rd H a (.dT aP)/\y= .ref b/\H b=some (.tup (k.map kV))/\r=bc aP k
def ji(H:Hp)(a:Addr)(y v:V)(H':Hp):Prop:=(∃aP k,H a=some (.dK aP)/\y=kV k/\aP.length<sizeLine/\H'=upd H a (.dK (putK aP k v)))\/ ∃aP k b,H a=some (.dT aP)/\y= .ref b/\H b=some (.tup (k.map kV))/\aP.length<sizeLine/\H'=upd H a (.dT (putK aP k v))
theorem ba.k{H:Hp}{a:Addr}{aP:List (Key×V)}{k:Key}(e:H a=some (.dK aP)):ba H a (kV k) (bc aP k):= .inl ⟨aP,k,.inl e,rfl,rfl⟩
theorem ba.t{k:List Key}(e:H a=some (.dT aP))(eb:H b=some (.tup (k.map kV))):ba H a (.ref b) (bc aP k):= .inr ⟨aP,k,b,.inl e,rfl,eb,rfl⟩
theorem ji.k{H:Hp}{a:Addr}{aP:List (Key×V)}{k:Key}{v:V}(e:H a=some (.dK aP))(hl:aP.length<sizeLine):ji H a (kV k) v (upd H a (.dK (putK aP k v))):= .inl ⟨aP,k,e,rfl,hl,rfl⟩
theorem ji.t{k:List Key}(e:H a=some (.dT aP))(eb:H b=some (.tup (k.map kV)))(hl:aP.length<sizeLine):ji H a (.ref b) v (upd H a (.dT (putK aP k v))):= .inr ⟨aP,k,b,e,rfl,eb,hl,rfl⟩
section
variable{r:Value}{o:Option V}
theorem Inv.big(I:aV H s):sysModules<s.heap.objs.size:=by have h:mainGlobals<s.heap.objs.size:=(I.mod.glob.keeps I.bk).lt;exact al4 (by decide) h
theorem Ge(hu:A.units+1<cLine)(I:aV H s)(g:ba H a y (some v))(ry:RelV y u)(h:∀w' s',aV H s'->RelV v w'->Q w' s'):wpAny (model X.prog X.w) A (getItem (.ref a) u) Q E s:=by
 rcases g with⟨aP,k,e,ey,l⟩|⟨aP,k,b,e,ey,eb,l⟩
 .subst ey;obtain⟨z,hd,vs,rel,dd⟩:=wq I.bK e;obtain⟨w',hw,L9⟩:=qH.some_of (v:=v) (o:=valueAt vs k) (by rw[l];exact rel.val k);exact wpAny_getItem_of (wJ ry) dd.mapOf hw (h w' _ (I.tok _) L9)
 .subst ey;cases(show u=Value.ref b from ry);obtain⟨z,hd,xs,rel,dd⟩:=Aa I.bK e;obtain⟨w',hw,L9⟩:=qH.some_of (v:=v) (o:=(atKey xs k).map (·.2)) (by rw[l];exact rel.val k);obtain⟨p,hp,Se⟩:=al3.mp hw;refine wpAny_getItem_heap (alQ hu) (jY I.bK eb) dd hp ?_;rw[Se];exact h w' _ (I.tok _) L9
theorem abe(hu:A.units+1<cLine)(I:aV H s)(g:ba H a y o)(ry:RelV y u)(h:∀s',aV H s'->Q (.bool o.isSome) s'):wpAny (model X.prog X.w) A (compareOp .In u (.ref a)) Q E s:=by
 rcases g with⟨aP,k,e,ey,l⟩|⟨aP,k,b,e,ey,eb,l⟩
 .subst ey;obtain⟨z,hd,vs,rel,dd⟩:=wq I.bK e;refine wpAny_in_of (wJ ry) hd dd.mapOf ?_;rw[<-(rel.val k).jB,<-l];exact h _ (I.tok _)
 .subst ey;cases(show u=Value.ref b from ry);obtain⟨z,hd,xs,rel,dd⟩:=Aa I.bK e;refine wpAny_in_heap (alQ hu) (jY I.bK eb) hd dd ?_;have q:=(rel.val k).jB;rw[aj2]at q;rw[<-q,<-l];exact h _ (I.tok _)
theorem Nb(hu:A.units+1<cLine)(I:aV H s)(g:ba H a y o)(ry:RelV y u)(h:∀s',aV H s'->Q (.bool (!o.isSome)) s'):wpAny (model X.prog X.w) A (compareOp .NotIn u (.ref a)) Q E s:=by
 rcases g with⟨aP,k,e,ey,l⟩|⟨aP,k,b,e,ey,eb,l⟩
 .subst ey;obtain⟨z,hd,vs,rel,dd⟩:=wq I.bK e;refine wpAny_notIn_of (wJ ry) hd dd.mapOf ?_;rw[<-(rel.val k).jB,<-l];exact h _ (I.tok _)
 .subst ey;cases(show u=Value.ref b from ry);obtain⟨z,hd,xs,rel,dd⟩:=Aa I.bK e;refine wpAny_notIn_heap (alQ hu) (jY I.bK eb) hd dd ?_;have q:=(rel.val k).jB;rw[aj2]at q;rw[<-q,<-l];exact h _ (I.tok _)
theorem yJ(I:aV H s)(mu:Np (H a))(hs:Heap.SameBut a s.heap h')(he:∃q,h'.get? a=some q)(new:cj X.prog X.w (upd H a ob) h' a ob):aV (upd H a ob) {s with heap:=h',toks:=t'}:=I.write (x:=a) (e:=a) mu (.inl rfl) (fun b q hb z=>(hs.2 b hb).trans z) he new
theorem Rf{aP:List (Key×V)}{vs:List (Key×Value)}(z:aP.length<=sizeLine)(hd:(a==sysModules)=false)(rel:KV aP vs)(dd:h'.DictOf (cy P w) a vs):cj P w H' h' a (.dK aP):=⟨z,hd,vs,rel,dd⟩
theorem Ga{Q:Unit->Shared->Prop}(hu:A.units+1<cLine)(I:aV H s)(g:ji H a y v H')(ry:RelV y u)(rv:RelV v r)(h:∀s',aV H' s'->Q () s'):wpAny (model X.prog X.w) A (setItem (.ref a) u r) Q E s:=by
 rcases g with⟨aP,k,e,ey,l,eH⟩|⟨aP,k,b,e,ey,eb,l,eH⟩
 .subst ey eH;obtain⟨z,hd,vs,rel,dd⟩:=WS I.bK e;have hz:vs.length<=sizeLine:=(by rw[<-rel.length];exact z);have hl:(putK aP k v).length<=sizeLine:=(by have:=iS aP k v;omega);refine wpAny_setItem_pairs (hsz:=hz) (wJ ry) dd fun h' Sx hs=>h _ ?_;have he:∃q,h'.get? a=some q:=let⟨q,_,_,hq,_⟩:=Sx;⟨q,hq⟩;exact yJ I (by rw[e];exact True.intro) hs he (Rf hl hd (rel.put k rv) Sx)
 .subst ey eH;cases(show u=Value.ref b from ry);obtain⟨z,hd,xs,rel,dd⟩:=Oq I.bK e;have hz:xs.length<=sizeLine:=(by rw[<-Paired.length rel];exact z);have hl:(putK aP k v).length<=sizeLine:=(by have:=iS aP k v;omega);refine wpAny_setItem_heap (hsz:=hz) (alQ hu) (jY I.bK eb) dd fun h' Sx hs=>h _ ?_;obtain⟨q,es,ep,hq,h2,h3,h4,_,h5⟩:=Sx;refine yJ I (by rw[e];exact True.intro) hs ⟨q,hq⟩ ⟨hl,hd,_,(rel.put k eb rv).keeps fun c ys ec=>?_,q,es,ep,hq,h2,h3,h4,h5⟩;rw[aB (ak ec e nofun)];exact ec
end
section
variable{aP:List (Key×V)}{k:Key}
theorem WU(I:aV H s)(e:Rd H a (.dK aP))(h:∀t s',aV H s'->Q (.int aP.length t) s'):wpAny (model X.prog X.w) A (call (.builtin "len") [.ref a]) Q E s:=by obtain⟨z,hd,vs,rel,dd⟩:=wq I.bK e;refine call_len_dict hd dd (by rw[<-rel.length];rw[ai6]at z;omega) ?_;rw[<-rel.length];exact h _ _ (I.tok _)
end
def Rv(i:Expr):Prop:=∀ov iv,subscripted i false ov iv=operate [ov,iv] (getItem ov iv)
theorem DP{slice:Expr}{pos:Pos} (hl:typeLookup (.type T) "__getitem__"=pure (some (.builtin id)))(hs:Rv slice) (h:wpAny (model prog w) A (eval value env) (fun o s₁=>wpAny (model prog w) A (eval slice env) (fun i s₂=>s₂.TypeIs o T/\wpAny (model prog w) A (getItem o i) Q E s₂) E s₁) E s):wpAny (model prog w) A (eval (.Subscript value slice pos) env) Q E s:=by
 refine Subscript_ (ake h (fun o s₁ h₁=>ake h₁ (fun i s₂ h₂=>?_) fun _ _ x=>x) fun _ _ x=>x);obtain⟨hT,h₂⟩:=h₂;unfold subscriptTail;refine aiR ?_;rw[getitemInPython_of_ne hT.not_modules];refine aiR (wpAny_specialOf hT hl ?_);have fin:wpAny (model prog w) A (subscripted slice false o i) (fun r s₃=>wpAny (model prog w) A (letTemporaryGo value o r>>=fun _=>pure r) Q E s₃) E s₂:=by rw[hs o i];exact wpAny_operating (ake h₂ (fun r s₃ h₃=>aiR (wpAny_letTemporaryGo (ai4 h₃))) fun _ _ x=>x)
 first
  |exact ai4 (aiR fin)
  |exact aiR (ai4 (aiR fin))
  |exact aiR fin
theorem Ae{o:Option V}(I:aV H s)(g:ba H a y o):s.TypeIs (.ref a) "dict":=by
 rcases g with⟨aP,k,e,_,_⟩|⟨aP,k,b,e,_,_,_⟩
 .obtain⟨_,_,vs,_,dd⟩:=wq I.bK e;exact dd.typeIs
 .obtain⟨_,_,xs,_,dd⟩:=Aa I.bK e;exact dd.typeIs
def TY(td ty:TE):TE:=fun σ H Q=>td σ H fun x H1=>ty σ H1 fun y H2=>∃a v,x= .ref a/\ba H2 a y (some v)/\Q v H2
def YH(ty td:TE):TE:=fun σ H Q=>ty σ H fun y H1=>td σ H1 fun x H2=>∃a o,x= .ref a/\ba H2 a y o/\Q (.bl o.isSome) H2
def Lz(ty td:TE):TE:=fun σ H Q=>ty σ H fun y H1=>td σ H1 fun x H2=>∃a o,x= .ref a/\ba H2 a y o/\Q (.bl (!o.isSome)) H2
def Tw(td ty tv:TE):TS:=fun D σ H=>tv σ H fun v H1=>td σ H1 fun x H2=>ty σ H2 fun y H3=>∃a H4,x= .ref a/\ji H3 a y v H4/\D.nx σ H4
section
variable{o i:Expr}{pos:Pos}
theorem dq(hu:X.A.units+1<cLine)(ho:PE X o td)(hi:PE X i ty)(hs:Rv i:=by exact fun _ _=>rfl):PE X (.Subscript o i pos) (TY td ty):=by intro pins s σ H Q I h;refine DP am4.lookup hs (cQ (ho pins s σ H _ I h) fun u s1 ⟨x,H1,I1,rx,q1⟩=>cQ (hi pins s1 σ H1 _ I1 q1) fun iv s2 ⟨y,H2,I2,ry,a,v,ex,g,q2⟩=>?_);subst ex;obtain rfl:u=Value.ref a:=rx;exact⟨Ae I2 g,Ge hu I2 g ry fun w' s3 I3 L9=>⟨v,H2,I3,L9,q2⟩⟩
theorem fB(hu:X.A.units+1<cLine)(hi:PE X i ty)(ho:PE X o td):PC X .In i o (YH ty td):=by intro pins s σ H Q I h;refine cQ (hi pins s σ H _ I h) fun iv s1 ⟨y,H1,I1,ry,q1⟩=>cQ (ho pins s1 σ H1 _ I1 q1) fun u s2 ⟨x,H2,I2,rx,a,ov,ex,g,q2⟩=>?_;subst ex;obtain rfl:u=Value.ref a:=rx;exact abe hu I2 g ry fun s3 I3=>⟨.bl ov.isSome,H2,I3,Z,q2⟩
theorem cJ(hu:X.A.units+1<cLine)(hi:PE X i ty)(ho:PE X o td):PC X .NotIn i o (Lz ty td):=by intro pins s σ H Q I h;refine cQ (hi pins s σ H _ I h) fun iv s1 ⟨y,H1,I1,ry,q1⟩=>cQ (ho pins s1 σ H1 _ I1 q1) fun u s2 ⟨x,H2,I2,rx,a,ov,ex,g,q2⟩=>?_;subst ex;obtain rfl:u=Value.ref a:=rx;exact Nb hu I2 g ry fun s3 I3=>⟨.bl (!ov.isSome),H2,I3,Z,q2⟩
theorem ee(hu:X.A.units+1<cLine)(ho:PE X o td)(hi:PE X i ty)(hv:PE X value tv)(hs:swapsWith value (some (.Subscript o i pos')) pos.line X.env=pure false):PS X (.Assign [.Subscript o i pos'] value pos) (Tw td ty tv):=by intro pins s σ H D I h;refine wpAny_Assign_Subscript (cQ (hv pins s σ H _ I h) fun r s1 ⟨v,H1,I1,rv,q1⟩=>cQ (ho pins s1 σ H1 _ I1 q1) fun u s2 ⟨x,H2,I2,rx,q2⟩=>cQ (hi pins s2 σ H2 _ I2 q2) fun iv s3 ⟨y,H3,I3,ry,a,H4,ex,g,q3⟩=>?_) hs;subst ex;obtain rfl:u=Value.ref a:=rx;exact Ga hu I3 g ry rv fun s4 I4=>⟨σ,H4,I4,q3⟩
end
theorem K7(h:Heap)(hb:sysModules<h.objs.size):cj P w H (h.push {cls:= .type "dict",data:= .dict #[]}) h.objs.size (.dK []):=⟨ajo _,ajt.mpr (ajC (ajB hb)),[],.nil,Heap.DictOf.new h⟩
theorem Ab(h:Heap)(hb:sysModules<h.objs.size):cj P w H (h.push {cls:= .type "dict",data:= .dict #[]}) h.objs.size (.dT []):=⟨ajo _,ajt.mpr (ajC (ajB hb)),[],.nil,_,#[],0,aje _ rfl,⟨rfl,rfl,rfl⟩,rfl,rfl,ako⟩
def PD:TE:=fun _ H Q=>∀p,H p=none->Q (.ref p) (upd H p (.dK []))
def PB:TE:=fun _ H Q=>∀p,H p=none->Q (.ref p) (upd H p (.dT []))
section
variable{pos:Pos}
theorem nq:PE X (.Dict [] [] pos) PD:=fun pins s σ H Q I h=>
 wpAny_Dict_empty ⟨.ref s.heap.objs.size,_,I.laid (a:=s.heap.objs.size) (o:= .dK []) (t':=s.toks) (fun _ _ q=>aiX _ q) (ai2 _) (K7 s.heap I.big),rfl,h _ (I.bK.fresh (ai2 _))⟩
theorem iB:PE X (.Dict [] [] pos) PB:=fun pins s σ H Q I h=>
 wpAny_Dict_empty ⟨.ref s.heap.objs.size,_,I.laid (a:=s.heap.objs.size) (o:= .dT []) (t':=s.toks) (fun _ _ q=>aiX _ q) (ai2 _) (Ab s.heap I.big),rfl,h _ (I.bK.fresh (ai2 _))⟩
end
structure M2(X:Cx)(o:Expr)(m:Str)(apos:Pos)(e f:Expr)(kG:Pos):Prop where
 base:attributeBase o m X.env (eval o X.env)=eval o X.env
 fD:((backTo kG (starEach [e,f] X.env)).all (fun x=> !x.1)&&(backToKw kG (keywordEach [] X.env)).all (fun x=>x.1.isSome)
  &&decide (([e,f]:List Expr).length+([]:List Keyword).length+(if([]:List Keyword).isEmpty then 0 else 1)<30))=true
 line:(apos.endLine==kG.line)=true
 trees:backTo kG (starEach [e,f] X.env)=[(false,eval e X.env),(false,eval f X.env)]
theorem Ja{pins:List (Addr×Obj)}{σ:St}{H:Hp}{s:Shared}(I:aV H s):∀{ps:List Addr} {aP:List (Key×V)},Paired (fun p kv=>gF X.K H p [kV kv.1,kv.2]) ps aP->∃jx:List (Key×Value),KV aP jx/\jx.length=ps.length/\∀(j:Nat) (q:Key×Value),jx[j]?=some q->∃(b:Addr) (u:Value),ps[j]?=some b/\IsTup s.heap b #[u,q.2]/\oO q.1 u=true
 |_,_,.nil=>⟨[],.nil,rfl,fun j q e=>by simp at e⟩
 |_,_,.cons (a:=p) (b:=kv) h t=>by
  obtain⟨jx,r,hl,hp⟩:=Ja I t;obtain⟨bE,rv,ht,_⟩:=I.tuple h;obtain⟨u,y,ei,ru,ry⟩:=vals2 rv;subst ei;refine⟨(kv.1,y)::jx,.cons ⟨Z,ry⟩ r,by rw[ajc,ajc,hl],fun j q e=>?_⟩;cases j with
  |zero=>
   have e':(kv.1,y)=q:=ajr e;subst e';exact⟨p,u,Z,ht,wJ (P:=X.prog) (w:=X.w) ru⟩
  |succ j=>
   obtain⟨b,u',e1,e2,e3⟩:=hp j q (by simpa using e);exact⟨b,u',by simpa using e1,e2,e3⟩
theorem Inv.Lw(I:aV H s)(k:∀b o,b∉ch->s.heap.get? b=some o->h'.get? b=some o)(hf:∀b∈ch,rQ X pins H b):aV H {s with heap:=h',toks:=t'}:=by
 have OQ:∀b u,H b=some u->b∉ch:=(fun b u e z=>by have q:=(hf b z).1;rw[q]at e;cases e);refine I.step (g':=s.gens) (d':=s.drawn) (ch:=ch) (fun b hb=>⟨(hf b hb).2.2.2.1,(hf b hb).2.1,(hf b hb).2.2.2.2.1,(hf b hb).2.2.2.2.2⟩) (fun b o _ _ hc e _=>k b o hc e) (fun b o _ _ hc e _=>⟨o.slots,k b o hc e⟩) (fun _ _ _ _ n=>n) (fun b o hc e=>⟨o,k b o hc e⟩) (fun _ _ e=>e) (fun _ _ _ e=>e) (fun b ps e=>⟨#[],by rw[e];simp⟩) (fun m hm=>?_) (fun b u e=>?_) I.bare
 .obtain⟨o,es,ep,ho,r⟩:=hm;exact⟨o,es,ep,k _ o (fun z=>(hf _ z).2.1 rfl) ho,r⟩
 .refine(I.bK b u e).ql (fun c v hc q=>k c v ?_ q) (fun _ q=>q) fun _ _ q=>q;rcases hc with z|z
  .rw[z];exact OQ b u e
  .exact OQ c _ z
theorem Inv.vb{T:Addr}(I:aV H s)(k:∀b o,b∉ch->s.heap.get? b=some o->h'.get? b=some o)(hf:∀b∈ch,rQ X pins H b)(hT:s.heap.objs.size<=T) (new:cj X.prog X.w (upd H T ob) h' T ob):aV (upd H T ob) {s with heap:=h',toks:=t'}:=by
 have hn:H T=none:=I.bK.fresh hT;have OQ:∀b u,H b=some u->b∉ch:=(fun b u e z=>by have q:=(hf b z).1;rw[q]at e;cases e);refine I.step (g':=s.gens) (d':=s.drawn) (ch:=ch) (fun b hb=>⟨(hf b hb).2.2.2.1,(hf b hb).2.1,(hf b hb).2.2.2.2.1,(hf b hb).2.2.2.2.2⟩) (fun b o _ _ hc e _=>k b o hc e) (fun b o _ _ hc e _=>⟨o.slots,k b o hc e⟩) (fun b o _ e n=>?_) (fun b o hc e=>⟨o,k b o hc e⟩) (fun b xs e=>?_) (fun b o u e=>?_) (fun b ps e=>⟨#[],?_⟩) (fun m hm=>?_) (fun b u e=>?_) I.bare
 .rw[aB (ajB (ajx (ajf e) hT))];exact n
 .rw[aB (aG e hn)];exact e
 .rw[aB (aG e hn)];exact e
 .rw[aB (aG e hn),e];simp
 .obtain⟨o,es,ep,ho,r⟩:=hm;exact⟨o,es,ep,k _ o (fun z=>(hf _ z).2.1 rfl) ho,r⟩
 .by_cases hb:b=T
  .subst hb;rw[aA]at e;cases e;exact new
  .rw[aB hb]at e;refine(I.bK b u e).ql (fun c v hc q=>k c v ?_ q) (fun c q=>by rw[aB (aG q hn)];exact q) fun c xs q=>by rw[aB (aG q hn)];exact q
   rcases hc with z|z
   .rw[z];exact OQ b u e
   .exact OQ c _ z
theorem Inv.lock{u:HO}(I:aV H s)(h:H d=some u)(mu:Np (some u)):∃od,aV (upd H d (.br od u)) s:=by
 have x:=I.bK d u h;have ex:∃od,s.heap.get? d=some od:=by
  cases u with
  |lst xs=>obtain⟨_,_,_,_,e⟩:=x;exact⟨_,e⟩
  |dK aP=>obtain⟨_,_,_,_,o,_,_,e,_⟩:=x;exact⟨o,e⟩
  |dT aP=>obtain⟨_,_,_,_,o,_,_,e,_⟩:=x;exact⟨o,e⟩
  |set S n=>obtain⟨o,_,_,_,e,_⟩:=x;exact⟨o,e⟩
  |ins C dx fs=>obtain⟨_,_,_,e,_⟩:=x;exact⟨_,e⟩
  |ext φ=>obtain⟨_,⟨_,e⟩,_⟩:=x;exact⟨_,e⟩
  |_=>exact False.elim mu
 obtain⟨od,e⟩:=ex;have new:cj X.prog X.w (upd H d (.br od u)) s.heap d (.br od u):=by
  refine⟨e,x.ql (fun b v _ q=>q) (fun b q=>?_) fun b xs q=>?_⟩
  .rw[aB (fun z=>by rw[z,h]at q;cases q;exact mu)];exact q
  .rw[aB (fun z=>by rw[z,h]at q;cases q;exact mu)];exact q
 exact⟨od,I.write (x:=d) (e:=d) (t':=s.toks) (h':=s.heap) (by rw[h];exact mu) (.inl rfl) (fun b v _ q=>q) ⟨od,e⟩ new⟩
theorem Inv.wC{u:HO}(I:aV H s)(h:H d=some u)(mu:Np (some u)):∀o' u',X.Gx d≠some (.br o' u'):=fun o' u' e=>by have q:=I.base.uF d o' u' e;rw[h]at q;cases q;exact mu
theorem Inv.unlock{u:HO}(I:aV H s)(h:H d=some (.br od u))(hn:∀o' u',X.Gx d≠some (.br o' u')):aV (upd H d u) s:=by
 have SJ:∀b o,H b=some o->(∀o' u',o≠ .br o' u')->b≠d:=(fun b o e jZ z=>by rw[z,h]at e;cases e;exact jZ _ _ rfl);have neN:∀b,H b=none->b≠d:=(fun b e z=>by rw[z,h]at e;cases e);refine⟨I.ok,I.os,I.bare,⟨I.base.keep,I.base.slot,fun b o e n hx=>?_,I.base.there,fun b xs e=>?_,fun b o x e=>?_,fun b ps e=>?_⟩,I.loc,I.cell,?_,fun x c e=>?_,fun p hp=>?_,fun b o e=>?_,I.len⟩
 .rw[aB (neN b (I.base.free b o e n hx))];exact I.base.free b o e n hx
 .have q:=I.base.xH b xs e;rw[aB (SJ b _ q (fun _ _ z=>nomatch z))];exact q
 .have q:=I.base.uF b o x e;rw[aB (fun z=>by rw[z]at e;exact hn _ _ e)];exact q
 .obtain⟨m,q⟩:=I.base.qk b ps e;exact⟨m,by rw[aB (SJ b _ q (fun _ _ z=>nomatch z))];exact q⟩
 .rw[aB (neN _ I.free)];exact I.free
 .rw[aB (neN c (I.iH x c e))];exact I.iH x c e
 .obtain⟨e,n,r⟩:=I.pin p hp;exact⟨e,by rw[aB (neN _ n)];exact n,r⟩
 .by_cases hb:b=d
  .rw[hb,aA]at e;cases e;rw[hb];obtain⟨_,x⟩:=I.bK d _ h;exact x.ql (fun c v _ q=>q) (fun c q=>by rw[aB (SJ c _ q (fun _ _ z=>nomatch z))];exact q) fun c xs q=>by rw[aB (SJ c _ q (fun _ _ z=>nomatch z))];exact q
  .rw[aB hb]at e;exact(I.bK b o e).ql (fun c v _ q=>q) (fun c q=>by rw[aB (SJ c _ q (fun _ _ z=>nomatch z))];exact q) fun c xs q=>by rw[aB (SJ c _ q (fun _ _ z=>nomatch z))];exact q
def TU(t:TS):TS:=fun D σ H=>∃d u,H d=some u/\Np (some u)/\∀od,t ⟨fun σ' H'=>H' d=some (.br od u)/\D.nx σ' (upd H' d u),fun v H'=>H' d=some (.br od u)/\D.rt v (upd H' d u),fun σ' H'=>H' d=some (.br od u)/\D.bk σ' (upd H' d u),fun σ' H'=>H' d=some (.br od u)/\D.ct σ' (upd H' d u)⟩ σ (upd H d (.br od u))
def O8(t:TE):TE:=fun σ H Q=>∃d u,H d=some u/\Np (some u)/\∀od,t σ (upd H d (.br od u)) fun v H'=>H' d=some (.br od u)/\Q v (upd H' d u)
theorem gZ{st:Stmt}{t:TS}(h:PS X st t):PS X st (TU t):=by
 intro pins s σ H D I hw;obtain⟨d,u,hd,mu,hw⟩:=hw;obtain⟨od,I1⟩:=I.lock hd mu;refine cQ (h pins s σ _ _ I1 (hw od)) fun f s1 q=>?_;cases f with
 |next=>obtain⟨σ',H',I2,e,q⟩:=q;exact⟨σ',_,I2.unlock e (I.wC hd mu),q⟩
 |brk=>obtain⟨σ',H',I2,e,q⟩:=q;exact⟨σ',_,I2.unlock e (I.wC hd mu),q⟩
 |cont=>obtain⟨σ',H',I2,e,q⟩:=q;exact⟨σ',_,I2.unlock e (I.wC hd mu),q⟩
 |ret v=>obtain⟨x,σ',H',I2,r,e,q⟩:=q;exact⟨x,σ',_,I2.unlock e (I.wC hd mu),r,q⟩
theorem jQ{t:TE}(h:PE X e t):PE X e (O8 t):=by intro pins s σ H Q I hw;obtain⟨d,u,hd,mu,hw⟩:=hw;obtain⟨od,I1⟩:=I.lock hd mu;refine cQ (h pins s σ _ _ I1 (hw od)) fun v s1 ⟨x,H1,I2,r,e2,q⟩=>?_;exact⟨x,_,I2.unlock e2 (I.wC hd mu),r,q⟩
theorem xn{R:It->Hp->Prop}{J:It}{tn:Nat->Heap->Prop}{tk:Nat}(I:aV H s)(o:Obj) (T:Turn X.prog X.w X.K tg J [s.heap.objs.size] s.heap.objs.size tn)(st:tn 0 (s.heap.push o))(q:R J H):PIE X pins σ tg R (.ref s.heap.objs.size) {s with heap:=s.heap.push o,toks:=tk}:=by refine⟨s.heap.objs.size,[s.heap.objs.size],tn,J,H,rfl,I.kept fun b ob e=>aiX _ e,T,st,fun b hb=>?_,q⟩;have e:b=s.heap.objs.size:=(by simpa using hb);subst e;exact I.Kx (ai2 _) (I.bK.fresh (ai2 _))
def S0(lo c:Int)(n:Nat):It:=⟨fun i _=>i<n,fun i H x H'=>H'=H/\x= .int (lo+(i:Nat)*c),fun i _=>n<=i⟩
theorem yz{K:W.Frag}(it:Addr)(lo c:Int)(n:Nat):Turn P w K tg (S0 lo c n) [it] it (fun i h=>IsRangeIter h it (lo+(i:Nat)*c) ((n:Int)-(i:Nat)) c)where
 mem:=by simp
 obj:=fun i h st b hb=>by have e:b=it:=(by simpa using hb);subst e;exact⟨_,st,fun v z=>nomatch z⟩
 keep:=fun i h h' st k=>k it (by simp) _ st
 item:=by intro X hP hw hK hc i pins s σ H E I hf st hg;subst hP hw hK;obtain⟨f0,f1,f2,f3,f4,f5⟩:=hf it (by simp);have W:=Walks.range (prog:=X.prog) (w:=X.w) (I.ok.hd hc) it lo c n;refine W.item i s _ _ hg st fun v h' tk hv mS kk=>?_;obtain⟨t,rfl⟩:=hv;have I1:aV H {s with heap:=h',toks:=tk}:=I.turned (fun b o hb e=>kk b o (by simpa using hb) e) f0 f1 f3 f4 f5;exact⟨_,rfl,we (s:={s with heap:=h',toks:=tk}) (n:="range_iterator") mS rfl rfl (by decide) ⟨.int (lo+(i:Nat)*c),H,I1,⟨t,rfl⟩,⟨rfl,rfl⟩,mS,fun b hb=>(hf b hb).1⟩⟩
 done:=by intro X hP hw hK hc i pins s σ H E I hf st hg;subst hP hw hK;obtain⟨f0,f1,f2,f3,f4,f5⟩:=hf it (by simp);exact ane (I.ok.hd hc) st (by have:n<=i:=hg;omega) fun h' eb=>⟨Z,I.turned (t':=s.toks) (fun b o hb e=>eb b o hb e) f0 f1 f3 f4 f5⟩
 self:=fun A i s Q E st h=>anf st h
def RgC(i j c:Int)(n:Nat):Prop:=c≠0/\c.natAbs<1073741824/\Builtin.Range.small i j c=true/\Builtin.Range.rangeSize i j c=n
def Uo(ta:TA):TI:=fun σ H R=>ta σ H fun vs H1=>∃(i j c:Int) (n:Nat),vs=[.int i,.int j,.int c]/\RgC i j c n/\R (S0 i c n) H1
theorem vx{a b:Expr}{ta:TA}{pos:Pos}(hg:Gl X "range")(hm:X.mg "range"=none)(ha:PA X [a,b,c] ta) (hs:starEach [a,b,c] X.env=(false,eval a X.env)::starEach [b,c] X.env:=by rfl)(mI:(backTo pos (starEach [b,c] X.env)).any (·.1)=false:=by rfl):PI X tg (.Call (.Name "range" p) [a,b,c] [] pos) (Uo ta):=by
 intro pins s σ H R I h;refine Call_ (kx I hg hm boot_range (alf (cQ (ha pos pins s σ H _ I h) fun us s1 ⟨vs,H1,I1,r1,q1⟩=>?_) hs mI));obtain⟨i,j,k,n,e,⟨c0,c1,c2,c3⟩,q⟩:=q1;subst e;cases r1 with
 |cons r rr=>
  cases rr with
  |cons r' rr=>
   cases rr with
   |cons r'' rr=>
    cases rr;obtain⟨t,rfl⟩:=r;obtain⟨t',rfl⟩:=r';obtain⟨t'',rfl⟩:=r'';refine call_range_3 c0 ?_ (.inl (PyProof.noPylong_small c1));refine wpAny_pyIter_range (IsRange.new ..) c2 ?_;have I2:aV H1 {s1 with heap:=s1.heap.push {cls:= .type "range",data:= .fields #[.int i t,.int j t',.int k t'']}}:=I1.kept (t':=s1.toks) fun b o e=>aiX _ e;refine xn (tk:=s1.toks) I2 _ (yz _ i k n) ?_ q;have e1:i+((0:Nat):Int)*k=i:=(by simp);have e2:(n:Int)-((0:Nat):Int)=Builtin.Range.rangeSize i j k:=(by rw[c3];simp);show IsRangeIter _ _ (i+((0:Nat):Int)*k) ((n:Int)-((0:Nat):Int)) k;rw[e1,e2];exact aje _ rfl
theorem Cu{lo c:Int}{tb:TS}{D:Ends}(Pv:Nat->St->Hp->Prop)(h0:Pv 0 σ H) (hs:∀i σ H,i<n->Pv i σ H->g (.int (lo+(i:Nat)*c)) σ H fun σ2 H2=>tb {D with nx:=Pv (i+1),ct:=Pv (i+1),bk:=D.nx} σ2 H2)(hd:∀σ H,Pv n σ H->D.nx σ H):∃W:Nat->Nat->St->Hp->Prop,(∃m,W 0 m σ H)/\∀i m σ H,W i m σ H->((S0 lo c n).stop i H/\D.nx σ H)\/((S0 lo c n).go i H/\∃N:St->Hp->Prop,(∀σ' H',N σ' H'->∃m',m'<m/\W (i+1) m' σ' H')/\∀x H',(S0 lo c n).HV i H x H'->g x σ H' fun σ2 H2=>tb {D with nx:=N,ct:=N,bk:=D.nx} σ2 H2):=by
 refine⟨fun i m σ H=>m=n-i/\i<=n/\Pv i σ H,⟨n,by simp,ajo _,h0⟩,?_⟩;rintro i m σ H ⟨rfl,hi,p⟩;by_cases fC:i<n
 .refine .inr ⟨fC,Pv (i+1),fun σ' H' p'=>⟨n-(i+1),by omega,Z,fC,p'⟩,fun x H' y=>?_⟩;obtain⟨e,y⟩:=y;subst e y;exact hs i σ _ fC p
 .have e:i=n:=(by omega);subst e;exact .inl ⟨ai2 _,hd σ H p⟩
theorem pW(hd:(d==sysModules)=false)(ho:s.heap.get? d=some o)(hc:o.ExactDict)(Vv:o.data= .dict es ep) (hQ:Q (.ref s.heap.objs.size) {s with heap:=s.heap.push {cls:= .type "dict_keyiterator",data:= .fields #[.ref d,.int 0 0,.int es.size 0,.int ep 0]}}):wpAny (model prog w) A (pyIter (.ref d)) Q E s:=by have hT:s.TypeIs (.ref d) "dict":=⟨o,ho,hc.1⟩;refine alV hT F.slot_dict_iter (akh F.slot_dict_iter hT F.entry_dict_iter ?_ (F.args_dict_iter_1 _));unfold Builtin.«dict.__iter__»;refine aiR ?_;unfold Builtin.Dict.dictSlotNone;refine aiR (wpAny_notOrdered_dict hT ?_);show wpAny _ _ (pure (Value.ref d)) _ _ s;refine ai4 ?_;show wpAny _ _ (Builtin.Dict.showsAll d>>=_) _ _ s;unfold Builtin.Dict.showsAll;rw[ai0 (by rw[hd];exact ajg)];refine aiR (ai4 ?_);refine aiR (amy ho Vv ?_);refine aiR (amR ho Vv ?_);refine aiR (akf (ai4 ⟨_,Z,"dict_keyiterator",_,⟨_,aje _ rfl,Z⟩,akq.lookup,?_⟩));simpa [rawInt]using hQ
theorem mC{en:DictEntry}{Q:Option Value->Shared->Prop}(hit:s.heap.IsKeyIter it d i n ep)(EW:s.heap.get? d=some od)(NM:od.data= .dict es ep) (hsz:es.size=n)(hx:es[i]?=some en)(hQ:∀h',h'.IsKeyIter it d (i+1) n ep->Heap.SameBut it s.heap h'->Q (some en.key) {s with heap:=h'}):wpAny (model prog w) A (pyNext (.ref it)) Q E s:=by
 obtain⟨o,ho,hc,hd⟩:=id hit;unfold pyNext;refine aiR (alu (akF (name:=Str.ofString "__next__") hit.typeIs akq (akh akq hit.typeIs amQ ?_ (amN _))));refine aiR (ai4 ?_);refine aiR ?_;refine aiR ?_
 first|refine aiR (ak6 hit.typeIs (ai4 ?_))|refine aiR (als hit.typeIs (ai4 ?_))
 refine aiR (amY ho hd ?_);have Qo:Builtin.Dict_items.ownsTuple "dict_keyiterator"=false:=(by decide);simp only[Qo,akr,ali];show wpAny _ _ (if(Value.ref d==Value.none)=true then _ else _) _ _ s;rw[ai0 (show¬((Value.ref d==Value.none)=true)from ajg)];refine aiR (ai4 ?_);refine aiR (amy EW NM ?_);rw[ai0 (by rw[hsz];simp)];refine aiR (ai4 ?_);refine aiR (amR EW NM ?_);rw[ai0 (by simp)];refine ai4 ?_;obtain⟨Ci,hen⟩:=Array.getElem?_eq_some_iff.mp hx;simp only[show¬((i:Int)<0)from by omega,ali,alI,ajU Ci];refine aiR ?_
 first|refine aiR (ak6 hit.typeIs (ai4 ?_))|refine aiR (als hit.typeIs (ai4 ?_))
 refine aiR (wpAny_isOneOf_keyiter hit.typeIs ?_);show wpAny _ _ (setField (.ref it) 1 (rawInt ((i:Int)+1))>>=_) _ _ s;refine aiR (ak2 ho hd (by simp) ?_);have GK:(s.heap.update it (Obj.mapFields (·.setIfInBounds 1 (rawInt ((i:Int)+1))))).IsKeyIter it d (i+1) n ep:=⟨_,akl _ ho (Obj.isFreed_of_fields (Obj.data_mapFields hd _)),(Obj.cls_mapFields ..).trans hc,by rw[Obj.data_mapFields hd];simp[rawInt]⟩;refine aiR (aku ?_);refine aiR (wpAny_isOneOf_keyiter (s:={s with heap:=s.heap.update it (Obj.mapFields (·.setIfInBounds 1 (rawInt ((i:Int)+1))))}) GK.typeIs ?_);show wpAny _ _ (pure es[i].key) _ _ _;rw[hen];exact ai4 (ai4 ⟨_,Z,ai4 (hQ _ GK (ajS ..))⟩)
theorem jU{Q:Option Value->Shared->Prop}(hh:A.handled=none)(hit:s.heap.IsKeyIter it d i n ep)(EW:s.heap.get? d=some od)(NM:od.data= .dict es ep) (hsz:es.size=n)(yF:n<=i)(hQ:∀h',Heap.ExtBut it s.heap h'->Q none {s with heap:=h'}):wpAny (model prog w) A (pyNext (.ref it)) Q E s:=by
 obtain⟨o,ho,hc,hd⟩:=id hit;unfold pyNext;refine aiR (alu (akF (name:=Str.ofString "__next__") hit.typeIs akq (akh akq hit.typeIs amQ ?_ (amN _))));refine aiR (ai4 ?_);refine aiR ?_;refine aiR ?_
 first|refine aiR (ak6 hit.typeIs (ai4 ?_))|refine aiR (als hit.typeIs (ai4 ?_))
 refine aiR (amY ho hd ?_);have Qo:Builtin.Dict_items.ownsTuple "dict_keyiterator"=false:=(by decide);simp only[Qo,akr,ali];show wpAny _ _ (if(Value.ref d==Value.none)=true then _ else _) _ _ s;rw[ai0 (show¬((Value.ref d==Value.none)=true)from ajg)];refine aiR (ai4 ?_);refine aiR (amy EW NM ?_);rw[ai0 (by rw[hsz];simp)];refine aiR (ai4 ?_);refine aiR (amR EW NM ?_);rw[ai0 (by simp)];refine ai4 ?_;have aax:es.size<=i:=(by rw[hsz];exact yF);simp only[show¬((i:Int)<0)from by omega,ali,alI,ak8 aax];refine aiR ?_
 first|refine aiR (ak6 hit.typeIs (ai4 ?_))|refine aiR (als hit.typeIs (ai4 ?_))
 show wpAny _ _ (setField (.ref it) 0 .none>>=_) _ _ s;refine aiR (ak2 ho hd (by simp) ?_);show wpAny _ _ (newExc (.type "StopIteration") []>>=_) _ _ _;refine aiR ?_;simp only[newExc,newTuple];refine aiR (akf ?_ (by size_fits));refine aiR (m:=firstArgMember _ _) (amg (a:=Value.none) (by first|rfl|(simp only[firstArgMember];rfl)) ?_);refine akf ?_ (by size_fits);simp only[raiseNew];refine aiR (am8 ?_);rw[show A.in1.handled=none from hh];refine aiR (ai4 (wpAny_throw ?_));refine aiR (alY (T:="StopIteration") (b:=true) ⟨_,aje _ rfl,Z⟩ am0 ?_);exact ai4 (hQ _ (((ajS ..).extBut.push _).push _))
theorem J6{aP:List (κ×V)}{vs:List (κ×Value)}(h:KV aP vs):∀{i:Nat} {k:κ} {v:V},aP[i]?=some (k,v)->∃u,vs[i]?=some (k,u)/\RelV v u:=by
 unfold KV at h
 induction h with
 |nil=>intro i k v e;simp at e
 | @cons a b l₁ l₂ r t ih=>
  intro i k v e;cases i with
  |zero=>
   simp only[alC,amA]at e;subst e;refine⟨b.2,?_,r.2⟩;simp only[alC];exact akc some (ami r.1.symm rfl)
  |succ j=>
   simp only[al1]at e⊢;exact ih e
theorem aR{β:Type}{G:α->β->Prop}{l₁:List α}{l₂:List β}(h:Paired G l₁ l₂):∀{i:Nat} {a:α},l₁[i]?=some a->∃b,l₂[i]?=some b/\G a b:=by
 induction h with
 |nil=>intro i a e;simp at e
 | @cons a b l₁ l₂ r t ih=>
  intro i a' e;cases i with
  |zero=>
   simp only[alC,amA]at e;subst e;exact⟨b,Z,r⟩
  |succ j=>
   simp only[al1]at e⊢;exact ih e
theorem JL{k:Key}(h:oO k u=true):RelV (kV k) u:=by
 rcases cI h with⟨i,t,rfl,rfl⟩|⟨x,t,rfl,rfl⟩
 .exact⟨t,Z⟩
 .exact⟨t,Z⟩
theorem Inv.GS{aP:List (Key×V)}(I:aV H s)(h:H d=some (.br o (.dK aP))):(d==sysModules)=false/\s.heap.get? d=some o/\o.ExactDict/\∃(es:Array DictEntry) (ep:Nat) (vs:List (Key×Value)),o.data= .dict es ep/\es.size=aP.length/\KV aP vs/\s.heap.DictAt (cy X.prog X.w) d vs ep:=by obtain⟨hd,z,hs,vs,kv,o',es,ep,ho,hx,lA,r⟩:=I.bK d _ h;rw[hd]at ho;cases ho;refine⟨hs,hd,hx,es,ep,vs,lA,?_,kv,o,es,hd,hx,lA,r⟩;have l1:=r.2.1.length;have l2:aP.length=vs.length:=Paired.length kv;rw[ajv]at l1;omega
theorem Inv.RR(I:aV H s)(h:H d=some (.br o (.dT aP))):(d==sysModules)=false/\s.heap.get? d=some o/\o.ExactDict/\∃(es:Array DictEntry) (ep:Nat),o.data= .dict es ep/\es.size=aP.length/\∀(i:Nat) (k:List Key) (v:V),aP[i]?=some (k,v)->∃(en:DictEntry) (q:Addr),es[i]?=some en/\en.key= .ref q/\H q=some (.tup (k.map kV)):=by
 obtain⟨hd,z,hs,xs,pr,o',es,ep,ho,hx,lA,he,_⟩:=I.bK d _ h;rw[hd]at ho;cases ho;refine⟨hs,hd,hx,es,ep,lA,?_,fun i k v e=>?_⟩
 .have l1:es.size=xs.length:=size_of_entries he;have l2:aP.length=xs.length:=Paired.length pr;omega
 .obtain⟨b,hb,e1,e2,_⟩:=aR pr e;have q:=entry_at he i;rw[hb]at q;exact⟨_,b.2.1,q,Z,e2⟩
def Sz(d:Addr)(o:Obj)(aP:List (Key×V)):It:=⟨fun i H=>H d=some (.br o (.dK aP))/\i<aP.length,fun i H x H'=>H'=H/\∃k v,aP[i]?=some (k,v)/\x=kV k,fun i H=>H d=some (.br o (.dK aP))/\aP.length<=i⟩
def DJ(d:Addr)(o:Obj)(aP:List (List Key×V)):It:=⟨fun i H=>H d=some (.br o (.dT aP))/\i<aP.length,fun i H x H'=>H'=H/\∃(k:List Key) (v:V) (q:Addr),aP[i]?=some (k,v)/\x= .ref q/\H q=some (.tup (k.map kV)),fun i H=>H d=some (.br o (.dT aP))/\aP.length<=i⟩
def Ry(d:Addr)(o:Obj)(aP:List (Key×V)):It:=⟨fun i H=>H d=some (.br o (.dK aP))/\i<aP.length,fun i H x H'=>H'=H/\∃k,aP[i]?=some (k,x),fun i H=>H d=some (.br o (.dK aP))/\aP.length<=i⟩
theorem lZ{wk:Array DictEntry}{HK:Nat}(h:o.data= .dict es ep)(h':o.data= .dict wk HK):wk=es/\HK=ep:=by rw[h]at h';cases h';exact⟨Z,Z⟩
section
variable{K:W.Frag}
theorem FI{aP:List (Key×V)}(it:Addr)(EW:o.data= .dict es ep):Turn P w K tg (Sz d o aP) [it] it (fun i h=>h.IsKeyIter it d i aP.length ep)where
 mem:=by simp
 obj:=fun i h st b hb=>by have e:b=it:=(by simpa using hb);subst e;obtain⟨oi,e,c,dd⟩:=st;exact⟨oi,e,fun v z=>by rw[dd]at z;cases z⟩
 keep:=fun i h h' st k=>st.at fun oi e=>k it (by simp) oi e
 item:=by intro X hP hw hK hc i pins s σ H E I hf st hg;subst hP hw hK;obtain⟨hd,hi⟩:=hg;obtain⟨f0,f1,f2,f3,f4,f5⟩:=hf it (by simp);obtain⟨hs,wV,hx,wk,HK,vs,lA,hsz,kv,hm⟩:=I.GS hd;obtain⟨rfl,rfl⟩:=lZ EW lA;obtain⟨⟨k,v⟩,lX⟩:∃p,aP[i]?=some p:=⟨aP[i],aiW hi⟩;obtain⟨u,hu,ru⟩:=J6 kv lX;have hl:aP.length=vs.length:=Paired.length kv;rw[hl]at st;refine wpAny_pyNext_dict_item st hm hu fun key h' qz mS sb=>?_;have I1:aV H {s with heap:=h'}:=I.turned (t':=s.toks) (fun b ob hb e=>(sb.2 b hb).trans e) f0 f1 f3 f4 f5;obtain⟨oi,e,c,dd⟩:=id mS;refine⟨key,rfl,we (s:={s with heap:=h'}) e c dd (by decide) ⟨kV k,H,I1,JL (show oO k key=true from qz),⟨rfl,k,v,lX,rfl⟩,?_,fun b hb=>(hf b hb).1⟩⟩;show h'.IsKeyIter it d (i+1) aP.length _;rw[hl];exact mS
 done:=by intro X hP hw hK hc i pins s σ H E I hf st hg;subst hP hw hK;obtain⟨hd,hi⟩:=hg;obtain⟨f0,f1,f2,f3,f4,f5⟩:=hf it (by simp);obtain⟨hs,wV,hx,wk,HK,vs,lA,hsz,kv,hm⟩:=I.GS hd;obtain⟨rfl,rfl⟩:=lZ EW lA;exact jU (I.ok.hd hc) st wV lA hsz hi fun h' eb=>⟨Z,I.turned (t':=s.toks) (fun b ob hb e=>eb b ob hb e) f0 f1 f3 f4 f5⟩
 self:=fun A i s Q E st h=>wpAny_pyIter_keyiter st h
theorem BQ(it:Addr)(EW:o.data= .dict es ep):Turn P w K tg (DJ d o aP) [it] it (fun i h=>h.IsKeyIter it d i aP.length ep)where
 mem:=by simp
 obj:=fun i h st b hb=>by have e:b=it:=(by simpa using hb);subst e;obtain⟨oi,e,c,dd⟩:=st;exact⟨oi,e,fun v z=>by rw[dd]at z;cases z⟩
 keep:=fun i h h' st k=>st.at fun oi e=>k it (by simp) oi e
 item:=by intro X hP hw hK hc i pins s σ H E I hf st hg;subst hP hw hK;obtain⟨hd,hi⟩:=hg;obtain⟨f0,f1,f2,f3,f4,f5⟩:=hf it (by simp);obtain⟨hs,wV,hx,wk,HK,lA,hsz,ent⟩:=I.RR hd;obtain⟨rfl,rfl⟩:=lZ EW lA;obtain⟨⟨k,v⟩,lX⟩:∃p,aP[i]?=some p:=⟨aP[i],aiW hi⟩;obtain⟨en,q,hen,qz,hq⟩:=ent i k v lX;refine mC st wV lA hsz hen fun h' mS sb=>?_;have I1:aV H {s with heap:=h'}:=I.turned (t':=s.toks) (fun b ob hb e=>(sb.2 b hb).trans e) f0 f1 f3 f4 f5;obtain⟨oi,e,c,dd⟩:=id mS;exact⟨en.key,rfl,we (s:={s with heap:=h'}) e c dd (by decide) ⟨.ref q,H,I1,qz,⟨rfl,k,v,q,lX,rfl,hq⟩,mS,fun b hb=>(hf b hb).1⟩⟩
 done:=by intro X hP hw hK hc i pins s σ H E I hf st hg;subst hP hw hK;obtain⟨hd,hi⟩:=hg;obtain⟨f0,f1,f2,f3,f4,f5⟩:=hf it (by simp);obtain⟨hs,wV,hx,wk,HK,lA,hsz,ent⟩:=I.RR hd;obtain⟨rfl,rfl⟩:=lZ EW lA;exact jU (I.ok.hd hc) st wV lA hsz hi fun h' eb=>⟨Z,I.turned (t':=s.toks) (fun b ob hb e=>eb b ob hb e) f0 f1 f3 f4 f5⟩
 self:=fun A i s Q E st h=>by refine alV st.typeIs amV (akh amV st.typeIs F.entry_dict_keyiterator_iter ?_ (F.args_dict_keyiterator_iter_1 _));show wpAny _ _ (ret (.ref it)) _ _ s;exact ai4 ⟨_,Z,"dict_keyiterator",_,st.typeIs,akq.lookup,h⟩
theorem FG{aP:List (Key×V)}(it:Addr)(EW:o.data= .dict es ep):Turn P w K tg (Ry d o aP) [it] it (fun i h=>h.IsValIter it d i aP.length ep)where
 mem:=by simp
 obj:=fun i h st b hb=>by have e:b=it:=(by simpa using hb);subst e;obtain⟨oi,e,c,dd⟩:=st;exact⟨oi,e,fun v z=>by rw[dd]at z;cases z⟩
 keep:=fun i h h' st k=>st.at fun oi e=>k it (by simp) oi e
 item:=by intro X hP hw hK hc i pins s σ H E I hf st hg;subst hP hw hK;obtain⟨hd,hi⟩:=hg;obtain⟨f0,f1,f2,f3,f4,f5⟩:=hf it (by simp);obtain⟨hs,wV,hx,wk,HK,vs,lA,hsz,kv,hm⟩:=I.GS hd;obtain⟨rfl,rfl⟩:=lZ EW lA;obtain⟨⟨k,v⟩,lX⟩:∃p,aP[i]?=some p:=⟨aP[i],aiW hi⟩;obtain⟨u,hu,ru⟩:=J6 kv lX;have hl:aP.length=vs.length:=Paired.length kv;rw[hl]at st;refine wpAny_pyNext_values_item st hm hu fun h' mS sb=>?_;have I1:aV H {s with heap:=h'}:=I.turned (t':=s.toks) (fun b ob hb e=>(sb.2 b hb).trans e) f0 f1 f3 f4 f5;obtain⟨oi,e,c,dd⟩:=id mS;refine⟨u,rfl,we (s:={s with heap:=h'}) e c dd (by decide) ⟨v,H,I1,ru,⟨rfl,k,lX⟩,?_,fun b hb=>(hf b hb).1⟩⟩;show h'.IsValIter it d (i+1) aP.length _;rw[hl];exact mS
 done:=by intro X hP hw hK hc i pins s σ H E I hf st hg;subst hP hw hK;obtain⟨hd,hi⟩:=hg;obtain⟨f0,f1,f2,f3,f4,f5⟩:=hf it (by simp);obtain⟨hs,wV,hx,wk,HK,vs,lA,hsz,kv,hm⟩:=I.GS hd;obtain⟨rfl,rfl⟩:=lZ EW lA;have hl:aP.length=vs.length:=Paired.length kv;rw[hl]at st;exact wpAny_pyNext_values_end (I.ok.hd hc) st hm (alK (by omega)) fun h' eb=>⟨Z,I.turned (t':=s.toks) (fun b ob hb e=>eb b ob hb e) f0 f1 f3 f4 f5⟩
 self:=fun A i s Q E st h=>wpAny_pyIter_valiter st h
end
def Uq(td:TE):TI:=fun σ H R=>td σ H fun x H1=>∃d o,x= .ref d/\((∃aP,H1 d=some (.br o (.dK aP))/\R (Sz d o aP) H1)\/∃aP,H1 d=some (.br o (.dT aP))/\R (DJ d o aP) H1)
def Um(td:TE):TI:=fun σ H R=>td σ H fun x H1=>∃d o aP,x= .ref d/\H1 d=some (.br o (.dK aP))/\R (Ry d o aP) H1
theorem gc(he:PE X e td):PI X tg e (Uq td):=by
 intro pins s σ H R I h;refine cQ (he pins s σ H _ I h) fun u s1 ⟨x,H1,I1,rx,d,o,ex,q⟩=>?_;subst ex;obtain rfl:u=Value.ref d:=rx;rcases q with⟨aP,hd,q⟩|⟨aP,hd,q⟩
 .obtain⟨hs,wV,hx,es,ep,vs,lA,hsz,kv,hm⟩:=I1.GS hd;refine pW hs wV hx lA (xn (tk:=s1.toks) I1 _ (FI _ lA) ⟨_,aje _ rfl,Z,?_⟩ q);rw[hsz]<;>rfl
 .obtain⟨hs,wV,hx,es,ep,lA,hsz,ent⟩:=I1.RR hd;refine pW hs wV hx lA (xn (tk:=s1.toks) I1 _ (BQ _ lA) ⟨_,aje _ rfl,Z,?_⟩ q);rw[hsz]<;>rfl
theorem i3(he:PE X e td)(Kn:attributeBase e "values" X.env (eval e X.env)=eval e X.env:=by rfl)(KU:(apos.endLine==kG.line)=true:=by rfl):PI X tg (.Call (.Attribute e "values" apos) [] [] kG) (Um td):=by intro pins s σ H R I h;refine wpAny_Call_method (T:="dict") (id:="dict.values") Kn rfl KU F.plainAttrs_dict F.slot_dict_values F.type_dict_values (cQ (he pins s σ H _ I h) fun u s1 ⟨x,H1,I1,rx,d,o,aP,ex,hd,q⟩=>?_);subst ex;obtain rfl:u=Value.ref d:=rx;obtain⟨hs,wV,hx,es,ep,vs,lA,hsz,kv,hm⟩:=I1.GS hd;have hl:aP.length=vs.length:=Paired.length kv;refine⟨hm.dictOf.typeIs,hm.dictOf.mapOf.noDict,?_⟩;have I2:aV H1 {s1 with heap:=s1.heap.push {cls:= .type "dict_values",data:= .fields #[.ref d]}}:=I1.kept (t':=s1.toks) fun b ob q=>aiX _ q;have fin:gy (pyIter (.ref s1.heap.objs.size)) (PIE X pins σ tg R) X.xe {s1 with heap:=s1.heap.push {cls:= .type "dict_values",data:= .fields #[.ref d]}}:=(by refine wpAny_pyIter_values (d:=d) (knd:=cy X.prog X.w) ⟨_,aje _ rfl,rfl,rfl⟩ (hm.push _) (xn (tk:=s1.toks) I2 _ (FG _ lA) ⟨_,aje _ rfl,rfl,?_⟩ q);rw[hl]<;>rfl);show wpAny _ _ (callWith kG (.builtin "dict.values") [.ref d] [] []) _ X.xe s1;exact method_meetsIn F.slot_dict_values F.entry_dict_values rfl (PySem.evalArgs_none ⟨Z,hm.dictOf.typeIs,F.args_dict_values_1 _,_,meets_dict_values (cy X.prog X.w) d hs,⟨vs,hm.dictOf⟩,fin⟩)
theorem Gi:bootBuiltins "zip"=some (.type "zip"):=by decide+kernel
def Itz(K:W.Frag)(a b:Addr):It:=⟨fun i H=>∃(xs ys:List V) (x y:V),ae K H a xs/\ae K H b ys/\xs[i]?=some x/\ys[i]?=some y,fun i H v H'=>∃T x y,v= .ref T/\H T=none/\H'=upd H T (.tup [x,y])/\(∀xs,ae K H a xs->xs[i]?=some x)/\∀ys,ae K H b ys->ys[i]?=some y,fun i H=>∃xs ys:List V,ae K H a xs/\ae K H b ys/\(xs.length<=i\/ys.length<=i)⟩
theorem Hb{K:W.Frag}{z TI TO i1 i2:Addr}(D:ZipApart z TI TO i1 i2 a b):Turn P w K (.Tuple elts kk FJ) (Itz K a b) [z,TI,TO,i1,i2] z (fun i h=>IsZip h z TI TO .none/\IsPair h TI (.ref i1) (.ref i2)/\(∃x y,IsPair h TO x y)/\h.IsListIter i1 a i/\h.IsListIter i2 b i)where
 mem:=by simp
 obj:=fun i h st c hc=>by
  obtain⟨hz,Kq,⟨x,y,Lm⟩,⟨o1,e1,_,d1⟩,⟨o2,e2,_,d2⟩⟩:=st;have e':c=z\/c=TI\/c=TO\/c=i1\/c=i2:=(by simpa using hc);rcases e' with q|q|q|q|q
  .rw[q];exact⟨_,hz,fun v q=>nomatch q⟩
  .rw[q];exact⟨_,Kq,fun v q=>nomatch q⟩
  .rw[q];exact⟨_,Lm,fun v q=>nomatch q⟩
  .rw[q];exact⟨o1,e1,fun v q=>by rw[d1]at q;cases q⟩
  .rw[q];exact⟨o2,e2,fun v q=>by rw[d2]at q;cases q⟩
 keep:=fun i h h' st k=>by obtain⟨hz,Kq,⟨x,y,Lm⟩,h1,h2⟩:=st;exact⟨k z (by simp) _ hz,k TI (by simp) _ Kq,⟨x,y,k TO (by simp) _ Lm⟩,h1.at fun o q=>k i1 (by simp) o q,h2.at fun o q=>k i2 (by simp) o q⟩
 item:=by
  intro X hP hw hK hc i pins s σ H E I hf st hg;subst hP hw hK;obtain⟨hz,Kq,⟨x0,y0,Lm⟩,h1,h2⟩:=st;obtain⟨xs,ys,x,y,Sa,SY,hx,hy⟩:=hg;obtain⟨bE,rv,p,_⟩:=I.list Sa;obtain⟨jy,R9,p2,_⟩:=I.list SY;obtain⟨u,hu,ru⟩:=rv.get hx;obtain⟨u2,Zm,ru2⟩:=R9.get hy;have hzl:z<s.heap.objs.size:=ajf hz;refine wpAny_pyNext_zip_item D hz Kq Lm h1 h2 p.isList p2.isList (x:=u) (y:=u2) (by simpa using hu) (by simpa using Zm) fun h' z' TO' Kt HJ hT hsz hk=>?_;refine⟨_,rfl,wpAny_letOwnedTupleGo_zip (s:={s with heap:=h'}) z' fun Oj z'' sb=>?_⟩;have RH:Oj.get? s.heap.objs.size=some {cls:= .type "tuple",data:= .seq #[u,u2]}:=(sb.2 _ (alD hzl)).trans hT;have new:cj X.prog X.w (upd H s.heap.objs.size (.tup [x,y])) Oj s.heap.objs.size (.tup [x,y]):=⟨by show 2<=sizeLine;decide,[u,u2],.cons ru (.cons ru2 .nil),⟨_,RH,rfl,_,rfl⟩⟩;have I1:aV (upd H s.heap.objs.size (.tup [x,y])) {s with heap:=Oj}:=I.vb (t':=s.toks) (ch:=[z,TI,TO,i1,i2]) (fun c o hb q=>(sb.2 c (fun q'=>hb (by simp[q']))).trans (hk c o (fun q'=>hb (by simp[q'])) (fun q'=>hb (by simp[q'])) (fun q'=>hb (by simp[q'])) (fun q'=>hb (by simp[q'])) q)) hf (ai2 _) new;refine⟨.ref s.heap.objs.size,_,I1,Z,⟨_,x,y,Z,I.bK.fresh (ai2 _),Z,fun l hl=>by rw[I.oK hl Sa];exact hx,fun l hl=>by rw[I.oK hl SY];exact hy⟩,⟨z'',?_,⟨u,u2,?_⟩,?_,?_⟩,fun c Xk=>?_⟩
  .exact(sb.2 _ D.TIz).trans (hk _ _ D.TIz D.TITO D.TIi1 D.TIi2 Kq)
  .exact(sb.2 _ D.TOz).trans TO'
  .exact Kt.at fun o q=>(sb.2 _ D.i1z).trans q
  .exact HJ.at fun o q=>(sb.2 _ D.i2z).trans q
  .have fC:c<s.heap.objs.size:=by
    have e':c=z\/c=TI\/c=TO\/c=i1\/c=i2:=(by simpa using Xk);rcases e' with q|q|q|q|q
    .rw[q];exact hzl
    .rw[q];exact ajf Kq
    .rw[q];exact ajf Lm
    .rw[q];obtain⟨_,e1,_⟩:=h1;exact ajf e1
    .rw[q];obtain⟨_,e2,_⟩:=h2;exact ajf e2
   rw[aB (ajB fC)];exact(hf c Xk).1
 done:=by
  intro X hP hw hK hc i pins s σ H E I hf st hg;subst hP hw hK;obtain⟨hz,Kq,⟨x0,y0,Lm⟩,h1,h2⟩:=st;obtain⟨xs,ys,Sa,SY,Q9⟩:=hg;obtain⟨bE,rv,p,_⟩:=I.list Sa;obtain⟨jy,R9,p2,_⟩:=I.list SY;have l1:=rv.length;have l2:=R9.length;have he:bE.toArray[i]?=none\/jy.toArray[i]?=none:=by
   rcases Q9 with q|q
   .exact .inl (by simp;omega)
   .exact .inr (by simp;omega)
  exact wpAny_pyNext_zip_end (I.ok.hd hc) D hz Kq Lm h1 h2 p.isList p2.isList he fun h' hk=>⟨Z,I.Lw (t':=s.toks) (ch:=[z,TI,TO,i1,i2]) (fun c o hb q=>
   hk c o (fun q'=>hb (by simp[q'])) (fun q'=>hb (by simp[q'])) (fun q'=>hb (by simp[q'])) (fun q'=>hb (by simp[q'])) q) hf⟩
 self:=fun A i s Q E st h=>wpAny_pyIter_zip st.1 h
def Za(K:W.Frag)(ta:TA):TI:=fun σ H R=>ta σ H fun vs H1=>∃a b xs ys,vs=[.ref a,.ref b]/\ae K H1 a xs/\ae K H1 b ys/\R (Itz K a b) H1
theorem P4{e2:Expr}{ta:TA}{pos:Pos}(hg:Gl X "zip")(hm:X.mg "zip"=none)(ha:PA X [e,e2] ta) (hs:starEach [e,e2] X.env=(false,eval e X.env)::starEach [e2] X.env:=by rfl)(mI:(backTo pos (starEach [e2] X.env)).any (·.1)=false:=by rfl):PI X (.Tuple elts kk FJ) (.Call (.Name "zip" p) [e,e2] [] pos) (Za X.K ta):=by
 intro pins s σ H R I h;refine Call_ (kx I hg hm Gi (alf (cQ (ha pos pins s σ H _ I h) fun us s1 ⟨vs,H1,I1,r1,q1⟩=>?_) hs mI));obtain⟨a,b,xs,ys,ex,Sa,SY,q⟩:=q1;subst ex;cases r1 with
 |cons r rr=>
  cases rr with
  |cons r' rr=>
   cases rr;cases r;cases r';obtain⟨bE,rv,p1,_⟩:=I1.list Sa;obtain⟨jy,R9,p2,_⟩:=I1.list SY;have la:a<s1.heap.objs.size:=p1.lt;have lb:b<s1.heap.objs.size:=p2.lt;refine call_zip_2 p1.isList p2.isList fun h' hz Kq Lm h1 h2 hsz hk=>wpAny_pyIter_zip hz ?_;have I2:aV H1 {s1 with heap:=h'}:=I1.kept (t':=s1.toks) hk;refine⟨s1.heap.objs.size+4,[s1.heap.objs.size+4,s1.heap.objs.size+2,s1.heap.objs.size+3,s1.heap.objs.size,s1.heap.objs.size+1],_,_,H1,Z,I2,Hb (W.ktu_apart s1.heap.objs.size a b la lb),⟨hz,Kq,⟨_,_,Lm⟩,h1,h2⟩,fun c Xk=>?_,q⟩;have e':c=s1.heap.objs.size+4\/c=s1.heap.objs.size+2\/c=s1.heap.objs.size+3\/c=s1.heap.objs.size\/c=s1.heap.objs.size+1:=(by simpa using Xk);have hle:s1.heap.objs.size<=c:=by
    rcases e' with z|z|z|z|z
    .rw[z];exact ak5 _ _
    .rw[z];exact ak5 _ _
    .rw[z];exact ak5 _ _
    .rw[z];exact ai2 _
    .rw[z];exact ak5 _ _
   exact I1.Kx hle (I1.bK.fresh hle)
end L2
section
namespace TL
open PySem PySem.Builtin PySem.Builtin.Str PySem.StrLaws
abbrev tl(x:Str):List Nat:=x.cps.toList
theorem QQ(x:Str):x.length=(tl x).length:=by simp[tl,Str.length]
def pre(S l:List Nat):Bool:=l.take S.length==S
def par(S:List Nat):List Nat->List Nat->Option (List Nat×List Nat)
 |_,[]=>none
 |acc,c::r=>if pre S (c::r)=true then some (acc,(c::r).drop S.length)else par S (acc++[c]) r
theorem Ui{y:Str}(hy:tl y≠[]):1<=y.length:=by have e2:0<(tl y).length:=List.length_pos_iff.mpr hy;rw[QQ y];exact e2
end TL
end
namespace L2
open PySem PySem.Spec PyProof.Rows
variable{H H' H1 H2:Hp}{X:Cx}{N ps:List Str}{P:Program}{w:World}{mq p:Pos}{name q qual:Str}{a c f g l:Addr}{fd:FuncData}{mg:Str->Option Value}{base:Heap}{params:Arguments}{scope:Scope}{body e:Expr}{i j:Nat}{ls:List (Pos×Str)}{is:List Nat}{fv ct doc oc pm:Value}{L pins:List (Addr×Obj)}{σ:St}{s:Shared}{o:HO}{sp:Addr->Sp}{es:List Expr}{spS:Ow}{t0:TE}{an od:Option Addr}{uo:Array (Option Value)}{fvs xs:List V}{as:List Addr}{n:Nd}
def inClass(s:Stmt)(j:Nat):Stmt:=match s with
 | .ClassDef _ _ _ body _ _ _ _ _ _ _=>body.getD j (.Pass ⟨0,0,0,0⟩)
 |_=> .Pass ⟨0,0,0,0⟩
def du(s:Stmt):Arguments:=match s with
 | .FunctionDef _ a _ _ _ _ _ _ _ _=>a
 |_=>{posonlyargs:=[],args:=[],vararg:=none,kwonlyargs:=[],kw_defaults:=[],kwarg:=none,defaults:=[]}
def cX(s:Stmt):List Stmt:=match s with
 | .FunctionDef _ _ b _ _ _ _ _ _ _=>b
 |_=>[]
def aF(s:Stmt):Scope:=match s with
 | .FunctionDef _ _ _ _ _ _ sc _ _ _=>sc
 |_=>{kind:= .function,names:=[],isGenerator:=false,isCoroutine:=false}
abbrev vT:Nz:=fun _ _ _ _ _ _=>False
abbrev E0:XK:=fun _ _ _=>False
theorem JZ:qI vT X E0:=fun _ _ _ _ _ _ _ h=>h.elim
structure o3(K:W.Frag)(x qual:Str)(st:Stmt)(f:Addr)(fd:FuncData):Prop where
 ex:∃(oc:Value) (od:Option Addr) (kV doc pm:Value) (an:Option Addr) (fv ct:Value) (uo:Array (Option Value)),
  fd=W.fnOf x qual (du st) (cX st) (aF st) .none kV doc pm an fv ct/\K.lookup f=some ⟨oc,od,.func fd,uo⟩/\W.codeIn K fv qual=true
 kp:W.keepIn K (.ref f)=true
section
variable{K:W.Frag}
theorem o3.ok{x:Str}{st:Stmt}{k:Nat}{sp:Sp}(F:o3 K x qual st f fd)(S:aM N ps (aF st))(len:∀vs H Q E,sp vs H Q E->vs.length=ps.length) (lB:∀(fv:Value) (A:Around) (outer:List Env) (s:Shared) (H:Hp) (vs:List V) (Q:VK) (E:XK),cu k (A.deeper (envOfC qual (aF st) s.heap.objs.size f fv))->sp vs H Q E->∃t,BG (uR vT P w K mg base N qual (aF st) f fv A outer s H E).ON (cX st) t/\t {nx:=fun _ H'=>Q .cW H',rt:=Q} (start N vs) H):gU P w K mg base vT (k+1) f fd ps sp:=by obtain⟨oc,od,kV,doc,pm,an,fv,ct,uo,rfl,lk,uD⟩:=F.ex;refine Oo lk uD S len fun A outer s H vs Q E hr tw=>?_;obtain⟨t,h,q⟩:=lB fv A outer s H vs Q E hr tw;exact⟨t,h.ON,q⟩
theorem o3.binds{x:Str}{st:Stmt}(F:o3 K x qual st f fd) (h:∀(kV doc pm:Value) (an:Option Addr) (fv ct:Value) (us:List Value),us.length=ps.length->bindArgs (W.fnOf x qual (du st) (cX st) (aF st) .none kV doc pm an fv ct) ⟨us,[]⟩=pure (ps.zip us)):Binds K fd ps []:=by obtain⟨oc,od,kV,doc,pm,an,fv,ct,uo,rfl,lk,uD⟩:=F.ex;exact .all (h kV doc pm an fv ct)
theorem Kv{x:Str}{st:Stmt}{kV:Value}(l:K.lookup f=some ⟨oc,od,.func (W.fnOf x qual (du st) (cX st) (aF st) .none kV doc pm an fv ct),uo⟩) (c:W.codeIn K fv qual=true)(k:W.keepIn K (.ref f)=true):o3 K x qual st f (W.fnOf x qual (du st) (cX st) (aF st) .none kV doc pm an fv ct):=⟨⟨oc,od,kV,doc,pm,an,fv,ct,uo,rfl,l,c⟩,k⟩
end
theorem bu{A:Around}{k:Nat}(hr:cu k A):A.units+1<cLine:=ajR (Nat.add_le_add_left (by decide:1<=64) _) hr.units
theorem pv(i:Nat){x:Str}{pos:Pos}(hN:X.N[i]?=some x:=by rfl)(hv:Rt X.env.scope x:=by first|exact Or.inl rfl|exact Or.inr (Or.inl rfl)|exact Or.inr (Or.inr rfl))(hd:(x==("__debug__":Str))=false:=by decide) (uD:(x==("__classdict__":Str))=false:=by decide):PE X (.Name x pos) (He i):=JV hN hv hd uD
theorem g8:mM X (.builtin "len") (fun xs H Q=>∃a aP,xs=[V.ref a]/\H a=some (.dK aP)/\Q (.int aP.length) H):=by intro pins s σ H xs us Q I r h;obtain⟨a,aP,rfl,ha,q⟩:=h;obtain⟨u,rfl,ru⟩:=vals1 r;cases ru;exact WU I (.inl ha) fun t s' I'=>⟨.int aP.length,H,I',⟨t,Z⟩,q⟩
theorem aO{c A B:Prop} [Decidable c] (h1:c->A)(h2:¬c->B):if c then A else B:=by
 by_cases h:c
 .rw[ai5 h];exact h1 h
 .rw[ai0 h];exact h2 h
def aC(H H':Hp):Prop:=∀b o,H b=some o->H' b=some o
theorem aC.refl(H:Hp):aC H H:=fun _ _ h=>h
theorem aC.trans(a:aC H H1)(b:aC H1 H2):aC H H2:=fun c o h=>b c o (a c o h)
theorem aC.free(e:aC H H')(h:H' l=Option.none):H l=Option.none:=by
 cases q:H l with
 |none=>rfl
 |some o=>
  rw[e l o q]at h;cases h
theorem aC.seq{K:W.Frag}(e:aC H H')(h:ae K H a xs):ae K H' a xs:=by
 rcases h with(h|⟨o,h⟩)|h
 .exact .inl (.inl (e _ _ h))
 .exact .inl (.inr ⟨o,e _ _ h⟩)
 .exact .inr h
theorem at_of{z:Int}{v:V}(e:z=(j:Int))(h:xs[j]?=some v):Az xs z=some v:=by rw[e];exact aS h
theorem zg{α:Type}{l:List α}(hN:l.Nodup){x:α}(a:l[i]?=some x)(b:l[j]?=some x):i=j:=by obtain⟨h1,e1⟩:=ai3.mp a;obtain⟨h2,e2⟩:=ai3.mp b;exact(List.getElem_inj hN).mp (e1.trans e2.symm)
open PySem.W (kla_obj kla_fn kla_callFunE kla_codeExpr envX)
abbrev Ow:=Shared->List Env->Sp
structure xB(P:Program)(w:World)(K:W.Frag)(mg:Str->Option Value)(base:Heap)(CX:Nz)(k:Nat)(f:Addr)(fd:FuncData)(ps:List Str)(sp:Ow):Prop where
 len:∀s outer vs H Q E,sp s outer vs H Q E->vs.length=ps.length
 run:∀(A:Around) (outer:List Env) (s:Shared) (H:Hp) (args:Args) (us:List Value) (vs:List V) (Q:VK) (E:XK),cu k A->vO P w K mg base A outer s H->BindsTo s fd args (ps.zip us)->bI vs us->sp s outer vs H Q E->
  codeAny (model P w) A (.call (.ref f) args) (CR CX outer P w H s Q E) s
theorem RS{CX:Nz}{K:W.Frag}{k:Nat}{body:List Stmt}{dV kV:Value} {sp:Ow}(lk:K.lookup f=some ⟨oc,od,.func (W.fnOf name qual params body scope dV kV doc pm an fv ct),uo⟩)(uD:W.codeIn K fv qual=true)(S:aM N ps scope) (len:∀s outer vs H Q E,sp s outer vs H Q E->vs.length=ps.length) (lB:∀(A:Around) (outer:List Env) (s:Shared) (H:Hp) (vs:List V) (Q:VK) (E:XK),cu k (A.deeper (envOfC qual scope s.heap.objs.size f fv))->sp s outer vs H Q E->∃t,BG (uR CX P w K mg base N qual scope f fv A outer s H E) body t/\t {nx:=fun _ H'=>Q .cW H',rt:=Q} (start N vs) H):xB P w K mg base CX (k+1) f (W.fnOf name qual params body scope dV kV doc pm an fv ct) ps sp:=by
 refine⟨len,fun A outer s H args us vs Q E hr e0 hb r tw=>?_⟩;have hl:=len _ _ _ _ _ _ tw;have KX:K.In s.heap:=e0.mod.SN.keeps fun b o e=>(e0.bs b o e).1;have lim:s.heap.NoLimit:=e0.mod.nolimit.keeps fun b o e=>(e0.bs b o e).1;have Kc:∀y∈ps.zip us,scope.names.lookup y.1=some .local\/(scope.names.lookup y.1=some .cell/\((cellsFrom (s.heap.objs.size+1) scope.names []).lookup y.1).isSome=true):=fun⟨n,v⟩ hy=>by
  rcases S.par n (alx hy).1 with q|q
  .exact .inl q
  .exact .inr ⟨q,amH _ _ _ (.inl q)⟩
 refine codeAny_call_function hr.depth (KX _ _ lk) rfl S.co S.gen rfl (W.codeRec_of KX uD) (hb _ _ _ _ ?_);refine amX S.kind Kc fun env he s1 x=>?_;subst he;refine⟨lim.keeps x.toInCall.keep,codeAny_func ?_⟩;obtain⟨t,ht,hq⟩:=lB A outer s H vs Q E (hr.deeper _) tw;have I:Inv (uR CX P w K mg base N qual scope f fv A outer s H E) [] (start N vs) H s1:=wN S hr.hd e0 hl r x;refine ake (ht [] s1 (start N vs) H _ I hq) (fun fl s' hs=>?_) fun e s' hs=>hs;have fin:∀{σ':St} {H':Hp} {v:V} {u:Value},Inv (uR CX P w K mg base N qual scope f fv A outer s H E) [] σ' H' s'->RelV v u->Q v H'->CE outer P w H s Q u s':=fun{σ' H' v u} J rv q=>⟨v,H',J.os,J.bare,J.base,J.bK,rv,q⟩;cases fl with
 |ret u=>
  obtain⟨v,σ',H',J,rv,q⟩:=hs;exact fin J rv q
 |next=>
  obtain⟨σ',H',J,q⟩:=hs;exact fin (v:=V.cW) (u:=Value.none) J rfl q
 |brk=>
  obtain⟨_,_,_,q⟩:=hs;exact False.elim q
 |cont=>
  obtain⟨_,_,_,q⟩:=hs;exact False.elim q
def A4(L:List (Addr×Obj))(s:Shared)(outer:List Env)(H:Hp):Prop:=∀p∈L,s.heap.get? p.1=some p.2/\H p.1=none/\p.1∉yo outer
def gW(H:Hp)(c:Addr)(q:Str):Prop:=H c=some (.ext fun h=>h.CodeRec (.ref c) q)
theorem gW.rec{h:Heap}(e:gW H c q)(ok:jq P w H h):h.CodeRec (.ref c) q:=(ok c _ e).1
def BA(P:Program)(w:World)(K:W.Frag)(mg:Str->Option Value)(base:Heap)(k:Nat)(f:Addr)(L:List (Addr×Obj))(cc:Addr)(cq:Str)(sp:Sp):Prop:=(∃oc od fd sl,(f,(⟨oc,od,.func fd,sl⟩:Obj))∈L)/\∀(A:Around) (outer:List Env) (s:Shared) (H:Hp) (us:List Value) (vs:List V) (Q:VK),cu k A->vO P w K mg base A outer s H->A4 L s outer H->gW H cc cq->bI vs us->sp vs H Q (fun _ _ _=>False)->codeAny (model P w) A (.call (.ref f) ⟨us,[]⟩) (CR (fun _ _ _ _ _ _=>False) outer P w H s Q (fun _ _ _=>False)) s
theorem Inv.F4(I:aV H s)(hx:X.ex=[])(h:A4 L X.qm X.outer X.Gx):A4 L s X.stack H:=fun p hp=>by
 obtain⟨a,b,c⟩:=h p hp;have ne:p.1∉X.ex:=(by rw[hx];simp);refine⟨I.base.keep p.1 p.2 a b c ne,I.base.free p.1 p.2 a b ne,fun z=>?_⟩;have lt:=ajf a;have ab:=I.ok.above;rcases I.ok.Td with e|⟨e,ef⟩
 .rw[e]at z;exact c z
 .rw[e]at z;unfold yo at z;rw[ajZ,ef]at z;rcases aiZ.mp z with q|q
  .exact absurd (ajx lt ab) (by rw[q];exact aj5 _)
  .exact c q
def PH(P:Program)(w:World)(K:W.Frag)(mg:Str->Option Value)(base:Heap)(k:Nat)(qm:Shared)(outer:List Env)(Gx:Hp)(i:Nat)(sp:Addr->Sp)(t:TA):TE:=fun σ H Q=>∃f L cc cq,σ[i]?=some (some (.ref f))/\A4 L qm outer Gx/\BA P w K mg base k f L cc cq (sp f)/\t σ H fun vs H1=>gW H1 cc cq/\sp f vs H1 Q (fun _ _ _=>False)
section
variable{k:Nat}{x:Str}{pos:Pos}{t:TA}
theorem JY(hr:cu k X.A)(hx:X.ex=[])(ha:PA X (e::es) t)(hN:X.N[i]?=some x:=by rfl)(hv:Rt X.env.scope x:=by first|exact Or.inl rfl|exact Or.inr (Or.inl rfl)|exact Or.inr (Or.inr rfl))(hd:(x==("__debug__":Str))=false:=by decide) (uD:(x==("__classdict__":Str))=false:=by decide)(he:starEach (e::es) X.env=(false,eval e X.env)::starEach es X.env:=by rfl)(mI:(backTo pos (starEach es X.env)).any (·.1)=false:=by rfl):PE X (.Call (.Name x p) (e::es) [] pos) (PH X.prog X.w X.K X.mg X.base k X.qm X.outer X.Gx i sp t):=by
 intro pins s σ H Q I h;obtain⟨f,L,cc,cq,hf,hL,C,h⟩:=h;obtain⟨⟨oc,od,fd,sl,hm⟩,Qe⟩:=C;refine akd (cQ (JV hN hv hd uD pins s σ H (fun v H1=>v= .ref f/\H1=H) I ⟨_,hf,Z,Z⟩) fun u s1 ⟨v,H1,I1,rv,e1,e2⟩=>?_);subst e1 e2;have eu:u= .ref f:=rv;subst eu;refine W.callWith_F ⟨oc,od,fd,sl,((I1.F4 hx hL) _ hm).1⟩ (cQ (ha pos pins s1 σ H1 _ I1 h) fun us s2 ⟨vs,H2,I2,r,qc,q⟩=>⟨⟨oc,od,fd,sl,((I2.F4 hx hL) _ hm).1⟩,?_⟩) he mI;refine alP (akH (Qe X.A X.stack s2 H2 us vs Q hr I2.K5 (I2.F4 hx hL) qc r q) fun r s' hq=>?_);cases r with
 |error e=>exact False.elim hq
 |ok fl=>
  cases fl with
  |ret u=>exact I2.after hq
  |next=>exact False.elim hq
  |brk=>exact False.elim hq
  |cont=>exact False.elim hq
end
def Ot(P:Program)(w:World)(K:W.Frag)(mg:Str->Option Value)(base:Heap)(N:List Str)(qual:Str)(scope:Scope)(f:Addr)(cd:Value)(cells:List (Str×Addr))(A:Around)(outer:List Env)(s:Shared)(H:Hp):Cx where
 prog:=P
 w:=w
 K:=K
 mg:=mg
 base:=base
 A:=A.deeper (envX qual scope s.heap.objs.size f cd cells)
 N:=N
 qm:=s
 Gx:=H
 env:=envX qual scope s.heap.objs.size f cd cells
 outer:=outer
 stack:=envX qual scope s.heap.objs.size f cd cells::outer
 ex:=[]
 calm:=true
 fn:=fun _=>false
 pn:=[]
 xe:=fun _ _=>False
structure A5(x:Str)(fs:List Str)(sc:Scope):Prop where
 kind:sc.kind= .function
 co:sc.isCoroutine=false
 gen:sc.isGenerator=false
 Jw:∀y∈sc.names,y.2≠ .cell
 par:sc.names.lookup x=some .local
 free:∀y∈fs,sc.names.lookup y=some .free
 all:∀y,sc.names.lookup y=some .free->y∈fs
structure CellsOk(L:List (Addr×Obj))(cells:List (Str×Addr))(fs:List Str)(fvs:List V):Prop where
 len:fs.length=fvs.length
 inj:∀x y c,cells.lookup x=some c->cells.lookup y=some c->x=y
 at_:∀(j:Nat) (y:Str) (v:V),fs[j]?=some y->fvs[j]?=some v->∃c o u,cells.lookup y=some c/\(c,o)∈L/\o.data= .cell (some u)/\RelV v u
 only:∀x c,cells.lookup x=some c->∃o v,(c,o)∈L/\o.data= .cell v
 has:∀y∈fs,∃c,cells.lookup y=some c
theorem C9{K:W.Frag}{k:Nat}{c':Addr}{x:Str}{fs:List Str}{cells:List (Str×Addr)}{r8:Value} {sp:Sp}(S:A5 x fs scope)(C:CellsOk L cells fs fvs)(hf:(f,kla_obj name qual params body scope cells pm c' r8)∈L) (Km:∀u,bindArgs (kla_fn name qual params body scope cells pm (.ref c') r8) ⟨[u],[]⟩=pure [(x,u)]) (len:∀vs H Q E,sp vs H Q E->vs.length=1) (lB:∀(A:Around) (outer:List Env) (s:Shared) (H:Hp) (v:V) (Q:VK),cu k (A.deeper (envX qual scope s.heap.objs.size f (.ref c') cells))->sp [v] H Q (fun _ _ _=>False)->∃t,PE (Ot P w K mg base (x::fs) qual scope f (.ref c') cells A outer s H) body t/\t (some v::fvs.map some) H Q):BA P w K mg base (k+1) f L c' qual sp:=by
 refine⟨⟨_,_,_,_,hf⟩,fun A outer s H us vs Q hr e0 hL hcA r tw=>?_⟩;have hl:=len _ _ _ _ tw
 match vs,hl,us,r,tw with
 | [v],_,[u],.cons rv .nil,tw=>
  have lim:s.heap.NoLimit:=e0.mod.nolimit.keeps fun b o e=>(e0.bs b o e).1;refine kla_callFunE hr.depth (hL _ hf).1 rfl S.co S.gen rfl (hcA.rec e0.bK) ?_;rw[Km];refine ai4 (wpAny_newFunctionEnv S.Jw (fun y hy=>?_) (fun h1 yk XN=>?_) S.kind)
  .rw[aiU.mp hy];exact S.par
  have hk:∀b o,s.heap.get? b=some o->h1.get? b=some o:=fun b o e=>XN.extBut b o (ajB (ajf e)) (aiX _ e);refine⟨lim.keeps hk,?_⟩;show codeAny _ _ (.expr body (envX qual scope s.heap.objs.size f (.ref c') cells)) _ _;obtain⟨t,ht,hq⟩:=lB A outer s H v Q (hr.deeper _) tw;have I:Inv (Ot P w K mg base (x::fs) qual scope f (.ref c') cells A outer s H) [] (some v::fvs.map some) H {s with heap:=h1,toks:=s.toks+1}:=by
   refine⟨⟨e0.mod,S.kind,Z,Z,ai2 _,C.inj,fun y hy=>?_,fun y c z=>(by cases z),fun _=>hr.hd,Around.frames_deeper e0.frames,.inr ⟨Z,Z⟩,fun b z=>(by cases z),e0.bs,e0.HL,fun b _ _ z=>(by cases z),fun b z=>(by cases z),e0.mx,e0.NS⟩,
    rfl,e0.bare,Un.kept hk,⟨_,yk,fun i y v' Kt h2 h3=>?_⟩,fun y c h=>?_,e0.bK.fresh (ai2 _),fun y c h=>?_,fun p hp=>(by cases hp),e0.bK.kept hk,?_⟩
   .have hy:scope.names.lookup y=some .cell\/scope.names.lookup y=some .free:=hy;rcases hy with hy|hy
    .exact absurd rfl (S.Jw _ (ajJ hy))
    .exact C.has y (S.all y hy)
   .cases i with
    |zero=>
     have e1:x=y:=ajr Kt;have e2:v=v':=ajr (ajr h2);subst e1 e2;refine⟨u,rv,.inl ⟨S.par,?_⟩⟩;show([(x,u)]:List (Str×Value)).reverse.lookup x=some u;simp
    |succ i=>
     have V8:fs[i]?=some y:=Kt;have HJ:fvs[i]?=some v':=by
      have:(fvs.map some)[i]?=some (some v'):=h2;rw[ajd]at this;cases q:fvs[i]? with
      |none=>rw[q]at this;cases this
      |some z=>rw[q]at this;cases this;rfl
     obtain⟨c,o,u',a1,a2,a3,a4⟩:=C.at_ i y v' V8 HJ;exact⟨u',a4,.inr ⟨.inr (S.free y (ai1 V8)),c,a1,o,hk _ _ (hL _ a2).1,a3⟩⟩
   .obtain⟨o,v',a1,a2⟩:=C.only y c h;exact⟨v',o,hk _ _ (hL _ a1).1,a2⟩
   .obtain⟨o,v',a1,a2⟩:=C.only y c h;exact(hL _ a1).2.1
   .show(some v::fvs.map some).length=(x::fs).length;rw[ajc,aiQ,ajc,C.len]
  refine kla_codeExpr (ake (ht [] _ _ H Q I hq) (fun u' s' hs=>?_) fun e s' hs=>False.elim hs);obtain⟨v',H',J,SA,q⟩:=hs;exact⟨v',H',J.os,J.bare,J.base,J.bK,SA,q⟩
theorem DF{pos:Pos}{c:Value}{m:List Value}:∀(l:List Value),TriplesOk l->codeAmong pos l=some c->codeAmong pos (l++m)=some c:=fun l h hn=>by
 fun_induction TriplesOk l with
 |case1=>cases hn
 |case2 a t b u x rest ih=>
  simp only[akj,codeAmong]at hn⊢;split at hn
  .rename_i hc;rw[ai5 hc];exact hn
  .rename_i hc;rw[ai0 hc];exact ih h hn
 |case3 l h1 h2=>exact h.elim
theorem A2{pos:Pos}{a b:Int}{c:Value}(jZ:(a==(pos.line:Int)&&b==(pos.col:Int))=false):∀(l:List Value),TriplesOk l->codeAmong pos l=none->codeAmong pos (l++[rawInt a,rawInt b,c])=none:=fun l h hn=>by
 fun_induction TriplesOk l with
 |case1=>simp only[akP,rawInt,codeAmong];rw[ai0 (by rw[jZ];exact ajg)]
 |case2 a t b u x rest ih=>
  simp only[akj,codeAmong]at hn⊢;split at hn
  .cases hn
  .rename_i hc;rw[ai0 hc];exact ih h hn
 |case3 l h1 h2=>exact h.elim
theorem Gr{q:Pos}(e1:q.line=p.line)(e2:q.col=p.col):∀l,codeAmong q l=codeAmong p l:=fun l=>by
 fun_induction codeAmong p l with
 |case1 line t col u c rest h=>
  conv=>lhs;unfold codeAmong
  rw[e1,e2,ai5 h]
 |case2 line t col u c rest h ih=>
  conv=>lhs;unfold codeAmong
  rw[e1,e2,ai0 h];exact ih
 |case3 l h=>
  conv=>lhs;unfold codeAmong
  split
  .rename_i z;exact absurd rfl (h _ _ _ _ _ _)
  .rfl
def ou(H:Hp)(P:Addr)(ls:List (Pos×Str)):Prop:=∃ps,H P=some (.hU ps)/\TriplesOk ps.toList/\∀q∈ls,codeAmong q.1 ps.toList=none\/∃c,codeAmong q.1 ps.toList=some (.ref c)/\gW H c q.2
structure aw(H H':Hp):Prop where
 kp:∀b o,H b=some o->(∀ps,o≠ .hU ps)->H' b=some o
 tb:∀b ps,H b=some (.hU ps)->∃qs,H' b=some (.hU qs)
theorem aw.refl(H:Hp):aw H H:=⟨fun _ _ e _=>e,fun _ ps e=>⟨ps,e⟩⟩
theorem aw.trans(a:aw H H1)(b:aw H1 H2):aw H H2:=⟨fun c o e n=>b.kp c o (a.kp c o e n) n,fun c ps e=>let⟨qs,e1⟩:=a.tb c ps e;b.tb c qs e1⟩
theorem aw.code(a:aw H H')(e:gW H c q):gW H' c q:=a.kp _ _ e nofun
theorem aw.free(a:aw H H')(h:H' l=none):H l=none:=by
 cases q:H l with
 |none=>rfl
 |some o=>
  by_cases t:∃ps,o= .hU ps
  .obtain⟨ps,rfl⟩:=t;obtain⟨qs,e⟩:=a.tb l ps q;rw[e]at h;cases h
  .rw[a.kp l o q fun ps z=>t ⟨ps,z⟩]at h;cases h
theorem aw.of(h:∀b o,H b=some o->H' b=some o):aw H H':=⟨fun b o e _=>h b o e,fun b ps e=>⟨ps,h b _ e⟩⟩
structure BM(base:Heap)(mg:Str->Option Value):Prop where
 ex:∃bm o,mg "__builtins__"=some (.ref bm)/\bm≠builtinsNs/\bm≠mainGlobals/\base.get? bm=some o/\o.cls= .type "module"/\o.dict=some builtinsNs/\o.data= .plain
theorem z6{P:Addr}{pos:Pos}{ao:List (Str×Addr)}{Q:Value->Shared->Prop}{E:Value->Shared->Prop} (I:aV H s)(B:BM X.base X.mg)(wY:X.env.code= .ref c)(hC:W.CodeHd X.base c P)(hT:ou H P ls)(Ce:(pos,X.env.qual++"<lambda>")∈ls) (AB:∀q∈ls,q.1.line=pos.line->q.1.col=pos.col->q.2=X.env.qual++"<lambda>")(Kj:defaultsOf params X.env=([],[]))(ib:closureFor scope X.env=pure ao) (hQ:∀f c' pm r8 H' s',aV H' s'->aw H H'->(∀b,b≠P->b<s.heap.objs.size->H' b=H b)->ou H' P ls->gW H' c' (X.env.qual++"<lambda>")->s'.heap.get? f=some (kla_obj "<lambda>" (X.env.qual++"<lambda>") params body scope ao pm c' r8)->H' f=none->f∉yo X.stack->s.heap.objs.size<=f->(∀b o,H b=none->s.heap.get? b=some o->s'.heap.get? b=some o)->Q (.ref f) s'):gy (eval (.Lambda params body scope pos) X.env) Q E s:=by
 obtain⟨ps,hP,ht,hl⟩:=hT;obtain⟨bm,ob,b1,b2,b3,b4,b5,b6,b7⟩:=B.ex;have Xp:s.heap.get? P=some (W.tabObj ps):=I.bK P _ hP;have Vj:s.heap.Ns mainGlobals X.mg:=I.mod.glob.keeps I.bk;have hgP:mainGlobals≠P:=(fun q=>by obtain⟨o,es,ep,e,hd,_⟩:=Vj;rw[q,Xp]at e;cases e;cases hd);have hbP:bm≠P:=(fun q=>by have e:=I.bk _ _ b4;rw[q,Xp]at e;cases e;cases b5);have hb:s.heap.BuiltinsAt X.mg P:=⟨bm,ob,b1,b2,b3,hbP,I.bk _ _ b4,b5,b6,b7⟩;have N5:∀b∈yo X.stack,b<s.heap.objs.size:=fun b hb=>by
  rcases aiZ.mp (I.sS b hb)with e|e
  .rw[e];exact I.lt
  .exact Nat.lt_of_not_le fun z=>I.UZ z e
 refine W.kla_eval Kj ?_;rcases hl _ Ce with hn|⟨c',hh,V0⟩
 ·
  refine W.kla_makeFunction (mg:=X.mg) ib I.ok.glob Vj wY (hC.keeps I.bk) Xp ht hn hgP hb fun c' r8 h' tk hx yF fC Qi KE=>?_;have Hc:H c'=none:=I.bK.fresh yF;have nPc:c'≠P:=(fun q=>by rw[q,hP]at Hc;cases Hc);have kp:∀b o,b≠P->s.heap.get? b=some o->(h'.push (kla_obj "<lambda>" (X.env.qual++"<lambda>") params body scope ao ((X.mg "__name__").getD .none) c' r8)).get? b=some o:=fun b o hb e=>aiX _ (hx b o hb e);have tbP:(h'.push (kla_obj "<lambda>" (X.env.qual++"<lambda>") params body scope ao ((X.mg "__name__").getD .none) c' r8)).get? P=some (W.tabObj (ps++ #[rawInt pos.line,rawInt pos.col,.ref c'])):=aiX _ KE;let H':Hp:=upd (upd H P (.hU (ps++ #[rawInt pos.line,rawInt pos.col,.ref c']))) c' (.ext fun h=>h.CodeRec (.ref c') (X.env.qual++"<lambda>"));have S2:∀b,b≠P->b≠c'->H' b=H b:=(fun b h1 h2=>by show upd _ _ _ b=_;rw[aB h2,aB h1]);have HP':H' P=some (.hU (ps++ #[rawInt pos.line,rawInt pos.col,.ref c'])):=(by show upd _ _ _ P=_;rw[aB (ajC nPc),aA]);have Hc':gW H' c' (X.env.qual++"<lambda>"):=aA;have tr:∀b o,H b=some o->(∀ps,o≠ .hU ps)->H' b=some o:=(fun b o e n=>by rw[S2 b (fun q=>by rw[q,hP]at e;cases e;exact n _ rfl) (aG e Hc)];exact e);have bK:jq X.prog X.w H' (h'.push (kla_obj "<lambda>" (X.env.qual++"<lambda>") params body scope ao ((X.mg "__name__").getD .none) c' r8)):=fun b u e=>by
   by_cases e1:b=c'
   .subst e1;rw[show H' b=some (.ext fun h=>h.CodeRec (.ref b) (X.env.qual++"<lambda>"))from Hc']at e;cases e;have Od:(h'.push (kla_obj "<lambda>" (X.env.qual++"<lambda>") params body scope ao ((X.mg "__name__").getD .none) b r8)).CodeRec (.ref b) (X.env.qual++"<lambda>"):=(by obtain⟨c2,o2,Wk,t2,z1,z2,z3,z4⟩:=Qi;exact⟨c2,o2,Wk,t2,z1,aiX _ z2,z3,z4⟩);refine⟨Od,?_,fun h1 h2 z k=>?_⟩
    .obtain⟨c2,o2,Wk,t2,z1,z2,z3,z4⟩:=Od;cases z1;exact⟨o2,z2⟩
    .obtain⟨c2,o2,Wk,t2,z1,z2,z3,z4⟩:=z;cases z1;exact⟨_,o2,Wk,t2,Z,k _ z2,z3,z4⟩
   .by_cases e2:b=P
    .subst e2;rw[HP']at e;cases e;exact tbP
    .rw[S2 b e2 e1]at e;refine(I.bK b u e).ql (fun d v hd q=>kp d v ?_ q) (fun d q=>tr d _ q fun _ z=>nomatch z) fun d xs q=>tr d _ q fun _ z=>nomatch z;rcases hd with z|z
     .rw[z];exact e2
     .intro y;rw[y,hP]at z;cases z
  have un:Un X.fs [] H H' s.heap (h'.push (kla_obj "<lambda>" (X.env.qual++"<lambda>") params body scope ao ((X.mg "__name__").getD .none) c' r8)):=by
   refine⟨fun b o e n _ _=>kp b o (fun q=>by rw[q,hP]at n;cases n) e,fun b o e n _ _=>⟨o.slots,kp b o (fun q=>by rw[q,hP]at n;cases n) e⟩,fun b o e n _=>?_,fun b o e _=>?_,fun b xs e=>tr b _ e nofun,fun b o u e=>tr b _ e nofun,fun b qs e=>?_⟩
   .rw[S2 b (fun q=>by rw[q,hP]at n;cases n) (fun q=>by rw[q]at e;exact absurd (ajx (ajf e) yF) (aj5 _))];exact n
   .by_cases q:b=P
    .exact⟨_,by rw[q];exact tbP⟩
    .exact⟨o,kp b o q e⟩
   .by_cases q:b=P
    .subst q;rw[hP]at e;cases e;exact⟨_,HP'⟩
    .exact⟨#[],by rw[S2 b q (aG e Hc)];simpa using e⟩
  have I':=I.un (t':=tk) un bK;refine hQ h'.objs.size c' _ r8 H' _ I' ⟨tr,fun b qs e=>un.qk b qs e|>.elim fun m z=>⟨_,z⟩⟩ (fun b GP NO=>S2 b GP fun q=>by rw[q]at NO;exact absurd (ajx NO yF) (aj5 _)) ?_ Hc' (aje _ rfl) ?_ (fun z=>?_) (aki (ajR yF fC)) fun b o n e=>kp b o (fun q=>by rw[q,hP]at n;cases n) e
  .refine⟨_,HP',by rw[Array.toList_append];exact TriplesOk_snoc _ _ _ _ ht,fun q hq=>?_⟩;rw[Array.toList_append];by_cases same:q.1.line=pos.line/\q.1.col=pos.col
   .refine .inr ⟨c',?_,?_⟩
    .rw[Gr same.1 same.2];exact codeAmong_snoc _ ht hn
    .rw[AB q hq same.1 same.2];exact Hc'
   .rcases hl q hq with z|⟨c2,z1,z2⟩
    .refine .inl (A2 ?_ _ ht z);cases y:((pos.line:Int)==(q.1.line:Int)&&(pos.col:Int)==(q.1.col:Int))with
     |false=>rfl
     |true=>
      rw[ajn,akY,akY]at y;exact absurd ⟨by omega,by omega⟩ same
    .exact .inr ⟨c2,DF _ ht z1,tr _ _ z2 nofun⟩
  .have hf:h'.objs.size≠P:=(fun q=>by have:=ajf KE;rw[<-q]at this;exact absurd this (aj5 _));rw[S2 _ hf (alD fC)];exact I.bK.fresh (aki (ajR yF fC))
  .exact absurd (ajx (N5 _ z) (aki (ajR yF fC))) (aj5 _)
 ·
  refine W.kla_makeFunctionHit (mg:=X.mg) ib I.ok.glob Vj wY (hC.keeps I.bk) Xp ht hh hb fun r8 h' tk hk hsz=>?_;have kp:∀b o,s.heap.get? b=some o->(h'.push (kla_obj "<lambda>" (X.env.qual++"<lambda>") params body scope ao ((X.mg "__name__").getD .none) c' r8)).get? b=some o:=fun b o e=>aiX _ (hk b o e);have I':=I.kept (t':=tk) kp;exact hQ h'.objs.size c' _ r8 H _ I' (aw.refl H) (fun _ _ _=>rfl) ⟨ps,hP,ht,hl⟩ V0 (aje _ rfl) (I.bK.fresh hsz) (fun z=>absurd (ajx (N5 _ z) hsz) (aj5 _)) hsz fun b o _ e=>kp b o e
structure LQ(X:Cx)(ao:List (Str×Addr))(fs:List Str)(is:List Nat):Prop where
 len:fs.length=is.length
 slot:∀(j i:Nat) (y:Str),is[j]?=some i->fs[j]?=some y->X.N[i]?=some y
 kind:∀y∈fs,X.env.scope.names.lookup y=some .cell/\X.fn y=true
 W7:∀y c,ao.lookup y=some c->y∈fs/\X.env.cells.lookup y=some c
 has:∀y∈fs,∃c,ao.lookup y=some c
theorem Ar{ao:List (Str×Addr)}{fs:List Str}(I:aV H s)(M:LQ X ao fs is)(hl:fvs.length=is.length) (hv:∀(j i:Nat) (v:V),is[j]?=some i->fvs[j]?=some v->σ[i]?=some (some v)):∃L:List (Addr×Obj),CellsOk L ao fs fvs/\∀p∈L,s.heap.get? p.1=some p.2/\H p.1=none/\p.1∉yo X.stack:=by
 have one:∀y∈fs,∃c o v,ao.lookup y=some c/\X.env.cells.lookup y=some c/\s.heap.get? c=some o/\o.data= .cell v/\H c=none/\c∉yo X.stack:=fun y hy=>by
  obtain⟨c,hc⟩:=M.has y hy;have Eh:=(M.W7 y c hc).2;obtain⟨v,o,ho,hd⟩:=I.cell y c Eh;refine⟨c,o,v,hc,Eh,ho,hd,I.iH y c Eh,fun z=>?_⟩;rcases aiZ.mp (I.sS c z)with e|e
  .exact I.Ov y c Eh e
  .obtain⟨_,o',yj,_⟩:=I.ok.mx.mem e;exact absurd (ajx (ajf yj) (I.ok.Sy y c (M.kind y hy).2 Eh)) (aj5 _)
 have all:∀gs:List Str,(∀y∈gs,y∈fs)->∃L:List (Addr×Obj),(∀y∈gs,∃c o v,ao.lookup y=some c/\X.env.cells.lookup y=some c/\(c,o)∈L/\o.data= .cell v)/\∀p∈L,s.heap.get? p.1=some p.2/\H p.1=none/\p.1∉yo X.stack:=fun gs=>by
  induction gs with
  |nil=>exact fun _=>⟨[],fun y hy=>(nomatch hy),fun p hp=>(nomatch hp)⟩
  |cons g gs ih=>
   intro hg;obtain⟨L,a,b⟩:=ih fun y hy=>hg y (aiS _ hy);obtain⟨c,o,v,c1,c2,c3,c4,c5,c6⟩:=one g (hg g (aiV ..));refine⟨(c,o)::L,fun y hy=>?_,fun p hp=>?_⟩
   .rcases aiZ.mp hy with e|e
    .rw[e];exact⟨c,o,v,c1,c2,aiV ..,c4⟩
    .obtain⟨c',o',v',d1,d2,d3,d4⟩:=a y e;exact⟨c',o',v',d1,d2,aiS _ d3,d4⟩
   .rcases aiZ.mp hp with e|e
    .rw[e];exact⟨c3,c5,c6⟩
    .exact b p e
 obtain⟨L,a,b⟩:=all fs fun _ z=>z;refine⟨L,⟨by rw[M.len,hl],fun x y c h1 h2=>I.ok.inj x y c (M.W7 x c h1).2 (M.W7 y c h2).2,fun j y v h1 h2=>?_,fun x c h=>?_,M.has⟩,b⟩
 .obtain⟨c,o,v0,c1,c2,c3,c4⟩:=a y (ai1 h1);obtain⟨i,hi⟩:∃i,is[j]?=some i:=by have:=(ai3.mp h1).1;exact⟨_,aiW (by rw[<-M.len];exact this)⟩
  obtain⟨m,hn,HC⟩:=I.loc;have kd:=(M.kind y (ai1 h1)).1;obtain⟨u,r,lk⟩:=HC i y v (M.slot j i y hi h1) (hv j i v hi h2) (.inr (.inl kd));rcases lk with⟨k,_⟩|⟨_,c',e',o',yj,Kk⟩
  .have k':X.env.scope.names.lookup y=some .local:=k;rw[kd]at k';cases k'
  .rw[c2]at e';cases e';have:=(b _ c3).1;rw[yj]at this;cases this;exact⟨c,o,u,c1,c3,Kk,r⟩
 .obtain⟨h1,h2⟩:=M.W7 x c h;obtain⟨c',o,v0,c1,c2,c3,c4⟩:=a x h1;rw[h]at c1;cases c1;exact⟨o,v0,c3,c4⟩
section
variable{k:Nat}{x:Str}{pos:Pos}{P:Addr}{ao:List (Str×Addr)}{fs:List Str}
def Hi(spS:Ow)(P:Addr)(ls:List (Pos×Str))(qual:Str)(params:Arguments)(body:Expr)(scope:Scope)(ao:List (Str×Addr))(fs:List Str)(is:List Nat)(t0:TE):TE:=fun σ H Q=>
 t0 σ H fun v H1=>ou H1 P ls/\∃fvs:List V,fvs.length=is.length/\(∀(j i:Nat) (v:V),is[j]?=some i->fvs[j]?=some v->σ[i]?=some (some v))/\∀(f c':Addr) (pm r8:Value) (L:List (Addr×Obj)) (H2:Hp) (s:Shared) (outer:List Env),aw H1 H2->ou H2 P ls->(∀b qs,b≠P->H1 b=some (.hU qs)->H2 b=some (.hU qs))->gW H2 c' qual->A4 ((f,kla_obj "<lambda>" qual params body scope ao pm c' r8)::L) s outer H2->CellsOk L ao fs fvs->spS s outer [v,.ref f] H2 Q (fun _ _ _=>False)
theorem tH(F:xB X.prog X.w X.K X.mg X.base vT k g fd ps spS)(hr:cu k X.A)(hg:Gl X x)(hm:X.mg x=some (.ref g))(hk:W.keepIn X.K (.ref g)=true)(hb:Binds X.K fd ps [])(he:PE X e t0) (B:BM X.base X.mg)(wY:X.env.code= .ref c)(hC:W.CodeHd X.base c P)(Ce:(mq,X.env.qual++"<lambda>")∈ls)(AB:∀q∈ls,q.1.line=mq.line->q.1.col=mq.col->q.2=X.env.qual++"<lambda>") (ib:closureFor scope X.env=pure ao)(M:LQ X ao fs is)(Kj:defaultsOf params X.env=([],[]):=by rfl)(AL:(x==("__debug__":Str))=false:=by decide) (hs:starEach [e,.Lambda params body scope mq] X.env=[(false,eval e X.env),(false,eval (.Lambda params body scope mq) X.env)]:=by rfl)(Lh:starEach [e,.Lambda params body scope mq] X.env=(false,eval e X.env)::starEach [.Lambda params body scope mq] X.env:=by rfl)(mI:(backTo pos (starEach [.Lambda params body scope mq] X.env)).any (·.1)=false:=by rfl):PE X (.Call (.Name x p) [e,.Lambda params body scope mq] [] pos) (Hi spS P ls (X.env.qual++"<lambda>") params body scope ao fs is t0):=by
 intro pins s σ H Q I h;refine akd (oM I hg hm ?_ AL);refine W.callWith_K (h₀:=X.base) I.ok.mod.SN hk ?_ Lh mI;rw[hs];show wpAny _ _ (spliced [(false,eval e X.env),(false,eval (.Lambda params body scope mq) X.env)]) _ _ s;refine ak7 (cQ (he pins s σ H _ I h) fun u s1 ⟨v,H1,I1,r1,hT,fvs,Ec,hfv,q⟩=>?_);refine ak7 (z6 I1 B wY hC hT Ce AB Kj ib fun f c' pm r8 H2 s2 I2 sx h2s RH wZ hf Co hfs yF hkp=>?_);refine alJ ⟨I2.CU,?_⟩;obtain⟨L,CL,hL⟩:=Ar I2 M Ec hfv;have r2:bI [v,.ref f] [u,.ref f]:= .cons r1 (.cons rfl .nil);have tb:∀b qs,b≠P->H1 b=some (.hU qs)->H2 b=some (.hU qs):=(fun b qs hb e=>by rw[h2s b hb (I1.bK.lt e)];exact e);have tw:=q f c' pm r8 L H2 s2 X.stack sx RH tb wZ (fun p hp=>by
  rcases aiZ.mp hp with e|e
  .rw[e];exact⟨hf,Co,hfs⟩
  .exact hL p e) CL
 have hl:([u,Value.ref f]++[]).length=ps.length:=(by rw[ajs,<-r2.length];exact F.len _ _ _ _ _ _ tw);refine alP (akH (F.run X.A X.stack s2 H2 ⟨[u,.ref f],[]⟩ ([u,.ref f]++[]) [v,.ref f] Q _ hr I2.K5 (hb s2 [u,.ref f] I2.CU hl) r2 tw) fun r s' hq=>?_);cases r with
 |error e=>exact False.elim hq
 |ok fl=>
  cases fl with
  |ret u=>exact I2.after hq
  |next=>exact False.elim hq
  |brk=>exact False.elim hq
  |cont=>exact False.elim hq
end
def O9(tk tv:TE):TE:=fun σ H Q=>∀p,H p=none->tk σ (upd H p (.dT [])) fun x H1=>tv σ H1 fun y H2=>H2 p=some (.dT [])/\∃b k,x= .ref b/\H2 b=some (.tup (k.map kV))/\Q (.ref p) (upd H2 p (.dT (putK [] k y)))
theorem zV{ke ve:Expr}{pos:Pos}{tk tv:TE}(hu:X.A.units+1<cLine)(hk:PE X ke tk)(hv:PE X ve tv):PE X (.Dict [some ke] [ve] pos) (O9 tk tv):=by intro pins s σ H Q I q;have hn:=I.bK.fresh (ai2 s.heap.objs.size);have I1:=I.laid (a:=s.heap.objs.size) (o:= .dT []) (h':=s.heap.push {cls:= .type "dict",data:= .dict #[]}) (t':=s.toks) (fun _ _ q=>aiX _ q) (ai2 _) (Ab s.heap I.big);rw[arm_eval_Dict,zip_pairTrees [some ke] [ve] X.env pos rfl rfl,dictDisplay_pairs (pairTrees [some ke] [ve] X.env pos) nofun (by show 1<17;decide)];refine aiR (alX (aiR ?_));unfold subDict;refine aiR (wpAny_alloc ?_);refine aiR (aku ?_);rw[ai5 (show(pairTrees [some ke] [ve] X.env pos).length<=15 by show 1<=15;decide)];refine aiR (pairTrees_cons_walk (cQ (hk pins _ σ _ _ I1 (q _ hn)) fun u s1 ⟨x,H1,I2,rx,q1⟩=>cQ (hv pins s1 σ H1 _ I2 q1) fun w2 s2 ⟨y,H2,I3,ry,e,b,k,ex,eb,q2⟩=>pairTrees_nil_walk ?_));subst ex;cases(show u=Value.ref b from rx);refine aku ?_;rw[List.forIn_cons];obtain⟨z,hd,xs,rel,dd⟩:=Oq I3.bK e;have hz:xs.length<=sizeLine:=(by rw[<-Paired.length rel];exact z);have hl:(putK [] k y).length<=sizeLine:=(by have:=iS ([]:List (List Key×V)) k y;rw[amU]at this;rw[ai6];omega);refine aiR (aiR (aiR (wpAny_dictSet_heap (hsz:=hz) (Nat.lt_of_succ_lt hu) (jY I3.bK eb) dd fun h' Sx hs=>?_)));refine ai4 ?_;dsimp only;rw[am2];refine ai4 (ai4 (ai4 (ai4 ⟨.ref _,_,?_,Z,q2⟩)));obtain⟨q',es,ep,hq,h2,h3,h4,_,h5⟩:=Sx;refine yJ I3 (by rw[e];exact True.intro) hs ⟨q',hq⟩ ⟨hl,hd,_,(rel.put k eb ry).keeps fun c ys ec=>?_,q',es,ep,hq,h2,h3,h4,h5⟩;rw[aB (ak ec e nofun)];exact ec
theorem o3.okS{K:W.Frag}{x:Str}{st:Stmt}{k:Nat}{sp:Ow}(F:o3 K x qual st f fd)(S:aM N ps (aF st))(len:∀s outer vs H Q E,sp s outer vs H Q E->vs.length=ps.length) (lB:∀(fv:Value) (A:Around) (outer:List Env) (s:Shared) (H:Hp) (vs:List V) (Q:VK) (E:XK),cu k (A.deeper (envOfC qual (aF st) s.heap.objs.size f fv))->sp s outer vs H Q E->∃t,BG (uR vT P w K mg base N qual (aF st) f fv A outer s H E).ON (cX st) t/\t {nx:=fun _ H'=>Q .cW H',rt:=Q} (start N vs) H):xB P w K mg base vT (k+1) f fd ps sp:=by obtain⟨oc,od,kV,doc,pm,an,fv,ct,uo,rfl,lk,uD⟩:=F.ex;refine RS lk uD S len fun A outer s H vs Q E hr tw=>?_;obtain⟨t,h,q⟩:=lB fv A outer s H vs Q E hr tw;exact⟨t,h.ON,q⟩
abbrev Nd:=Nat×Nat
def bZ(n:Nd):List Key:=[Sum.inl (n.1:Int),Sum.inl (n.2:Int)]
def TupAt(H:Hp)(a:Addr)(n:Nd):Prop:=H a=some (.tup ((bZ n).map kV))
abbrev aI(H:Hp):List Addr->List Nd->Prop:=Paired (TupAt H)
theorem aI.same(s:aw H H'){ns:List Nd}(h:aI H as ns):aI H' as ns:=Paired.a8 h fun a n e=>s.kp _ _ e nofun
theorem aI.get:∀{as:List Addr} {ns:List Nd} {i:Nat} {n:Nd},aI H as ns->ns[i]?=some n->∃a,as[i]?=some a/\TupAt H a n
 |_,_,_,_,.nil,e=>by simp at e
 |_,_,0,n,.cons r _,e=>by simp at e;subst e;exact⟨_,Z,r⟩
 |_,_,i+1,n,.cons _ t,e=>by obtain⟨u,h1,h2⟩:=aI.get (i:=i) t (by simpa using e);exact⟨u,by simpa using h1,h2⟩
theorem aI.lC:∀{as:List Addr} {ns:List Nd} {i:Nat} {a:Addr},aI H as ns->as[i]?=some a->∃n,ns[i]?=some n/\TupAt H a n
 |_,_,_,_,.nil,e=>by simp at e
 |_,_,0,n,.cons r _,e=>by simp at e;subst e;exact⟨_,Z,r⟩
 |_,_,i+1,n,.cons _ t,e=>by obtain⟨u,h1,h2⟩:=aI.lC (i:=i) t (by simpa using e);exact⟨u,by simpa using h1,h2⟩
theorem aI.snoc(r:TupAt H a n):∀{as:List Addr} {ns:List Nd},aI H as ns->aI H (as++[a]) (ns++[n])
 |_,_,.nil=> .cons r .nil
 |_,_,.cons q t=> .cons q (aI.snoc r t)
theorem iP{m:Nd}:bZ m=bZ n↔m=n:=by
 constructor
 .intro e;unfold bZ at e;injection e with e1 e2;injection e2 with e2 _;injection e1 with e1;injection e2 with e2;exact ami (by omega) (by omega)
 .rintro rfl;rfl
def bY(TT:List (Addr×List (Pos×Str)))(H:Hp):Prop:=∀t∈TT,ou H t.1 t.2
theorem bY.keep{TT:List (Addr×List (Pos×Str))}(h:bY TT H)(ht:∀b ps,H b=some (.hU ps)->H' b=some (.hU ps))(he:∀b φ,H b=some (.ext φ)->H' b=some (.ext φ)):bY TT H':=fun t m=>by
 obtain⟨ps,a,b,c⟩:=h t m;refine⟨ps,ht _ _ a,b,fun q hq=>?_⟩;rcases c q hq with z|⟨d,z1,z2⟩
 .exact .inl z
 .exact .inr ⟨d,z1,he _ _ z2⟩
def m9:Option HO->Prop
 |some (.hU _)=>False
 |some (.ext _)=>False
 |some (.tup _)=>False
 |_=>True
theorem bY.upd{TT:List (Addr×List (Pos×Str))}(h:bY TT H)(s:m9 (H a)):bY TT (upd H a o):=h.keep (fun b ps e=>by rw[aB (fun q=>by rw[<-q,e]at s;exact s)];exact e) fun b φ e=>by rw[aB (fun q=>by rw[<-q,e]at s;exact s)];exact e
theorem aw.upd(s:aw H H1)(h:H a=none):aw H (upd H1 a o):=⟨fun b u e n=>by
 rw[aB (aG e h)];exact s.kp b u e n,fun b ps e=>by
 rw[aB (aG e h)];exact s.tb b ps e⟩
theorem aI.upd{ns:List Nd}(h:aI H as ns)(s:m9 (H a)):aI (L2.upd H a o) as ns:=Paired.a8 h fun b n e=>by show L2.upd H a o b=_;rw[aB (fun q=>by rw[<-q,show H b=_ from e]at s;exact s)];exact e
end L2
section
namespace L2
open PySem PySem.Spec PyProof.Rows
open PySem.W (WData Codec OpenSpec Well WellAll ReadsW ReadsAllW)
variable{h:Heap}{A B:List Addr}{P:Params}{w:World}{a b:Addr}{ds:List WData}{us vs:List Value}{H:Hp}{cl:Str->Option Addr}{xs:List V}{v:Value}{u:HO}
mutual
inductive Dw(K:W.Frag)(H:Hp):V->WData->Prop
 |cW:Dw K H .cW .none
 |bl (b:Bool):Dw K H (.bl b) (.bool b)
 |int (i:Int):Dw K H (.int i) (.int i)
 |str (x:Str):Dw K H (.str x) (.str x)
 |yU (b:Array UInt8):Dw K H (.yU b) (.bytes b.toList)
 |lst {a:Addr} {xs:List V} {ds:List WData}:ae K H a xs->iX K H xs ds->Dw K H (.ref a) (.list ds)
 |tup {a:Addr} {xs:List V} {ds:List WData}:gF K H a xs->iX K H xs ds->Dw K H (.ref a) (.tuple ds)
inductive iX(K:W.Frag)(H:Hp):List V->List WData->Prop
 |nil:iX K H [] []
 |cons {v:V} {vs:List V} {d:WData} {ds:List WData}:Dw K H v d->iX K H vs ds->iX K H (v::vs) (d::ds)
end
theorem Er{K:W.Frag}{H:Hp}:∀ns:List Int,iX K H (ns.map V.int) (ns.map WData.int)
 | []=> .nil
 |n::r=> .cons (.int n) (Er r)
theorem EO{K:W.Frag}{H:Hp}:∀(ns:List Int) (xs:List V),iX K H xs (ns.map WData.int)->xs=ns.map V.int
 | [],xs,h=>by cases h;rfl
 |n::r,xs,h=>by
  cases h with
  |cons h1 h2=>
   cases h1;rw[EO r _ h2]<;>rfl
section
variable{P:Program}{K:W.Frag}{R:W.WRecords}
theorem PN(bK:jq P w H h)(KX:K.In h)(q:ae K H a xs):∃(bE:List Value) (o:Obj) (n:Nat),bI xs bE/\h.get? a=some o/\o.cls= .type "list"/\o.data= .seq bE.toArray n:=by
 rcases q with q|⟨o,bE,n,e,hc,_,hd,_,hv⟩
 .obtain⟨_,bE,n,hv,e⟩:=(show cj P w H h a (.lst xs)from q.ok bK);exact⟨bE,_,n,hv,e,Z,Z⟩
 .exact⟨bE.toList,o,n,hv,KX _ _ e,hc,by simp[hd]⟩
theorem PL(bK:jq P w H h)(KX:K.In h)(q:gF K H a xs):∃(bE:List Value) (o:Obj) (n:Nat),bI xs bE/\h.get? a=some o/\o.cls= .type "tuple"/\o.data= .seq bE.toArray n:=by
 rcases q with q|⟨o,bE,n,e,hc,hd,_,hv⟩
 .obtain⟨_,bE,hv,o,e,hc,n,hd⟩:=(show cj P w H h a (.tup xs)from q.ok bK);exact⟨bE,o,n,hv,e,hc,hd⟩
 .exact⟨bE.toList,o,n,hv,KX _ _ e,hc,by simp[hd]⟩
mutual
theorem Dw.reads(bK:jq P w H h)(KX:K.In h):∀(d:WData) (v:V) (u:Value),Dw K H v d->RelV v u->∃as,ReadsW R cl h u d as
 | .none,_,_,x,r=>by cases x;cases r;exact⟨_,ReadsW.none⟩
 | .bool b,_,_,x,r=>by cases x;cases r;exact⟨_,ReadsW.bool b⟩
 | .int i,_,_,x,r=>by cases x;obtain⟨t,rfl⟩:=r;exact⟨_,ReadsW.int i t⟩
 | .str s,_,_,x,r=>by cases x;obtain⟨t,rfl⟩:=r;exact⟨_,ReadsW.str s t⟩
 | .bytes b,_,_,x,r=>by cases x;obtain⟨t,rfl⟩:=r;exact⟨_,ReadsW.bytes _ t⟩
 | .list ds,_,_,x,r=>by
  cases x with
  |lst hs ha=>
   cases r;obtain⟨bE,o,n,rv,ho,hc,hd⟩:=PN bK KX hs;obtain⟨as,hr⟩:=Dw.readsAll bK KX ds _ bE ha rv;exact⟨_,ReadsW.list ho hc hd hr⟩
 | .tuple ds,_,_,x,r=>by
  cases x with
  |tup hs ha=>
   cases r;obtain⟨bE,o,n,rv,ho,hc,hd⟩:=PL bK KX hs;obtain⟨as,hr⟩:=Dw.readsAll bK KX ds _ bE ha rv;exact⟨_,ReadsW.tuple ho hc hd hr⟩
 | .float _,_,_,x,_=>by cases x
 | .dict _,_,_,x,_=>by cases x
 | .bytearray _,_,_,x,_=>by cases x
 | .set _,_,_,x,_=>by cases x
 | .frozenset _,_,_,x,_=>by cases x
 | .obj _ _,_,_,x,_=>by cases x
theorem Dw.readsAll(bK:jq P w H h)(KX:K.In h):∀(ds:List WData) (vs:List V) (us:List Value),iX K H vs ds->bI vs us->∃as,ReadsAllW R cl h us ds as
 | [],_,_,x,r=>by cases x;cases r;exact⟨_,ReadsAllW.nil⟩
 |d::ds,_,_,x,r=>by
  cases x with
  |cons h1 h2=>
   cases r with
   |cons r1 r2=>
    obtain⟨as,q1⟩:=Dw.reads bK KX d _ _ h1 r1;obtain⟨bs,q2⟩:=Dw.readsAll bK KX ds _ _ h2 r2;exact⟨_,ReadsAllW.cons q1 q2⟩
end
end
mutual
def Dx:WData->Bool
 | .none=>true
 | .bool _=>true
 | .int _=>true
 | .str _=>true
 | .bytes _=>true
 | .list xs=>qr xs
 | .tuple xs=>qr xs
 |_=>false
def qr:List WData->Bool
 | []=>true
 |x::r=>Dx x&&qr r
end
theorem zT{α:Type}{f:α->WData}(h:∀a,Dx (f a)=true):∀l:List α,qr (l.map f)=true
 | []=>rfl
 |x::r=>by show(Dx (f x)&&qr (r.map f))=true;rw[h x,zT h r]<;>rfl
theorem kY:∀(c:Codec) (a:c.denote),Dx (c.enc a)=true
 | .unit,_=>rfl
 | .bool,_=>rfl
 | .int _ _,_=>rfl
 | .nat _ _,_=>rfl
 | .u8,_=>rfl
 | .bytes _ _,_=>rfl
 | .text _ _ _ _,_=>rfl
 | .list _ _ c,a=>zT (fun x=>kY c x) a
 | .pair c d,a=>by show(Dx (c.enc a.1)&&(Dx (d.enc a.2)&&true))=true;rw[kY c a.1,kY d a.2]<;>rfl
 | .triple c d e,a=>by show(Dx (c.enc a.1)&&(Dx (d.enc a.2.1)&&(Dx (e.enc a.2.2)&&true)))=true;rw[kY c a.1,kY d a.2.1,kY e a.2.2]<;>rfl
 | .option c,none=>rfl
 | .option c,some x=>kY c x
theorem vw:∀(cs:List Codec) (a:Codec.denoteAll cs),qr (Codec.encAll cs a)=true
 | [],_=>rfl
 |c::cs,a=>by show(Dx (c.enc a.1)&&qr (Codec.encAll cs a.2))=true;rw[kY c a.1,vw cs a.2]<;>rfl
theorem mO:∀{xs:List WData} {d:WData},d∈xs->d.weight<=WData.weightAll xs
 | [],d,h=>absurd h (by simp)
 |x::r,d,h=>by
  show d.weight<=x.weight+1+WData.weightAll r;rcases aiZ.mp h with e|m
  .rw[e];omega
  .have z:=mO m;omega
def toV:Value->V
 | .none=> .cW
 | .bool b=> .bl b
 | .int i _=> .int i
 | .str x _=> .str x
 | .bytes b _=> .yU b
 | .ref a=> .ref a
 |_=> .cW
def Gv(A:List Addr):Value->Prop
 | .none=>True
 | .bool _=>True
 | .int _ _=>True
 | .str _ _=>True
 | .bytes _ _=>True
 | .ref a=>a∈A
 |_=>False
theorem Gv.mono(h:∀a∈A,a∈B):∀{u:Value},Gv A u->Gv B u:=fun{u} x=>by
 cases u with
 |ref a=>exact h a x
 |none=>trivial
 |bool b=>trivial
 |int i t=>trivial
 |str s t=>trivial
 |bytes b t=>trivial
 |_=>exact False.elim x
theorem JK{u:Value}(x:Gv A u):RelV (toV u) u:=by
 cases u with
 |ref a=>rfl
 |none=>rfl
 |bool b=>rfl
 |int i t=>exact⟨t,rfl⟩
 |str s t=>exact⟨t,rfl⟩
 |bytes b t=>exact⟨t,rfl⟩
 |_=>exact False.elim x
theorem ik{A:List Addr}:∀{vs:List Value},(∀u∈vs,Gv A u)->bI (vs.map toV) vs
 | [],_=> .nil
 |u::r,h=> .cons (JK (h u (aiV ..))) (ik fun x hx=>h x (aiS _ hx))
def ju(h:Heap)(A:List Addr)(a:Addr):Prop:=∃vs:List Value,vs.length<=sizeLine/\(∀u∈vs,Gv A u)/\(h.get? a=some {cls:= .type "list",data:= .seq vs.toArray}\/h.get? a=some {cls:= .type "tuple",data:= .seq vs.toArray})
theorem ju.mono(k:∀a∈A,a∈B)(x:ju h A a):ju h B a:=by obtain⟨vs,h1,h2,h3⟩:=x;exact⟨vs,h1,fun u hu=>(h2 u hu).mono k,h3⟩
theorem iK{P:Params}{h:Heap}:∀{vs:List Value} {ds:List WData},WellAll P h vs ds->vs.length=ds.length
 |_,_,.nil=>rfl
 |_,_,.cons _ b=>by show _+1=_+1;rw[iK b]
theorem vV(x:Well P h v (.list ds)):∃(a:Addr) (vs:List Value),v= .ref a/\h.get? a=some {cls:= .type "list",data:= .seq vs.toArray}/\WellAll P h vs ds:=by
 cases x with
 |list ho fF=>exact⟨_,_,rfl,ho,fF⟩
theorem sN(x:Well P h v (.tuple ds)):∃(a:Addr) (vs:List Value),v= .ref a/\h.get? a=some {cls:= .type "tuple",data:= .seq vs.toArray}/\WellAll P h vs ds:=by
 cases x with
 |tuple ho fF=>exact⟨_,_,rfl,ho,fF⟩
theorem vW{d:WData}(x:WellAll P h us (d::ds)):∃(v:Value) (vs:List Value),us=v::vs/\Well P h v d/\WellAll P h vs ds:=by
 cases x with
 |cons a b=>exact⟨_,_,rfl,a,b⟩
theorem EL{n:Nat}(h:n<=1048576):n<=sizeLine:=ajq h (by decide)
mutual
theorem LK:∀(d:WData) (v:Value),Well P h v d->Dx d=true->d.weight<=1048576->∃A:List Addr,Gv A v/\∀a∈A,ju h A a
 | .none,_,x,_,_=>by cases x;exact⟨[],trivial,fun a m=>absurd m (by simp)⟩
 | .bool b,_,x,_,_=>by cases x;exact⟨[],trivial,fun a m=>absurd m (by simp)⟩
 | .int i,_,x,_,_=>by cases x;exact⟨[],trivial,fun a m=>absurd m (by simp)⟩
 | .str s,_,x,_,_=>by cases x;exact⟨[],trivial,fun a m=>absurd m (by simp)⟩
 | .bytes b,_,x,_,_=>by cases x;exact⟨[],trivial,fun a m=>absurd m (by simp)⟩
 | .list ds,_,x,p,z=>by
  obtain⟨a,vs,rfl,ho,fF⟩:=vV x;have z2:WData.weightAll ds<=1048576:=z;obtain⟨A,h1,h2⟩:=oo ds _ fF p fun d hd=>ajq (mO hd) z2;have k:∀b∈A,b∈a::A:=fun b hb=>aiS _ hb;refine⟨a::A,aiV ..,fun b hb=>?_⟩;rcases aiZ.mp hb with e|m
  .rw[e];exact⟨vs,EL (by rw[iK fF];exact ajq (ani ds) z2),fun u hu=>(h1 u hu).mono k,.inl ho⟩
  .exact(h2 b m).mono k
 | .tuple ds,_,x,p,z=>by
  obtain⟨a,vs,rfl,ho,fF⟩:=sN x;have z2:WData.weightAll ds<=1048576:=z;obtain⟨A,h1,h2⟩:=oo ds _ fF p fun d hd=>ajq (mO hd) z2;have k:∀b∈A,b∈a::A:=fun b hb=>aiS _ hb;refine⟨a::A,aiV ..,fun b hb=>?_⟩;rcases aiZ.mp hb with e|m
  .rw[e];exact⟨vs,EL (by rw[iK fF];exact ajq (ani ds) z2),fun u hu=>(h1 u hu).mono k,.inr ho⟩
  .exact(h2 b m).mono k
 | .float _,_,_,p,_=>Bool.noConfusion (show false=true from p)
 | .dict _,_,_,p,_=>Bool.noConfusion (show false=true from p)
 | .bytearray _,_,_,p,_=>Bool.noConfusion (show false=true from p)
 | .set _,_,_,p,_=>Bool.noConfusion (show false=true from p)
 | .frozenset _,_,_,p,_=>Bool.noConfusion (show false=true from p)
 | .obj _ _,_,_,p,_=>Bool.noConfusion (show false=true from p)
theorem oo:∀(ds:List WData) (vs:List Value),WellAll P h vs ds->qr ds=true->(∀d∈ds,d.weight<=1048576)->∃A:List Addr,(∀u∈vs,Gv A u)/\∀a∈A,ju h A a
 | [],_,x,_,_=>by cases x;exact⟨[],fun u m=>absurd m (by simp),fun a m=>absurd m (by simp)⟩
 |d::ds,_,x,p,z=>by
  obtain⟨v,vs,rfl,x1,x2⟩:=vW x;have q:Dx d=true/\qr ds=true:=Bool.and_eq_true_iff.mp p;obtain⟨A,a1,a2⟩:=LK d v x1 q.1 (z d (aiV ..));obtain⟨B,b1,b2⟩:=oo ds vs x2 q.2 fun e he=>z e (aiS _ he);have kA:∀b∈A,b∈A++B:=fun b hb=>ajh.mpr (.inl hb);have kB:∀b∈B,b∈A++B:=fun b hb=>ajh.mpr (.inr hb);refine⟨A++B,fun u hu=>?_,fun b hb=>?_⟩
  .rcases aiZ.mp hu with e|m
   .rw[e];exact a1.mono kA
   .exact(b1 u m).mono kB
  .rcases ajh.mp hb with m|m
   .exact(a2 b m).mono kA
   .exact(b2 b m).mono kB
end
def NF(o:Obj):Option HO:=match o.data with
 | .seq vs _=>if(o.cls==Value.type "list")=true then some (.br o (.lst (vs.toList.map toV)))else some (.br o (.tup (vs.toList.map toV)))
 |_=>none
def kH(K:W.Frag)(h:Heap)(A:List Addr):Hp:=fun b=>if b∈A then(if(K.lookup b).isNone=true then(h.get? b).bind NF else none)else none
def Ox(H:Hp):Prop:=∀b,H b=none\/∃o u,H b=some (.br o u)
theorem AF(vs:List Value):NF {cls:= .type "list",data:= .seq vs.toArray}=some (.br {cls:= .type "list",data:= .seq vs.toArray} (.lst (vs.map toV))):=by show(if(Value.type "list"==Value.type "list")=true then some (HO.br {cls:= .type "list",data:= .seq vs.toArray} (.lst (vs.toArray.toList.map toV)))else some (HO.br {cls:= .type "list",data:= .seq vs.toArray} (.tup (vs.toArray.toList.map toV))))=_;rw[ai5 (aka _)]
theorem AE(vs:List Value):NF {cls:= .type "tuple",data:= .seq vs.toArray}=some (.br {cls:= .type "tuple",data:= .seq vs.toArray} (.tup (vs.map toV))):=by show(if(Value.type "tuple"==Value.type "list")=true then some (HO.br {cls:= .type "tuple",data:= .seq vs.toArray} (.lst (vs.toArray.toList.map toV)))else some (HO.br {cls:= .type "tuple",data:= .seq vs.toArray} (.tup (vs.toArray.toList.map toV))))=_;rw[ai0 (by decide)]
section
variable{P:Program}{K:W.Frag}
theorem sE{o:Obj}(hb:b∈A)(hk:K.lookup b=none)(e:h.get? b=some o):kH K h A b=NF o:=by unfold kH;rw[ai5 hb,hk,ai5 (show(none:Option Obj).isNone=true from rfl),e]<;>rfl
theorem Mq(q:kH K h A b=some u):b∈A/\K.lookup b=none:=by
 unfold kH at q;by_cases hb:b∈A
 .rw[ai5 hb]at q;cases hk:K.lookup b with
  |none=>exact⟨hb,rfl⟩
  |some o=>
   rw[hk,ai0 (by simp)]at q;cases q
 .rw[ai0 hb]at q;cases q
theorem sD(ar:∀a∈A,ju h A a)(q:kH K h A b=some u):K.lookup b=none/\∃vs:List Value,vs.length<=sizeLine/\(∀u∈vs,Gv A u)/\((h.get? b=some {cls:= .type "list",data:= .seq vs.toArray}/\u= .br {cls:= .type "list",data:= .seq vs.toArray} (.lst (vs.map toV)))\/ (h.get? b=some {cls:= .type "tuple",data:= .seq vs.toArray}/\u= .br {cls:= .type "tuple",data:= .seq vs.toArray} (.tup (vs.map toV)))):=by
 obtain⟨hb,hk⟩:=Mq q;obtain⟨vs,h1,h2,h3⟩:=ar b hb;refine⟨hk,vs,h1,h2,?_⟩;rcases h3 with e|e
 .rw[sE hb hk e,AF]at q;exact .inl ⟨e,(ajr q).symm⟩
 .rw[sE hb hk e,AE]at q;exact .inr ⟨e,(ajr q).symm⟩
theorem Gn(ar:∀a∈A,ju h A a):Ox (kH K h A):=fun b=>by
 cases q:kH K h A b with
 |none=>exact .inl rfl
 |some u=>
  obtain⟨_,vs,_,_,⟨_,e⟩|⟨_,e⟩⟩:=sD ar q
  .exact .inr ⟨_,_,by rw[e]⟩
  .exact .inr ⟨_,_,by rw[e]⟩
theorem Nk(ar:∀a∈A,ju h A a):jq P w (kH K h A) h:=fun b u q=>by
 obtain⟨_,vs,h1,h2,⟨e,rfl⟩|⟨e,rfl⟩⟩:=sD ar q
 .exact⟨e,by rw[aiQ];exact h1,vs,_,ik h2,e⟩
 .exact⟨e,by rw[aiQ];exact h1,vs,ik h2,_,e,Z,_,Z⟩
theorem rX{c c':Value}(e:(some {cls:=c,data:= .seq vs.toArray}:Option Obj)=some {cls:=c',data:= .seq us.toArray}):c=c'/\vs=us:=by have e1:=ajr e;have e2:c=c':=akc Obj.cls e1;have e3:Data.seq vs.toArray=Data.seq us.toArray:=akc Obj.data e1;injection e3 with e4;refine⟨e2,?_⟩;have e5:=akc Array.toList e4;simpa using e5
theorem abo(KX:K.In h)(ar:∀a∈A,ju h A a)(ha:a∈A)(e:h.get? a=some {cls:= .type "list",data:= .seq vs.toArray}):(∀u∈vs,Gv A u)/\ae K (kH K h A) a (vs.map toV):=by
 obtain⟨us,h1,h2,h3⟩:=ar a ha;have hu:us=vs:=by
  rcases h3 with q|q
  .rw[e]at q;exact(rX q).2.symm
  .rw[e]at q;exact absurd (Value.type.inj (rX q).1) (by decide)
 subst hu;refine⟨h2,?_⟩;cases hk:K.lookup a with
 |none=>exact .inl (.inr ⟨_,by rw[sE ha hk e,AF]⟩)
 |some o=>
  have e2:=KX a o hk;rw[e]at e2;obtain rfl:=ajr e2;exact .inr ⟨_,us.toArray,_,hk,Z,Z,Z,by rw[ajj];exact h1,by simpa using ik h2⟩
theorem abn(KX:K.In h)(ar:∀a∈A,ju h A a)(ha:a∈A)(e:h.get? a=some {cls:= .type "tuple",data:= .seq vs.toArray}):(∀u∈vs,Gv A u)/\gF K (kH K h A) a (vs.map toV):=by
 obtain⟨us,h1,h2,h3⟩:=ar a ha;have hu:us=vs:=by
  rcases h3 with q|q
  .rw[e]at q;exact absurd (Value.type.inj (rX q).1) (by decide)
  .rw[e]at q;exact(rX q).2.symm
 subst hu;refine⟨h2,?_⟩;cases hk:K.lookup a with
 |none=>exact .inl (.inr ⟨_,by rw[sE ha hk e,AE]⟩)
 |some o=>
  have e2:=KX a o hk;rw[e]at e2;obtain rfl:=ajr e2;exact .inr ⟨_,us.toArray,_,hk,Z,Z,by rw[ajj];exact h1,by simpa using ik h2⟩
mutual
theorem Rc{Pm:Params}(KX:K.In h)(ar:∀a∈A,ju h A a):∀(d:WData) (v:Value),Well Pm h v d->Dx d=true->Gv A v->Dw K (kH K h A) (toV v) d
 | .none,_,x,_,_=>by cases x;exact .cW
 | .bool b,_,x,_,_=>by cases x;exact .bl b
 | .int i,_,x,_,_=>by cases x;exact .int i
 | .str s,_,x,_,_=>by cases x;exact .str s
 | .bytes b,_,x,_,_=>by cases x;have z:=Dw.yU (K:=K) (H:=kH K h A) b.toArray;exact z
 | .list ds,_,x,p,hu=>by obtain⟨a,vs,rfl,ho,fF⟩:=vV x;obtain⟨h2,hs⟩:=abo KX ar hu ho;exact .lst hs (yI KX ar ds _ fF p h2)
 | .tuple ds,_,x,p,hu=>by obtain⟨a,vs,rfl,ho,fF⟩:=sN x;obtain⟨h2,hs⟩:=abn KX ar hu ho;exact .tup hs (yI KX ar ds _ fF p h2)
 | .float _,_,_,p,_=>Bool.noConfusion (show false=true from p)
 | .dict _,_,_,p,_=>Bool.noConfusion (show false=true from p)
 | .bytearray _,_,_,p,_=>Bool.noConfusion (show false=true from p)
 | .set _,_,_,p,_=>Bool.noConfusion (show false=true from p)
 | .frozenset _,_,_,p,_=>Bool.noConfusion (show false=true from p)
 | .obj _ _,_,_,p,_=>Bool.noConfusion (show false=true from p)
theorem yI{Pm:Params}(KX:K.In h)(ar:∀a∈A,ju h A a):∀(ds:List WData) (vs:List Value),WellAll Pm h vs ds->qr ds=true->(∀u∈vs,Gv A u)->iX K (kH K h A) (vs.map toV) ds
 | [],_,x,_,_=>by cases x;exact .nil
 |d::ds,_,x,p,hu=>by obtain⟨v,vs,rfl,x1,x2⟩:=vW x;have q:Dx d=true/\qr ds=true:=Bool.and_eq_true_iff.mp p;exact .cons (Rc KX ar d v x1 q.1 (hu _ (aiV ..))) (yI KX ar ds vs x2 q.2 fun u m=>hu u (aiS _ m))
end
end
theorem tZ(h:WData.layableAll ds=true):∀d∈ds,d.weight<=1048576:=fun d hd=>
 (W.layableW_iff.mp (ajA.mp h d hd)).2.2
theorem uI:∀(cs:List Codec) (a:Codec.denoteAll cs),(Codec.encAll cs a).length=cs.length
 | [],_=>rfl
 |c::cs,a=>by show(Codec.encAll cs a.2).length+1=cs.length+1;rw[uI cs a.2]
end L2
end
namespace L2
open PySem PySem.Spec PyProof.Rows
open PySem.W (WData Codec OpenSpec Well WellAll ReadsW ReadsAllW CodeHd)
variable{CX:Nz}{ps:List Str}
def LP(TB:List (Addr×Addr))(H:Hp):Prop:=∀b,H b=none\/(∃o u,H b=some (.br o u))\/(b∈TB.map (·.2)/\H b=some (.hU #[]))
mutual
theorem NX{K:W.Frag}{H H':Hp}(h1:∀{a:Addr} {xs:List V},ae K H a xs->ae K H' a xs)(h2:∀{a:Addr} {xs:List V},gF K H a xs->gF K H' a xs):∀{v:V} {d:WData},Dw K H v d->Dw K H' v d
 |_,_,.cW=> .cW
 |_,_,.bl b=> .bl b
 |_,_,.int i=> .int i
 |_,_,.str x=> .str x
 |_,_,.yU b=> .yU b
 |_,_,.lst s a=> .lst (h1 s) (jd h1 h2 a)
 |_,_,.tup s a=> .tup (h2 s) (jd h1 h2 a)
theorem jd{K:W.Frag}{H H':Hp}(h1:∀{a:Addr} {xs:List V},ae K H a xs->ae K H' a xs)(h2:∀{a:Addr} {xs:List V},gF K H a xs->gF K H' a xs):∀{vs:List V} {ds:List WData},iX K H vs ds->iX K H' vs ds
 |_,_,.nil=> .nil
 |_,_,.cons x r=> .cons (NX h1 h2 x) (jd h1 h2 r)
end
theorem Ba{P:Program}{w:World}{K:W.Frag}{mg mb:Str->Option Value}{k:Nat}{fa:Addr}{fd:FuncData}{sp:Sp}{s₁:Shared}{vals:List Value}{ds:List WData}{R:W.WRecords}{cl:Str->Option Addr}{d0:WData}{TB:List (Addr×Addr)} (KX:K.In s₁.heap)(yk:s₁.heap.Ns mainGlobals mg)(hb:s₁.heap.Ns builtinsNs mb)(pZ:∀x:Str,x≠"__name__"->mb x=bootBuiltins x)(aak:s₁.heap.NoLimit)(hg:s₁.gens= #[]) (RF:∀q∈TB,CodeHd s₁.heap q.1 q.2/\s₁.heap.get? q.2=some (W.tabObj #[]))(Xq:∀q∈TB,K.lookup q.2=none) (hBM:∃bm o,mg "__builtins__"=some (.ref bm)/\bm≠builtinsNs/\s₁.heap.get? bm=some o/\o.cls= .type "module"/\o.dict=some builtinsNs/\o.data= .plain) (CY:WellAll w.params s₁.heap vals ds)(mI:qr ds=true)(hwt:∀d∈ds,d.weight<=1048576)(hr:cu k callerA) (F:∀base:Heap,K.In base->base.Ns mainGlobals mg->BM base mg->(∀q∈TB,CodeHd base q.1 q.2)->gU P w K mg base CX k fa fd ps sp)(Km:∀(s:Shared) (us:List Value),us.length=ps.length->BindsTo s fd ⟨us,[]⟩ (ps.zip us))(hlen:ds.length=ps.length) (tw:∀(H:Hp) (xs:List V),LP TB H->(∀q∈TB,H q.2=some (.hU #[]))->iX K H xs ds->sp xs H (fun v H'=>Dw K H' v d0) fun _ _ _=>False) (hCX:∀H e s',CX [] H s₁ (fun _ _ _=>False) e s'->False):codeAny (model P w) callerA (.call (.ref fa) ⟨vals,[]⟩) (fun r s'=>∃u as,r= .ok (.ret u)/\ReadsW R cl s'.heap u d0 as/\OldK s₁.heap s'.heap/\s'.os=s₁.os/\AllBare s'.gens) s₁:=by
 obtain⟨A,ho,ar⟩:=oo ds vals CY mI hwt;have hO:Ox (kH K s₁.heap A):=Gn ar;have bK:jq P w (kH K s₁.heap A) s₁.heap:=Nk ar;have hS:=yI KX ar ds vals CY mI ho;have hV:=ik ho;have hK:∀b u,kH K s₁.heap A b=some u->K.lookup b=none:=fun b u q=>(sD ar q).1;have J9:∀{b:Addr} {u:HO},kH K s₁.heap A b=some u->∃vs n c,s₁.heap.get? b=some {cls:=c,data:= .seq vs n}:=fun{b u} q=>by
  obtain⟨_,vs,_,_,⟨e2,_⟩|⟨e2,_⟩⟩:=sD ar q
  .exact⟨_,_,_,e2⟩
  .exact⟨_,_,_,e2⟩
 generalize kH K s₁.heap A=H0 at hO bK hS hK J9;let H:Hp:=fun b=>if b∈TB.map (·.2)then some (.hU #[])else H0 b
 have nT:∀b u,H0 b=some u->b∉TB.map (·.2):=(fun b u q hm=>by obtain⟨r,gO,e⟩:=ai7.mp hm;obtain⟨vs,n,c,e2⟩:=J9 q;have e3:=(RF r gO).2;rw[e,e2]at e3;cases e3);have LS:∀b,b∉TB.map (·.2)->H b=H0 b:=(fun b hb=>by show(if b∈TB.map (·.2)then _ else _)=_;rw[ai0 hb]);have Wf:∀b,b∈TB.map (·.2)->H b=some (.hU #[]):=(fun b hb=>by show(if b∈TB.map (·.2)then _ else _)=_;rw[ai5 hb]);have sm:∀b u,H0 b=some u->H b=some u:=(fun b u q=>by rw[LS b (nT b u q)];exact q);have tabAt:∀b,b∈TB.map (·.2)->s₁.heap.get? b=some (W.tabObj #[]):=(fun b hm=>by obtain⟨r,gO,e⟩:=ai7.mp hm;rw[<-e];exact(RF r gO).2);have hO':LP TB H:=fun b=>by
  by_cases pb:b∈TB.map (·.2)
  .exact .inr (.inr ⟨pb,Wf b pb⟩)
  .rw[LS b pb];rcases hO b with z|z
   .exact .inl z
   .exact .inr (.inl z)
 have VI:jq P w H s₁.heap:=fun b u q=>by
  by_cases pb:b∈TB.map (·.2)
  .rw[Wf b pb]at q;cases q;exact tabAt b pb
  .rw[LS b pb]at q;exact(bK b u q).ql (fun _ _ _ e=>e) (fun c z=>sm c _ z) fun c xs z=>sm c _ z
 have sqS:∀{a:Addr} {xs:List V},ae K H0 a xs->ae K H a xs:=fun{a xs} h=>by
  rcases h with(h|⟨o,h⟩)|h
  .exact .inl (.inl (sm _ _ h))
  .exact .inl (.inr ⟨o,sm _ _ h⟩)
  .exact .inr h
 have sqT:∀{a:Addr} {xs:List V},gF K H0 a xs->gF K H a xs:=fun{a xs} h=>by
  rcases h with(h|⟨o,h⟩)|h
  .exact .inl (.inl (sm _ _ h))
  .exact .inl (.inr ⟨o,sm _ _ h⟩)
  .exact .inr h
 have Kr:iX K H (vals.map toV) ds:=jd sqS sqT hS;have nK:∀b o,K.lookup b=some o->H b=none:=fun b o e=>by
  have nb:b∉TB.map (·.2):=(fun hm=>by obtain⟨r,gO,e2⟩:=ai7.mp hm;have:=Xq r gO;rw[e2,e]at this;cases this);rw[LS b nb];cases q:H0 b with
  |none=>rfl
  |some u=>
   rw[hK b u q]at e;cases e
 have sC:∀{b:Addr} {o:Obj},s₁.heap.get? b=some o->H b=none->(tz s₁.heap H).get? b=some o:=fun e n=>Kg e n;have QL:∀{b:Addr} {o:Obj},s₁.heap.get? b=some o->(∀vs n,o.data≠ .seq vs n)->(∀vs,o.data≠ .fields vs\/o.cls≠ .none)->H b=none:=fun{b o} e d d2=>by
  have nb:b∉TB.map (·.2):=fun hm=>by
   have:=tabAt b hm;rw[e]at this;cases this;rcases d2 #[]with z|z
   .exact z rfl
   .exact z rfl
  rw[LS b nb];cases q:H0 b with
  |none=>rfl
  |some u=>
   obtain⟨vs,n,c,e2⟩:=J9 q;rw[e2]at e;cases e;exact absurd rfl (d vs n)
 have XA:∀{b:Addr} {m:Str->Option Value},s₁.heap.Ns b m->(tz s₁.heap H).Ns b m:=fun{b m} ⟨o,es,ep,e,d,r⟩=>⟨o,es,ep,sC e (QL e (fun vs n z=>by rw[d]at z;cases z) fun vs=> .inl fun z=>by rw[d]at z;cases z),d,r⟩;have hKb:K.In (tz s₁.heap H):=fun b o e=>sC (KX b o e) (nK b o e);have hM:Mod K mg (tz s₁.heap H):=⟨hKb,XA yk,⟨mb,XA hb,pZ⟩,let⟨mc,h1,h2⟩:=aak;⟨mc,XA h1,h2⟩⟩;have e0:vO P w K mg (tz s₁.heap H) callerA [] s₁ H:=⟨rfl,hM,fun b o e=>Mp e,alE (GN _ _),trivial,fun b hb=>absurd (show b∈([]:List Addr)from hb) (by simp),VI,.of_eq hg⟩;have hl:vals.length=ps.length:=(by rw[iK CY];exact hlen);have hbm:BM (tz s₁.heap H) mg:=(by obtain⟨bm,o,b1,b2,b3,b4,b5,b6⟩:=hBM;refine⟨bm,o,b1,b2,fun q=>?_,sC b3 (QL b3 (fun vs n z=>by rw[b6]at z;cases z) fun vs=> .inl fun z=>by rw[b6]at z;cases z),b4,b5,b6⟩;obtain⟨o',es,ep,e,hd,_⟩:=yk;rw[q,e]at b3;cases b3;rw[hd]at b6;cases b6);have uD:∀q∈TB,CodeHd (tz s₁.heap H) q.1 q.2:=(fun q hq=>by obtain⟨o,vs,file,tf,flags,tg,inF,text,tt,e,c1,c2,r⟩:=(RF q hq).1;exact⟨o,vs,file,tf,flags,tg,inF,text,tt,sC e (QL e (fun vs n z=>by rw[c2]at z;cases z) fun _=> .inr (by rw[c1];intro z;cases z)),c1,c2,r⟩);refine akH ((F _ hKb (XA yk) hbm uD).run callerA [] s₁ H ⟨vals,[]⟩ vals (vals.map toV) _ _ hr e0 (Km s₁ vals hl) hV (tw H _ hO' (fun q hq=>Wf _ (List.mem_map_of_mem hq)) Kr)) fun r s' x=>?_;cases r with
 |error e=>exact(hCX H e s' x).elim
 |ok fl=>
  cases fl with
  |next=>exact False.elim x
  |brk=>exact False.elim x
  |cont=>exact False.elim x
  |ret u=>
   obtain⟨v,H',os,bare,un,ND,r',q⟩:=x;have kept:∀b o,s₁.heap.get? b=some o->b∉TB.map (·.2)->s'.heap.get? b=some o:=fun b o e nb=>by
    cases q2:H b with
    |none=>exact un.keep b o e q2 (by intro z;exact absurd (show b∈([]:List Addr)from z) (by simp)) (by simp)
    |some u2=>
     rcases hO' b with z|⟨ob,u3,z⟩|⟨z,_⟩
     .rw[q2]at z;cases z
     .have z2:=un.uF b ob _ z;obtain⟨e1,_⟩:=VI b _ z;obtain⟨e2,_⟩:=ND b _ z2;rw[e]at e1;cases e1;exact e2
     .exact absurd z nb
   have KX':K.In s'.heap:=(fun b o e=>kept b o (KX b o e) fun hm=>by obtain⟨r,gO,e2⟩:=ai7.mp hm;have:=Xq r gO;rw[e2,e]at this;cases this);obtain⟨as,jm⟩:=Dw.reads (R:=R) (cl:=cl) ND KX' d0 v u q r';refine⟨u,as,Z,jm,⟨fun b o e=>?_,fun b o e=>?_⟩,os,bare⟩
   .by_cases hm:b∈TB.map (·.2)
    .have e2:=tabAt b hm;rw[e]at e2;cases e2;obtain⟨more,z⟩:=un.qk b #[] (Wf b hm);have z2:s'.heap.get? b=some {cls:= .none,data:= .fields (#[]++more)}:=ND b _ z;obtain⟨r,gO,er⟩:=ai7.mp hm;have ict:isCodeTable s₁.heap b:=(by have t:=((RF r gO).1.tab (RF r gO).2);rw[<-er];exact t.isCodeTable);exact .inr (.inl ⟨ict,Z,#[],more,Z,z2⟩)
    .exact .inl (kept b o e hm)
   .by_cases hm:b∈TB.map (·.2)
    .obtain⟨more,z⟩:=un.qk b #[] (Wf b hm);exact⟨_,ND b _ z⟩
    .exact⟨o,kept b o e hm⟩
theorem BL{r:OpenSpec}{k:Nat}{q:Program}{loose:List Str}{XP:(Str->Option Value)->Heap->Prop}{YP:World->Heap->Prop}{d:DefRec}{K:Params->W.Frag}{sp:W.Frag->List (Addr×Addr)->Sp}(names:List Str) (Ux:r.wellSaid=true)(hdf:d.params.defaults=[])(hlen:r.args.length=ps.length)(hr:cu k callerA) (hY:∀(w:World) (h:Heap),YP w h->(K w.params).In h)(Qi:∀x∈names,∃dd,(recsOf q).find? (fun e=>e.name==x)=some dd) (F:∀(w:World) (mg:Str->Option Value) (fa:Addr) (h:Heap),YP w h->(K w.params).In h->h.Ns mainGlobals mg->mg d.name=some (.ref fa)->∃(fd:FuncData) (TB:List (Addr×Addr)),(∀t∈TB,(∃x∈names,W.tabIn (K w.params) x=some t)/\(K w.params).lookup t.2=none)/\(∀(s:Shared) (us:List Value),us.length=ps.length->BindsTo s fd ⟨us,[]⟩ (ps.zip us))/\∀base:Heap,(K w.params).In base->base.Ns mainGlobals mg->BM base mg->(∀t∈TB,CodeHd base t.1 t.2)->gU r.prog w (K w.params) mg base CX k fa fd ps (sp (K w.params) TB)) (tw:∀(K:W.Frag) (TB:List (Addr×Addr)) (H:Hp) (xs:List V) (a:Codec.denoteAll r.args),LP TB H->(∀t∈TB,H t.2=some (.hU #[]))->Codec.withinAll r.args a=true->Codec.app r.args r.asked a=true->iX K H xs (Codec.encAll r.args a)->sp K TB xs H (fun v H'=>Dw K H' v (r.ret.enc (Codec.app r.args r.f a))) fun _ _ _=>False) (hCX:∀(H:Hp) (s:Shared) (e:Value) (s':Shared),CX [] H s (fun _ _ _=>False) e s'->False):W.WalkOS q loose XP YP r d [] (fun f vs=>PySem.call f vs):=by intro w qm s₁ mg mb G Y fa o pm cd doc dV kV ho hd uD hD KP hg args vals as Z5 aal jm CY hlo;obtain⟨a,e1,e2⟩:=W.os_pre_some Z5;obtain⟨e3,Zf⟩:=Codec.encAll_of_decAll r.args args a e1;subst e3;have KX:=hY w _ Y;obtain⟨fd,TB,KE,hb,hF⟩:=F w mg fa _ Y KX G.T.g KP;have RF:∀t∈TB,CodeHd s₁.heap t.1 t.2/\s₁.heap.get? t.2=some (W.tabObj #[]):=(fun t ht=>by obtain⟨x,hx,e⟩:=(KE t ht).1;obtain⟨dd,NM⟩:=Qi x hx;exact W.tab_of G.T KX NM e);have Xq:∀t∈TB,(K w.params).lookup t.2=none:=fun t ht=>(KE t ht).2;refine W.enter_call (akH (Ba (R:=[]) (cl:=classAt qm.heap) (d0:=r.ret.enc (Codec.app r.args r.f a)) KX G.T.g G.T.b G.T.builtins G.T.nolimit hg RF Xq G.T.bmain CY (vw _ _) (tZ aal) hr hF hb (by rw[uI];exact hlen) (fun H xs hO hT hS=>tw (K w.params) TB H xs a hO hT Zf e2 hS) fun H e s'=>hCX H s₁ e s') fun r' s' hq=>?_);obtain⟨u,qG,rfl,h1,h2,h3,h4⟩:=hq;exact⟨.inl ⟨u,_,qG,Z,fun _=>rfl,h1,(OpenSpec.post_iff Ux Zf _ _).mpr rfl,fun z=>Bool.noConfusion (show false=true from z)⟩,h2,h3,h4⟩
end L2
namespace PM
open Vbkoac
variable{h:Known}{a m n:Node}{f:Node->List Node}{J K d e i j num q:Nat}{l:List Node}{p:Paper}{r:Revoke}{S T:Node->Bool}{α:Type}{vs:List (List Node)}
theorem pD(l:List Node):union l []=l:=rfl
theorem g9(l:List Node)(x:Node)(r:List Node):union l (x::r)=union (if l.contains x=true then l else l++[x]) r:=rfl
theorem cg(l a b:List Node):union l (a++b)=union (union l a) b:=alF
theorem cf:∀(m l:List Node),∃t,union l m=l++t
 | [],l=>⟨[],by simp[pD]⟩
 |x::r,l=>by
  rw[g9];by_cases h:l.contains x=true
  .rw[ai5 h];exact cf r l
  .rw[ai0 h];obtain⟨t,e⟩:=cf r (l++[x]);exact⟨x::t,by rw[e];simp⟩
theorem bg:∀{m l:List Node} {y:Node},y∈union l m↔y∈l\/y∈m
 | [],l,y=>by simp[pD]
 |x::r,l,y=>by
  rw[g9,bg (m:=r)];by_cases h:l.contains x=true
  .rw[ai5 h];have hx:x∈l:=ajp.mp h;constructor
   .rintro(a|a)
    .exact .inl a
    .exact .inr (aiS _ a)
   .rintro(a|a)
    .exact .inl a
    .rcases aiZ.mp a with rfl|b
     .exact .inl hx
     .exact .inr b
  .rw[ai0 h];simp[or_assoc]
theorem eN:∀{m l:List Node},l.Nodup->(union l m).Nodup
 | [],l,h=>h
 |x::r,l,h=>by
  rw[g9];by_cases c:l.contains x=true
  .rw[ai5 c];exact eN h
  .rw[ai0 c];refine eN ?_;have hx:x∉l:=fun q=>c (ajp.mpr q);refine akz.mpr ⟨h,by simp,?_⟩;intro a ha b hb;rw[aiU.mp hb];exact fun q=>hx (q▸ha)
theorem jI:∀{m l:List Node},(∀x∈m,x∈l)->union l m=l
 | [],l,_=>rfl
 |x::r,l,h=>by rw[g9,ai5 (ajp.mpr (h x (aiV ..)))];exact jI fun y hy=>h y (aiS _ hy)
theorem xG{m:List Node}(h:(union l m).length=l.length):union l m=l:=by obtain⟨t,e⟩:=cf m l;rw[e]at h⊢;rw[aiT]at h;have:t=[]:=alB.mp (by omega);rw[this,ajs]
def ao(f:Node->List Node):Nat->List Node->List Node
 |0,l=>l
 |k+1,l=>let m:=union l (l.flatMap f)
  if m.length=l.length then l else ao f k m
theorem hX(h:Known):∀k l,reach h k l=ao (below h) k l
 |0,_=>rfl
 |k+1,l=>by unfold reach ao;simp only[hX h k]
theorem qV(h:Known)(ls:List (List Node)):∀k l,needed h ls k l=ao (fun n=>groundRests h n (groundOf h ls n)) k l
 |0,_=>rfl
 |k+1,l=>by unfold needed ao;simp only[qV h ls k]
theorem qa(h:Known)(st:List Node):∀k l,failed h st k l=ao (failing h st) k l
 |0,_=>rfl
 |k+1,l=>by unfold failed ao;simp only[qa h st k]
def yh(f:Node->List Node):Nat->List Node->List Node
 |0,l=>l
 |k+1,l=>yh f k (union l (l.flatMap f))
def bS(f:Node->List Node)(l:List Node):Prop:=∀x∈l,∀y∈f x,y∈l
theorem bS.union(h:bS f l):union l (l.flatMap f)=l:=jI fun y hy=>by obtain⟨x,hx,GA⟩:=ajH.mp hy;exact h x hx y GA
theorem rK(h:union l (l.flatMap f)=l):bS f l:=fun x hx y hy=>by rw[<-h];exact bg.mpr (.inr (ajH.mpr ⟨x,hx,hy⟩))
theorem mY{f:Node->List Node}{l:List Node}(h:bS f l):∀k,yh f k l=l
 |0=>rfl
 |k+1=>by unfold yh;rw[h.union];exact mY h k
theorem dJ(f:Node->List Node):∀k l,ao f k l=yh f k l
 |0,_=>rfl
 |k+1,l=>by
  unfold ao yh;simp only;by_cases h:(union l (l.flatMap f)).length=l.length
  .rw[ai5 h];have e:=xG h;rw[e];exact(mY (rK e) k).symm
  .rw[ai0 h];exact dJ f k _
theorem filter_lt{α:Type}(p q:α->Bool)(VG:∀x,p x=true->q x=true):∀(B:List α),(∃x∈B,q x=true/\p x=false)->(B.filter p).length<(B.filter q).length
 | [],h=>by obtain⟨x,hx,_⟩:=h;cases hx
 |b::B,h=>by
  have le:∀C:List α,(C.filter p).length<=(C.filter q).length:=fun C=>by
   induction C with
   |nil=>exact ai2 _
   |cons c C ih=>
    by_cases hp:p c=true
    .rw[ajT hp,ajT (VG c hp)];simp;exact ih
    .rw[akb hp];by_cases hq:q c=true
     .rw[ajT hq];simp;omega
     .rw[akb hq];exact ih
  obtain⟨x,hx,hq,hp⟩:=h;rcases aiZ.mp hx with rfl|Lg
  .rw[akb (by rw[hp];simp),ajT hq];simp;have:=le B;omega
  .have ih:=filter_lt p q VG B ⟨x,Lg,hq,hp⟩;by_cases hp:p b=true
   .rw[ajT hp,ajT (VG b hp)];simp;exact ih
   .rw[akb hp];by_cases hq:q b=true
    .rw[ajT hq];simp;omega
    .rw[akb hq];exact ih
theorem Dm{f:Node->List Node}{P:Node->Prop}{B:List Node}(hP:∀x,P x->∀y∈f x,P y)(hB:∀x,P x->f x≠[]->x∈B):∀(k:Nat) (a b:List Node),(a++b).Nodup->(∀x∈a++b,P x)->(∀x∈a,∀y∈f x,y∈a++b)->(B.filter fun x=> !a.contains x).length<k->bS f (yh f k (a++b))
 |0,_,_,_,_,_,h=>absurd h (alb _)
 |k+1,a,b,nd,hp,hc,h=>by
  unfold yh;by_cases hb:∃x∈b,f x≠[]
  .obtain⟨x,hx,jZ⟩:=hb;obtain⟨t,e⟩:=cf ((a++b).flatMap f) (a++b);have nd':=eN (m:=(a++b).flatMap f) nd;have im:∀y∈a++b,∀z∈f y,z∈union (a++b) ((a++b).flatMap f):=fun y hy z hz=>bg.mpr (.inr (ajH.mpr ⟨y,hy,hz⟩));have pp:∀y∈union (a++b) ((a++b).flatMap f),P y:=fun y hy=>by
    rcases bg.mp hy with q|q
    .exact hp y q
    .obtain⟨z,hz,GA⟩:=ajH.mp q;exact hP z (hp z hz) y GA
   rw[e]at nd' im pp⊢;refine Dm hP hB k (a++b) t nd' pp im ?_;have Ut:x∉a:=fun q=>(akz.mp nd).2.2 x q x hx rfl;have lt:=filter_lt (fun y=> !(a++b).contains y) (fun y=> !a.contains y) (fun y hy=>by simp at hy⊢;exact fun q=>hy.1 q) B ⟨x,hB x (hp x (ajI _ hx)) jZ,by simp[Ut],by simp[hx]⟩;omega
  .have ib:bS f (a++b):=fun x hx y hy=>by
    rcases ajh.mp hx with q|q
    .exact hc x q y hy
    .exact absurd ⟨x,q,fun e=>by rw[e]at hy;cases hy⟩ hb
   rw[ib.union,mY ib];exact ib
theorem jM{f:Node->List Node}{P:Node->Prop}(hP:∀x,P x->∀y∈f x,P y):∀k l,(∀x∈l,P x)->∀x∈yh f k l,P x
 |0,_,h=>h
 |k+1,l,h=>by
  unfold yh;refine jM hP k _ fun y hy=>?_;rcases bg.mp hy with q|q
  .exact h y q
  .obtain⟨z,hz,GA⟩:=ajH.mp q;exact hP z (h z hz) y GA
theorem Dl{f:Node->List Node}:∀k l,∀x∈l,x∈yh f k l
 |0,_,_,h=>h
 |k+1,l,x,h=>by unfold yh;exact Dl k _ x (bg.mpr (.inl h))
theorem vo{f:Node->List Node}:∀k l,l.Nodup->(yh f k l).Nodup
 |0,_,h=>h
 |k+1,l,h=>by unfold yh;exact vo k _ (eN h)
def eB(f:Node->List Node)(l:List Node):Nat->List Node
 |0=>l
 |p+1=>match(eB f l p)[p]? with
  |some x=>union (eB f l p) (f x)
  |none=>eB f l p
theorem zO{p:Nat}(h:(eB f l p).length<=p):∀q,p<=q->eB f l q=eB f l p:=fun q hq=>by
 induction q with
 |zero=>
  have:p=0:=(by omega);rw[this]
 |succ q ih=>
  by_cases e:p=q+1
  .rw[e]
  .have ih:=ih (by omega);show(match(eB f l q)[q]? with|some x=>union (eB f l q) (f x)|none=>eB f l q)=_;rw[ih,alK (by omega)]
theorem B2(p:Nat):∃t,eB f l (p+1)=eB f l p++t:=by
 show∃t,(match(eB f l p)[p]? with|some x=>union (eB f l p) (f x)|none=>eB f l p)=_;cases(eB f l p)[p]? with
 |none=>exact⟨[],by simp⟩
 |some x=>exact cf _ _
theorem Dq{f:Node->List Node}{l:List Node}{p:Nat}{a b:List Node}(e:eB f l p=a++b)(ha:a.length=p):∀j,j<=b.length->eB f l (p+j)=union (a++b) ((b.take j).flatMap f)
 |0,_=>by simp[e,pD]
 |j+1,hj=>by have ih:=Dq e ha j (by omega);show(match(eB f l (p+j))[p+j]? with|some x=>union (eB f l (p+j)) (f x)|none=>eB f l (p+j))=_;obtain⟨t,et⟩:=cf ((b.take j).flatMap f) (a++b);have hb:j<b.length:=hj;have g:(eB f l (p+j))[p+j]?=some b[j]:=(by rw[ih,et,ajE,alS (by omega),ha,alZ,alp hb,aiW hb]);rw[g];simp only;rw[ih,<-cg,akx hb,aj9];simp
theorem Dr{f:Node->List Node}{l0:List Node}:∀(k:Nat) (p:Nat) (a b:List Node),eB f l0 p=a++b->a.length=p->(∀x∈a,∀y∈f x,y∈a++b)->∃q,eB f l0 q=yh f k (a++b)
 |0,p,a,b,e,_,_=>⟨p,e⟩
 |k+1,p,a,b,e,ha,hc=>by have r:=Dq e ha b.length (ai2 _);rw[ai9]at r;have u:union (a++b) ((a++b).flatMap f)=union (a++b) (b.flatMap f):=(by have n:union (a++b) (a.flatMap f)=a++b:=(jI fun y hy=>by obtain⟨x,hx,GA⟩:=ajH.mp hy;exact hc x hx y GA);rw[aj9,cg,n]);unfold yh;obtain⟨t,et⟩:=cf ((a++b).flatMap f) (a++b);have im:∀y∈a++b,∀z∈f y,z∈union (a++b) ((a++b).flatMap f):=fun y hy z hz=>bg.mpr (.inr (ajH.mpr ⟨y,hy,hz⟩));rw[<-u]at r;rw[et]at r im⊢;exact Dr k (p+b.length) (a++b) t r (by rw[aiT,ha]) im
theorem ng{p:Nat}(h:p<=q):∃t,eB f l q=eB f l p++t:=by
 induction q with
 |zero=>
  have:p=0:=(by omega);exact⟨[],by rw[this];simp⟩
 |succ q ih=>
  by_cases e:p=q+1
  .exact⟨[],by rw[e];simp⟩
  .obtain⟨t,et⟩:=ih (by omega);obtain⟨t',WJ⟩:=B2 (f:=f) (l:=l) q;exact⟨t++t',by rw[WJ,et,ajE]⟩
theorem tE(hc:bS f (ao f K l)):∃q,∀r,q<=r->eB f l r=ao f K l:=by
 rw[dJ]at hc⊢;obtain⟨q,e⟩:=Dr (f:=f) (l0:=l) K 0 [] l rfl rfl (fun x hx=>nomatch hx);rw[akP]at e;have st:∀r,q<=r->eB f l r=yh f K l:=fun r hr=>by
  induction r with
  |zero=>
   have:q=0:=(by omega);rw[<-e,this]
  |succ r ih=>
   by_cases h:q=r+1
   .rw[<-e,h]
   .have ih:=ih (by omega);show(match(eB f l r)[r]? with|some x=>union (eB f l r) (f x)|none=>eB f l r)=_;rw[ih];cases g:(yh f K l)[r]? with
    |none=>rfl
    |some x=>exact jI fun y hy=>hc x (ai1 g) y hy
 exact⟨q,st⟩
theorem tF{p:Nat}(hp:(eB f l p).length<=p)(hc:bS f (ao f K l)):eB f l p=ao f K l:=by obtain⟨q,st⟩:=tE hc;rw[<-st (max p q) (alm _ _)];exact(zO hp _ (amd _ _)).symm
theorem jN(hc:bS f (ao f K l))(p:Nat):∃t,ao f K l=eB f l p++t:=by obtain⟨q,st⟩:=tE hc;rw[<-st (max p q) (alm _ _)];exact ng (amd _ _)
theorem zP(hc:bS f (ao f K l)):∃q,(eB f l q).length<=q:=by obtain⟨q,st⟩:=tE hc;refine⟨max q (ao f K l).length,?_⟩;rw[st _ (amd _ _)];exact alm _ _
def yy(h:Known)(S:Node->Bool)(n:Node):Bool:=match paperOf h n.1 with
 |none=>false
 |some p=>own h p n.2&&p.grounds.any fun g=>g.all fun r=>S (nodeOf p n.2 r)
theorem BP(h:Known)(l:List Node)(n:Node):upheld h l n=yy h (fun x=>l.contains x) n:=rfl
def lv(h:Known):Nat->Node->Bool
 |0,_=>false
 |k+1,n=>yy h (lv h k) n
theorem fO(hp:paperOf h n.1=some p):m∈below h n↔∃g∈p.grounds,∃r∈g,nodeOf p n.2 r=m:=by unfold below;rw[hp];simp[ajH,ai7]
theorem va(e:∀m∈below h n,S m=T m):yy h S n=yy h T n:=by
 unfold yy;cases hp:paperOf h n.1 with
 |none=>rfl
 |some p=>
  simp only;congr 1;rw[ajw,ajX,ajX];have q:∀g∈p.grounds,(g.all fun r=>S (nodeOf p n.2 r))=(g.all fun r=>T (nodeOf p n.2 r)):=fun g hg=>by
   rw[ajw,ajA,ajA];have z:∀r∈g,S (nodeOf p n.2 r)=T (nodeOf p n.2 r):=fun r hr=>e _ ((fO hp).mpr ⟨g,hg,r,hr,rfl⟩);constructor
   .intro a r hr;rw[<-z r hr];exact a r hr
   .intro a r hr;rw[z r hr];exact a r hr
  constructor
  .rintro⟨g,hg,a⟩;exact⟨g,hg,by rw[<-q g hg];exact a⟩
  .rintro⟨g,hg,a⟩;exact⟨g,hg,by rw[q g hg];exact a⟩
theorem Ha(e:∀m,S m=true->T m=true):yy h S n=true->yy h T n=true:=by
 unfold yy;cases hp:paperOf h n.1 with
 |none=>exact fun z=>z
 |some p=>
  simp only[ajn,ajX,ajA];rintro⟨a,g,hg,b⟩;exact⟨a,g,hg,fun r hr=>e _ (b r hr)⟩
theorem rg{h:Known}:∀{k:Nat} {n:Node},lv h k n=true->lv h (k+1) n=true
 |0,_,e=>nomatch e
 |k+1,n,e=>Ha (fun m hm=>rg (k:=k) hm) e
theorem iQ{k:Nat}(hk:k<=j)(e:lv h k n=true):lv h j n=true:=by
 induction j with
 |zero=>
  have:k=0:=(by omega);rw[<-this];exact e
 |succ j ih=>
  by_cases q:k=j+1
  .rw[<-q];exact e
  .exact rg (ih (by omega))
theorem tX{k:Nat}(e:lv h k n=true):∃p,paperOf h n.1=some p:=by
 cases k with
 |zero=>cases e
 |succ k=>
  unfold lv yy at e;cases hp:paperOf h n.1 with
  |none=>rw[hp]at e;cases e
  |some p=>exact⟨p,rfl⟩
def kJ(h:Known)(ns:List Node)(k:Nat):List Node:=ns.filter (lv h k)
theorem zy(h:Known)(ns:List Node):kJ h ns 0=[]:=by unfold kJ;rw[al7];intro a _ q;cases q
theorem eh{ns:List Node}{k:Nat}(hn:n∈ns):(kJ h ns k).contains n=lv h k n:=by rw[ajw,ajp];unfold kJ;rw[ajy];exact⟨fun z=>z.2,fun z=>⟨hn,z⟩⟩
theorem J2{ns:List Node}(hc:bS (below h) ns)(k:Nat):ns.filter (upheld h (kJ h ns k))=kJ h ns (k+1):=by unfold kJ;refine akA fun n hn=>?_;rw[BP];exact va fun m hm=>eh (hc n hn m hm)
def zx(h:Known)(ns:List Node):Nat->List (List Node)
 |0=>[[]]
 |j+1=>kJ h ns (j+1)::zx h ns j
theorem wG(h:Known)(ns:List Node):∀j,(zx h ns j).headD []=kJ h ns j
 |0=>(zy h ns).symm
 |j+1=>rfl
theorem qX{h:Known}{ns:List Node}(hc:bS (below h) ns):∀f j,∃J,levels h ns f (zx h ns j)=zx h ns J/\j<=J/\(∀i,j<=i->i<J->kJ h ns (i+1)≠kJ h ns i)/\(kJ h ns (J+1)=kJ h ns J\/J=j+f)
 |0,j=>⟨j,rfl,ai2 _,fun i a b=>by omega,.inr rfl⟩
 |f+1,j=>by
  unfold levels;simp only[wG,J2 hc];by_cases e:kJ h ns (j+1)=kJ h ns j
  .rw[ai5 e];exact⟨j,Z,ai2 _,fun i a b=>by omega,.inl e⟩
  .rw[ai0 e];obtain⟨J,a,b,c,d⟩:=qX hc f (j+1);refine⟨J,a,by omega,fun i p q=>?_,d.imp id (by omega)⟩;by_cases z:i=j
   .rw[z];exact e
   .exact c i (by omega) q
theorem QP{ns:List Node}(e:kJ h ns (i+1)≠kJ h ns i):∃n∈ns,lv h (i+1) n=true/\lv h i n=false:=by
 by_cases q:∃n∈ns,lv h (i+1) n=true/\lv h i n=false
 .exact q
 .refine absurd (akA fun n hn=>?_) e;cases a:lv h i n with
  |true=>exact rg a
  |false=>
   cases b:lv h (i+1) n with
   |true=>exact absurd ⟨n,hn,b,a⟩ q
   |false=>rfl
theorem zz{h:Known}{ns B:List Node}(hB:∀n∈ns,∀k,lv h k n=true->n∈B):∀J,(∀i,i<J->kJ h ns (i+1)≠kJ h ns i)->(B.filter fun n=> !lv h J n).length+J<=B.length
 |0,_=>by simpa using ajk _ B
 |J+1,hs=>by
  have ih:=zz hB J fun i hi=>hs i (by omega);obtain⟨n,hn,a,b⟩:=QP (hs J (by omega));have lt:=filter_lt (fun n=> !lv h (J+1) n) (fun n=> !lv h J n) (fun x hx=>by
   simp only[alh]at hx⊢;cases q:lv h J x with
   |false=>rfl
   |true=>rw[rg q]at hx;cases hx) B ⟨n,hB n hn _ a,by simp[b],by simp[a]⟩
  omega
theorem Fx{ns:List Node}(hc:bS (below h) ns)(e:kJ h ns (J+1)=kJ h ns J):∀k,J<=k->∀n∈ns,lv h k n=lv h J n:=fun k hk=>by
 induction k with
 |zero=>
  have:J=0:=(by omega);rw[this];exact fun _ _=>rfl
 |succ k ih=>
  by_cases q:J=k+1
  .rw[q];exact fun _ _=>rfl
  .intro n hn;have ih:=ih (by omega);have a:lv h (k+1) n=lv h (J+1) n:=va fun m hm=>ih m (hc n hn m hm);rw[a,<-eh hn,e,eh hn]
structure fS(h:Known):Prop where
 fD:h.papers.length<=24
 nod:(h.papers.map fun p=>p.id).Nodup
def Ep(h:Known)(d:Nat):List Nat:=d::h.papers.map fun p=>p.from_
def box(h:Known)(d:Nat):List Node:=(h.papers.map fun p=>p.id).flatMap fun i=>(Ep h d).map fun e=>(i,e)
theorem uH{α β:Type}(g:α->List β)(c:Nat):∀l:List α,(∀x∈l,(g x).length=c)->(l.flatMap g).length=l.length*c
 | [],_=>by simp
 |x::r,e=>by rw[ajD,aiT,e x (aiV ..),uH g c r fun y hy=>e y (aiS _ hy),ajc,Nat.succ_mul];omega
theorem oj(ok:fS h)(d:Nat):(box h d).length<MANY:=by unfold box;rw[uH _ (h.papers.length+1) _ fun x _=>by simp[Ep]];rw[aiQ];have a:=ok.fD;have b:h.papers.length*(h.papers.length+1)<=24*25:=Nat.mul_le_mul a (by omega);unfold MANY;omega
theorem cG(e:paperOf h i=some p):p∈h.papers/\p.id=i:=by unfold paperOf at e;exact⟨akk e,by simpa using ald e⟩
theorem og(e:paperOf h n.1=some p)(hd:n.2∈Ep h d):n∈box h d:=by obtain⟨a,b⟩:=cG e;unfold box;exact ajH.mpr ⟨n.1,ai7.mpr ⟨p,a,b⟩,ai7.mpr ⟨n.2,hd,Z⟩⟩
theorem CB(hp:p∈h.papers)(he:e∈Ep h d)(r:Rest):(nodeOf p e r).2∈Ep h d:=by
 unfold nodeOf;simp only;by_cases q:r.2=0
 .rw[ai5 q];exact he
 .rw[ai0 q];exact aiS _ (ai7.mpr ⟨p,hp,Z⟩)
theorem qF(hn:n.2∈Ep h d)(hm:m∈below h n):m.2∈Ep h d:=by
 cases hp:paperOf h n.1 with
 |none=>unfold below at hm;rw[hp]at hm;cases hm
 |some p=>
  obtain⟨g,_,r,_,rfl⟩:=(fO hp).mp hm;exact CB (cG hp).1 hn r
theorem qg(e:below h n≠[]):∃p,paperOf h n.1=some p:=by
 cases hp:paperOf h n.1 with
 |none=>unfold below at e;rw[hp]at e;exact absurd rfl e
 |some p=>exact⟨p,rfl⟩
theorem gP(ok:fS h)(hf:∀n,∀m∈f n,m∈below h n){ns:List Node}(hd:∀n∈ns,n.2=d)(nd:ns.Nodup):bS f (ao f MANY ns):=by
 rw[dJ];have s:=Dm (f:=f) (P:=fun n=>n.2∈Ep h d) (B:=box h d) (fun n hn m hm=>qF hn (hf n m hm)) (fun n hn e=>by
  obtain⟨m,hm⟩:∃m,m∈f n:=by
   cases q:f n with
   |nil=>exact absurd q e
   |cons m _=>exact⟨m,aiV ..⟩
  obtain⟨p,hp⟩:=qg (h:=h) (n:=n) (fun z=>by have:=hf n m hm;rw[z]at this;cases this);exact og hp hn) MANY [] ns (by simpa using nd) (fun n hn=>by rw[hd n (by simpa using hn)];exact aiV ..) (fun x hx=>nomatch hx) (ajR (ajk _ _) (oj ok d))
 simpa using s
theorem Aq(hf:∀n,∀m∈f n,m∈below h n){ns:List Node}(hd:∀n∈ns,n.2=d):∀n∈ao f MANY ns,n.2∈Ep h d:=by rw[dJ];exact jM (P:=fun n=>n.2∈Ep h d) (fun n hn m hm=>qF hn (hf n m hm)) MANY ns fun n hn=>by rw[hd n hn];exact aiV ..
theorem Ao{k:Nat}{ns:List Node}:∀n∈ns,n∈ao f k ns:=by rw[dJ];exact Dl k ns
theorem fb(ok:fS h){ns:List Node}(hd:∀n∈ns,n.2=d)(nd:ns.Nodup):bS (below h) (reach h MANY ns):=by rw[hX];exact gP ok (fun _ _ z=>z) hd nd
theorem ku(ok:fS h){ns:List Node}(hd:∀n∈ns,n.2=d)(nd:ns.Nodup):∃J,levelsOf h (reach h MANY ns)=zx h (reach h MANY ns) J/\(∀i,i<J->kJ h (reach h MANY ns) (i+1)≠kJ h (reach h MANY ns) i)/\(∀n∈reach h MANY ns,∀k,lv h k n=true->lv h J n=true)/\J<MANY:=by
 have hc:=fb ok hd nd;obtain⟨J,a,_,b,c⟩:=qX hc MANY 0;have hB:∀n∈reach h MANY ns,∀k,lv h k n=true->n∈box h d:=(fun n hn k hk=>by obtain⟨p,hp⟩:=tX hk;rw[hX]at hn;exact og hp (Aq (fun _ _ z=>z) hd n hn));have g:=zz hB J fun i hi=>b i (ajo _) hi;have s:=oj ok d;have e:kJ h (reach h MANY ns) (J+1)=kJ h (reach h MANY ns) J:=by
  rcases c with c|c
  .exact c
  .omega
 refine⟨J,a,fun i hi=>b i (ajo _) hi,fun n hn k hk=>?_,by omega⟩;by_cases q:J<=k
 .rw[<-Fx hc e k q n hn];exact hk
 .exact iQ (by omega) hk
def st(h:Known)(n:Node):Prop:=∃k,lv h k n=true
theorem eY(ok:fS h){ns:List Node}(hd:∀n∈ns,n.2=d)(nd:ns.Nodup):n∈standing h ns↔n∈reach h MANY ns/\st h n:=by obtain⟨J,a,_,c,_⟩:=ku ok hd nd;unfold standing;rw[a,wG];unfold kJ;rw[ajy];exact⟨fun z=>⟨z.1,J,z.2⟩,fun z=>⟨z.1,z.2.elim fun k hk=>c n z.1 k hk⟩⟩
theorem fJ{ns:List Node}(hn:n∈ns):n∈reach h MANY ns:=by rw[hX];exact Ao n hn
theorem aj(ok:fS h):standsOn h i d=true↔st h (i,d):=by unfold standsOn;rw[ajp,eY ok (d:=d) (by simp) (by simp)];exact⟨fun z=>z.2,fun z=>⟨fJ (by simp),z⟩⟩
theorem oq(ok:fS h)(d:Nat):allOn h d=(h.papers.filter fun p=>standsOn h p.id d).map fun p=>p.id:=by unfold allOn;simp only;have hd:∀n∈h.papers.map (fun p=>((p.id,d):Node)),n.2=d:=(by simp);have nd:(h.papers.map (fun p=>((p.id,d):Node))).Nodup:=(by have e:h.papers.map (fun p=>((p.id,d):Node))=(h.papers.map fun p=>p.id).map fun i=>(i,d):=(by simp);rw[e];refine List.Pairwise.map _ (fun a b q z=>q ?_) ok.nod;exact(Prod.mk.inj z).1);rw[aly,aj0];have q:∀p∈h.papers,((fun n=>(standing h (h.papers.map fun p=>((p.id,d):Node))).contains n)∘fun p=>((p.id,d):Node)) p=standsOn h p.id d:=(fun p hp=>by rw[ajw,aj ok];show List.contains _ _=true↔_;rw[ajp,eY ok hd nd];exact⟨fun z=>z.2,fun z=>⟨fJ (ai7.mpr ⟨p,hp,rfl⟩),z⟩⟩);rw[akA q];rfl
theorem rq{l:List α}{d:α}(h:i<l.length):l.getD i d=l[i]:=by simp[List.getD,h]
theorem Ej{l:List α}{d:α}(h:l.length<=i):l.getD i d=d:=by simp[List.getD,h]
theorem jb{α β:Type}{f g:α->List β}:∀{l:List α},(∀x∈l,f x=g x)->l.flatMap f=l.flatMap g
 | [],_=>rfl
 |x::r,e=>by rw[ajD,ajD,e x (aiV ..),jb fun y hy=>e y (aiS _ hy)]
theorem jc{α:Type}{p q:α->Bool}:∀{l:List α},(∀x∈l,p x=q x)->l.find? p=l.find? q
 | [],_=>rfl
 |x::r,e=>by
  rw[ajG,ajG,e x (aiV ..)];cases q x with
  |true=>rfl
  |false=>exact jc fun y hy=>e y (aiS _ hy)
theorem mJ{α:Type}{p q:α->Bool}:∀{l:List α},(∀x∈l,p x=q x)->l.findIdx p=l.findIdx q
 | [],_=>rfl
 |x::r,e=>by
  rw[List.findIdx_cons,List.findIdx_cons,e x (aiV ..)];cases q x with
  |true=>rfl
  |false=>exact akc (·+1) (mJ fun y hy=>e y (aiS _ hy))
theorem jC{α β:Type}{f g:α->Option β}:∀{l:List α},(∀x∈l,f x=g x)->l.filterMap f=l.filterMap g
 | [],_=>rfl
 |x::r,e=>by rw[ajZ,ajZ,e x (aiV ..),jC fun y hy=>e y (aiS _ hy)]
@[irreducible] def rk(h:Known)(n:Node):Nat:=(List.range MANY).findIdx fun k=>lv h k n
structure Rk(h:Known)(n:Node)(k:Nat):Prop where
 at_:lv h k n=true
 low:∀j,j<k->lv h j n=false
theorem Rk.pos{k:Nat}(r:Rk h n k):0<k:=by
 cases k with
 |zero=>have:=r.at_;cases this
 |succ k=>exact Nat.succ_pos _
theorem Rk.eq{k:Nat}(r:Rk h n k)(q:Rk h n j):k=j:=by
 rcases amB k j with a|a|a
 .have:=q.low k a;rw[r.at_]at this;cases this
 .exact a
 .have:=r.low j a;rw[q.at_]at this;cases this
theorem Rk.lt_iff{k:Nat}(r:Rk h n k):lv h j n=true↔k<=j:=by
 constructor
 .intro e;refine Nat.le_of_not_lt fun z=>?_;rw[r.low j z]at e;cases e
 .exact fun z=>iQ z r.at_
theorem Dp{h:Known}{n:Node}:∀k,lv h k n=true->∃j,j<=k/\Rk h n j
 |0,e=>nomatch e
 |k+1,e=>by
  cases q:lv h k n with
  |true=>
   obtain⟨j,a,b⟩:=Dp k q;exact⟨j,by omega,b⟩
  |false=>
   refine⟨k+1,ai2 _,e,fun j hj=>?_⟩;cases z:lv h j n with
   |false=>rfl
   |true=>rw[iQ (show j<=k by omega) z]at q;cases q
theorem T1{k:Nat}(r:Rk h n k)(hk:k<MANY):rk h n=k:=by
 unfold rk;have hl:k<(List.range MANY).length:=(by rw[aj7];exact hk);refine(List.findIdx_eq hl).mpr ⟨?_,fun j hj=>?_⟩
 .rw[akM];exact r.at_
 .rw[akM];exact r.low j hj
theorem fG(ok:fS h)(s:st h n):Rk h n (rk h n)/\rk h n<MANY:=by obtain⟨k,hk⟩:=s;obtain⟨J,_,_,c,d⟩:=ku ok (d:=n.2) (ns:=[n]) (by simp) (by simp);obtain⟨j,a,b⟩:=Dp J (c n (fJ (by simp)) k hk);have e:=T1 b (by omega);rw[e];exact⟨b,by omega⟩
theorem zw(h:Known)(ns:List Node):∀J,(zx h ns J).reverse=(List.range (J+1)).map (kJ h ns)
 |0=>by simp[zx,zy]
 |J+1=>by rw[alc,aiY,<-zw h ns J];simp[zx]
def gd(h:Known)(n:Node):Nat:=match paperOf h n.1 with
 |none=>0
 |some p=>p.grounds.findIdx fun g=>g.all fun r=>lv h (rk h n-1) (nodeOf p n.2 r)
def gr(h:Known)(n:Node):List Node:=groundRests h n (gd h n)
section
variable(ok:fS h)
theorem vt{ns:List Node}{k:Nat}(hn:n∈ns)(r:Rk h n k)(hk:k<=J):rankIn ((List.range (J+1)).map (kJ h ns)) n=k:=by
 unfold rankIn;have hl:k<((List.range (J+1)).map (kJ h ns)).length:=(by rw[aiQ,aj7];omega);refine(List.findIdx_eq hl).mpr ⟨?_,fun j hj=>?_⟩
 .simp only[alL,akM];rw[eh hn];exact r.at_
 .simp only[alL,akM];rw[eh hn];exact r.low j hj
theorem AR{ns:List Node}(hc:bS (below h) ns)(hn:n∈ns)(r:Rk h n (rk h n))(hk:rk h n<=J):groundOf h ((List.range (J+1)).map (kJ h ns)) n=gd h n:=by
 unfold groundOf gd;cases hp:paperOf h n.1 with
 |none=>rfl
 |some p=>
  simp only;rw[vt hn r hk];have hl:rk h n-1<((List.range (J+1)).map (kJ h ns)).length:=(by rw[aiQ,aj7];omega);rw[rq hl];simp only[alL,akM];have q:∀g∈p.grounds,(g.all fun r=>(kJ h ns (rk h n-1)).contains (nodeOf p n.2 r))=(g.all fun r=>lv h (rk h n-1) (nodeOf p n.2 r)):=fun g hg=>by
   rw[ajw,ajA,ajA];have z:∀r∈g,(kJ h ns (rk h n-1)).contains (nodeOf p n.2 r)=lv h (rk h n-1) (nodeOf p n.2 r):=fun r hr=>eh (hc n hn _ ((fO hp).mpr ⟨g,hg,r,hr,rfl⟩));constructor
   .intro a r hr;rw[<-z r hr];exact a r hr
   .intro a r hr;rw[z r hr];exact a r hr
  exact mJ q
theorem Ek(r:Rk h n (rk h n)):∃p g,paperOf h n.1=some p/\own h p n.2=true/\p.grounds[gd h n]?=some g/\gr h n=g.map (nodeOf p n.2)/\∀x∈g,lv h (rk h n-1) (nodeOf p n.2 x)=true:=by
 have hp0:=r.pos;have e:=r.at_;obtain⟨k,hk⟩:∃k,rk h n=k+1:=⟨rk h n-1,by omega⟩;rw[hk]at e;unfold lv yy at e;cases hp:paperOf h n.1 with
 |none=>rw[hp]at e;cases e
 |some p=>
  rw[hp]at e;simp only[ajn]at e;have ex:=e.2;rw[ajX]at ex;have lt:gd h n<p.grounds.length:=(by unfold gd;rw[hp,hk];exact List.findIdx_lt_length.mpr (by simpa using ex));have pg:(p.grounds[gd h n]'lt).all (fun r=>lv h (rk h n-1) (nodeOf p n.2 r))=true:=(by have z:∀i,(hi:i=gd h n)->(hl:i<p.grounds.length)->(p.grounds[i]).all (fun r=>lv h (rk h n-1) (nodeOf p n.2 r))=true:=(by intro i hi hl;unfold gd at hi;rw[hp]at hi;simp only at hi;subst hi;exact List.findIdx_getElem (p:=fun g:List Rest=>g.all fun r=>lv h (rk h n-1) (nodeOf p n.2 r)) (w:=hl));exact z _ rfl lt);refine⟨p,p.grounds[gd h n],Z,e.1,aiW lt,?_,fun x hx=>ajA.mp pg x hx⟩;unfold gr groundRests;rw[hp];simp only[rq lt]
theorem uS{g:Node->List Node}{P:Node->Prop}(e:∀n,P n->f n=g n)(hP:∀n,P n->∀m∈f n,P m):∀k l,(∀n∈l,P n)->ao f k l=ao g k l:=fun k l hl=>by
 rw[dJ,dJ]
 induction k generalizing l with
 |zero=>rfl
 |succ k ih=>
  unfold yh;have q:l.flatMap f=l.flatMap g:=by
   clear ih
   induction l with
   |nil=>rfl
   |cons x r ET=>rw[ajD,ajD,e x (hl x (aiV ..)),ET fun n hn=>hl n (aiS _ hn)]
  rw[q];refine ih _ fun n hn=>?_;rcases bg.mp hn with z|z
  .exact hl n z
  .rw[<-q]at z;obtain⟨x,hx,hm⟩:=ajH.mp z;exact hP x (hl x hx) n hm
theorem uE(hm:m∈gr h n):m∈below h n:=by
 unfold gr groundRests at hm;cases hp:paperOf h n.1 with
 |none=>rw[hp]at hm;cases hm
 |some p=>
  rw[hp]at hm;simp only at hm;obtain⟨r,hr,e⟩:=ai7.mp hm;refine(fO hp).mpr ⟨p.grounds.getD (gd h n) [],?_,r,hr,e⟩;by_cases lt:gd h n<p.grounds.length
  .rw[rq lt];exact akK _
  .rw[Ej (by omega)]at hr;cases hr
include ok in
theorem Ol(s:st h n)(hm:m∈gr h n):st h m/\rk h m<rk h n:=by have r:=(fG ok s).1;obtain⟨p,g,_,_,_,e,al⟩:=Ek r;rw[e]at hm;obtain⟨x,hx,rfl⟩:=ai7.mp hm;have a:=al x hx;have sm:st h (nodeOf p n.2 x):=⟨_,a⟩;have b:=((fG ok sm).1.lt_iff (j:=rk h n-1)).mp a;have:=r.pos;exact⟨sm,by omega⟩
def need(h:Known)(a:Node):List Node:=ao (gr h) MANY [a]
include ok in
theorem zf:bS (gr h) (need h a):=by unfold need;exact gP ok (d:=a.2) (fun n m hm=>uE hm) (by simp) (by simp)
include ok in
theorem B4(s:st h a):∃J,(∀n∈need h a,rk h n<=J)/\proofOf h a.1 a.2=(List.range (J+1)).flatMap fun k=>((need h a).filter fun n=>rk h n==k).map fun n=>⟨n.1,n.2,gd h n+1⟩:=by
 obtain⟨J,e,_,c,_⟩:=ku ok (d:=a.2) (ns:=[(a.1,a.2)]) (by simp) (by simp);have hc:=fb ok (d:=a.2) (ns:=[(a.1,a.2)]) (by simp) (by simp);have low:∀n∈reach h MANY [(a.1,a.2)],st h n->rk h n<=J:=fun n hn ⟨k,hk⟩=>((fG ok ⟨k,hk⟩).1.lt_iff).mp (c n hn k hk);let P:Node->Prop:=fun n=>n∈reach h MANY [(a.1,a.2)]/\st h n;have Pg:∀n,P n->∀m∈gr h n,P m:=fun n hn m hm=>⟨hc n hn.1 m (uE hm),(Ol ok hn.2 hm).1⟩;have geq:∀n,P n->groundOf h ((List.range (J+1)).map (kJ h (reach h MANY [(a.1,a.2)]))) n=gd h n:=fun n hn=>AR hc hn.1 (fG ok hn.2).1 (low n hn.1 hn.2);have P0:∀n∈[((a.1,a.2):Node)],P n:=(fun n hn=>by rw[aiU.mp hn];exact⟨fJ (by simp),s⟩);have nn:needed h ((List.range (J+1)).map (kJ h (reach h MANY [(a.1,a.2)]))) MANY [(a.1,a.2)]=need h a:=by
  rw[qV];refine uS (P:=P) (fun n hn=>?_) (fun n hn m hm=>?_) MANY _ P0
  .rw[geq n hn];rfl
  .rw[geq n hn]at hm;exact Pg n hn m hm
 have Pn:∀n∈need h a,P n:=(by unfold need;rw[dJ];exact jM (P:=P) Pg MANY [a] P0);refine⟨J,fun n hn=>low n (Pn n hn).1 (Pn n hn).2,?_⟩;unfold proofOf;simp only;rw[e,zw,nn,aiQ,aj7];refine jb fun k _=>?_;have f1:(need h a).filter (fun n=>rankIn ((List.range (J+1)).map (kJ h (reach h MANY [(a.1,a.2)]))) n==k)=(need h a).filter fun n=>rk h n==k:=(akA fun n hn=>by rw[vt (Pn n hn).1 (fG ok (Pn n hn).2).1 (low n (Pn n hn).1 (Pn n hn).2)]);rw[f1];refine aj6 fun n hn=>?_;rw[geq n (Pn n (ajy.mp hn).1)]
def fl(h:Known)(n:Node):List Node:=match paperOf h n.1 with
 |none=>[]
 |some p=>if own h p n.2=false then []else p.grounds.filterMap fun g=>(g.map (nodeOf p n.2)).find? fun m=> !standsOn h m.1 m.2
theorem oS(hm:m∈fl h n):m∈below h n:=by
 unfold fl at hm;cases hp:paperOf h n.1 with
 |none=>rw[hp]at hm;cases hm
 |some p=>
  rw[hp]at hm;simp only at hm;by_cases q:own h p n.2=false
  .rw[ai5 q]at hm;cases hm
  .rw[ai0 q]at hm;obtain⟨g,hg,e⟩:=akL.mp hm;have z:=akk e;obtain⟨r,hr,e2⟩:=ai7.mp z;exact(fO hp).mpr ⟨g,hg,r,hr,e2⟩
def my(h:Known)(a:Node):List Node:=ao (fl h) MANY [a]
include ok in
theorem AV:bS (fl h) (my h a):=by unfold my;exact gP ok (d:=a.2) (fun n m hm=>oS hm) (by simp) (by simp)
include ok in
theorem u5:refutation h a.1 a.2=my h a:=by
 have hc:=fb ok (d:=a.2) (ns:=[(a.1,a.2)]) (by simp) (by simp);unfold refutation my;rw[qa];have ag:∀n,n∈reach h MANY [(a.1,a.2)]->failing h (standing h [(a.1,a.2)]) n=fl h n:=fun n hn=>by
  unfold failing fl;cases hp:paperOf h n.1 with
  |none=>rfl
  |some p=>
   simp only;by_cases q:own h p n.2=false
   .rw[ai5 q,ai5 q]
   .rw[ai0 q,ai0 q];refine jC fun g hgm=>jc fun m hm=>?_;obtain⟨r,hr,e2⟩:=ai7.mp hm;have mb:m∈below h n:=(fO hp).mpr ⟨g,hgm,r,hr,e2⟩;have e:(standing h [(a.1,a.2)]).contains m=standsOn h m.1 m.2:=(by rw[ajw,aj ok,ajp,eY ok (d:=a.2) (by simp) (by simp)];exact⟨fun z=>z.2,fun z=>⟨hc n hn m mb,z⟩⟩);rw[e]
 refine uS (P:=fun n=>n∈reach h MANY [(a.1,a.2)]) ag (fun n hn m hm=>?_) MANY _ fun n hn=>fJ hn;rw[ag n hn]at hm;exact hc n hn m (oS hm)
end
def fL(S:Nat->Bool):Nat->List (Nat×Nat)->Prop
 |lo,[]=>∀d,lo<=d->S d=false
 |lo,x::r=>lo<=x.1/\x.1<=x.2/\(∀d,lo<=d->d<x.1->S d=false)/\(∀d,x.1<=d->d<=x.2->S d=true)/\S (x.2+1)=false/\fL S (x.2+1) r
theorem fL.uniq{S:Nat->Bool}:∀{l m:List (Nat×Nat)} {lo:Nat},fL S lo l->fL S lo m->l=m
 | [],[],_,_,_=>rfl
 | [],y::m,lo,a,b=>by obtain⟨b1,b2,_,b4,_⟩:=b;have:=a y.1 b1;rw[b4 y.1 (ai2 _) b2]at this;cases this
 |x::l,[],lo,a,b=>by obtain⟨b1,b2,_,b4,_⟩:=a;have:=b x.1 b1;rw[b4 x.1 (ai2 _) b2]at this;cases this
 |x::l,y::m,lo,a,b=>by
  obtain⟨a1,a2,a3,a4,a5,a6⟩:=a;obtain⟨b1,b2,b3,b4,b5,b6⟩:=b;have e1:x.1=y.1:=by
   rcases amB x.1 y.1 with z|z|z
   .have:=b3 x.1 a1 z;rw[a4 x.1 (ai2 _) a2]at this;cases this
   .exact z
   .have:=a3 y.1 b1 z;rw[b4 y.1 (ai2 _) b2]at this;cases this
  have e2:x.2=y.2:=by
   rcases amB x.2 y.2 with z|z|z
   .have:=b4 (x.2+1) (by omega) (by omega);rw[a5]at this;cases this
   .exact z
   .have:=a4 (y.2+1) (by omega) (by omega);rw[b5]at this;cases this
  have e:x=y:=ami e1 e2;subst e;rw[fL.uniq a6 b6]
theorem fL.down{S:Nat->Bool}{l:List (Nat×Nat)}{lo hi:Nat}(h:lo<=hi)(e:∀d,lo<=d->d<hi->S d=false)(r:fL S hi l):fL S lo l:=by
 cases l with
 |nil=>
  intro d hd;by_cases q:d<hi
  .exact e d hd q
  .exact r d (by omega)
 |cons x l=>
  obtain⟨a1,a2,a3,a4,a5,a6⟩:=r;refine⟨by omega,a2,fun d hd q=>?_,a4,a5,a6⟩;by_cases z:d<hi
  .exact e d hd z
  .exact a3 d (by omega) q
theorem fP(x:Nat×Nat)(t:List (Nat×Nat)):joined (x::t)=match joined t with
  |z::q=>if x.2+1=z.1 then(x.1,z.2)::q else x::z::q
  | []=>[x]:=by
 cases t with
 |nil=>rfl
 |cons y r=>
  show(match joined (y::r)with
   |z::q=>if x.2+1=z.1 then(x.1,z.2)::q else x::z::q
   | []=>[x])=_
  rfl
def xO(S:Nat->Bool)(E:Nat):List Nat->List (Nat×Nat)
 | []=>[]
 | [x]=>if S x=true then [(x,E-1)]else []
 |x::y::r=>(if S x=true then [(x,y-1)]else [])++xO S E (y::r)
theorem sY(S:Nat->Bool)(E:Nat):∀ds,(ds.zip (ds.drop 1++[E])).filterMap (fun x=>if S x.1=true then some (x.1,x.2-1)else none)=xO S E ds
 | []=>rfl
 | [x]=>by
  by_cases h:S x=true
  .simp[xO,h]
  .simp[xO,h]
 |x::y::r=>by
  have ih:=sY S E (y::r);simp only[amt,amn,akj,alR,ajZ]at ih⊢;unfold xO;by_cases h:S x=true
  .simp only[h,al2,List.singleton_append];rw[ih]
  .simp only[h,akr,ali,akP];exact ih
def Wj(E:Nat):List Nat->Prop
 | []=>True
 | [x]=>x<E
 |x::y::r=>x<y/\Wj E (y::r)
theorem pH{S:Nat->Bool}{E:Nat}(hE:∀d,E<=d->S d=false):∀(ds:List Nat) (x:Nat),Wj E (x::ds)->(∀d e,x<=d->d<=e->e<E->(∀c∈x::ds,d<c->e<c)->S d=S e)->fL S x (joined (xO S E (x::ds)))
 | [],x,ha,hs=>by
  have hx:x<E:=ha;unfold xO;by_cases h:S x=true
  .rw[ai5 h];show fL S x [(x,E-1)];refine⟨ai2 _,by show x<=E-1;omega,fun d a b=>absurd b (by show¬d<x;omega),fun d a b=>?_,?_,fun d hd=>hE d ?_⟩
   .have b':d<=E-1:=b;rw[<-hs x d (ai2 _) a (by omega) fun c hc q=>by rw[aiU.mp hc]at q;omega];exact h
   .exact hE _ (by show E<=E-1+1;omega)
   .have:E-1+1<=d:=hd;omega
  .rw[ai0 h];intro d hd;by_cases q:d<E
   .rw[<-hs x d (ai2 _) hd q fun c hc z=>by rw[aiU.mp hc]at z;omega];simpa using h
   .exact hE d (by omega)
 |y::ds,x,ha,hs=>by
  have hxy:x<y:=ha.1;have yE:∀(l:List Nat) (z:Nat),Wj E (z::l)->z<E:=fun l=>by
   induction l with
   |nil=>exact fun z q=>q
   |cons w l ih=>exact fun z q=>al4 q.1 (ih w q.2)
  have hyE:=yE ds y ha.2;have mono:∀(l:List Nat) (z:Nat),Wj E (z::l)->∀c∈z::l,z<=c:=fun l=>by
   induction l with
   |nil=>exact fun z _ c hc=>by rw[aiU.mp hc];exact ai2 _
   |cons w l ih=>
    intro z q c hc;rcases aiZ.mp hc with e|hc
    .rw[e];exact ai2 _
    .exact ajq (aki q.1) (ih w q.2 c hc)
  have ih:=pH hE ds y ha.2 fun d e a b c q=>hs d e (by omega) b c fun z hz p=>by
   rcases aiZ.mp hz with e'|hz
   .omega
   .exact q z hz p
  have flat:∀d,x<=d->d<y->S x=S d:=fun d a b=>hs x d (ai2 _) a (by omega) fun c hc q=>by
   rcases aiZ.mp hc with e|hc
   .omega
   .exact ajx b (mono ds y ha.2 c hc)
  unfold xO;by_cases h:S x=true
  .rw[ai5 h,List.singleton_append,fP];generalize joined (xO S E (y::ds))=t at ih;cases t with
   |nil=>
    have ih':∀d,y<=d->S d=false:=ih;refine⟨ai2 _,by show x<=y-1;omega,fun d a b=>absurd b (by show¬d<x;omega),fun d a b=>?_,ih' _ (by show y<=y-1+1;omega),fun d hd=>ih' d ?_⟩
    .have b':d<=y-1:=b;rw[<-flat d a (by omega)];exact h
    .have:y-1+1<=d:=hd;omega
   |cons z q=>
    obtain⟨b1,b2,b3,b4,b5,b6⟩:=ih;simp only;by_cases c:y-1+1=z.1
    .rw[ai5 c];have cz:y=z.1:=(by omega);refine⟨ai2 _,by show x<=z.2;omega,fun d a b=>absurd b (by show¬d<x;omega),fun d a b=>?_,b5,b6⟩;by_cases k:d<y
     .rw[<-flat d a k];exact h
     .exact b4 d (by omega) b
    .rw[ai0 c];refine⟨ai2 _,by show x<=y-1;omega,fun d a b=>absurd b (by show¬d<x;omega),fun d a b=>?_,?_,?_⟩
     .have b':d<=y-1:=b;rw[<-flat d a (by omega)];exact h
     .show S (y-1+1)=false;exact b3 _ (by omega) (by omega)
     .show fL S (y-1+1) (z::q);have e:y-1+1=y:=(by omega);rw[e];exact⟨b1,b2,b3,b4,b5,b6⟩
  .rw[ai0 h,akP];refine ih.down (by omega) fun d a b=>?_;rw[<-flat d a b];simpa using h
theorem mem_insert{x y:Nat}:∀{l:List Nat},y∈insert_ x l↔y=x\/y∈l
 | []=>by simp[insert_]
 |z::r=>by
  unfold insert_;by_cases a:x<z
  .rw[ai5 a];simp
  .rw[ai0 a];by_cases b:x=z
   .rw[ai5 b];subst b;simp
   .rw[ai0 b,aiZ,mem_insert (l:=r),aiZ];constructor
    .rintro(q|q|q)
     .exact .inr (.inl q)
     .exact .inl q
     .exact .inr (.inr q)
    .rintro(q|q|q)
     .exact .inr (.inl q)
     .exact .inl q
     .exact .inr (.inr q)
theorem gw{y:Nat}:∀{l:List Nat},y∈l.foldr insert_ []↔y∈l
 | []=>Iff.rfl
 |x::r=>by rw[List.foldr_cons,mem_insert,gw,aiZ]
theorem mH{x:Nat}:∀{l:List Nat},l.Pairwise (·<·)->(insert_ x l).Pairwise (·<·)
 | [],_=>by simp[insert_]
 |z::r,h=>by
  rw[ajV]at h;unfold insert_;by_cases a:x<z
  .rw[ai5 a];refine ajV.mpr ⟨fun y hy=>?_,ajV.mpr h⟩;rcases aiZ.mp hy with e|e
   .rw[e];exact a
   .exact al4 a (h.1 y e)
  .rw[ai0 a];by_cases b:x=z
   .rw[ai5 b];exact ajV.mpr h
   .rw[ai0 b];refine ajV.mpr ⟨fun y hy=>?_,mH h.2⟩;rcases mem_insert.mp hy with e|e
    .omega
    .exact h.1 y e
theorem fh:∀{l:List Nat},(l.foldr insert_ []).Pairwise (·<·)
 | []=>List.Pairwise.nil
 |x::r=>mH (fh (l:=r))
theorem DE{E:Nat}:∀{l:List Nat},l.Pairwise (·<·)->(∀x∈l,x<E)->Wj E l
 | [],_,_=>trivial
 | [x],_,h=>h x (by simp)
 |x::y::r,p,h=>by rw[ajV]at p;exact⟨p.1 y (by simp),DE p.2 fun z hz=>h z (aiS _ hz)⟩
def alike(h:Known)(d e:Nat):Prop:=∀c∈changing h,c<=d↔c<=e
theorem Fb(hp:p∈h.papers)(a:alike h d e):own h p d=own h p e:=by have c1:p.from_∈changing h:=aj1 _ (ajH.mpr ⟨p,hp,by simp⟩);have c2:p.to_+1∈changing h:=aj1 _ (ajH.mpr ⟨p,hp,by simp⟩);have q1:=a _ c1;have q2:=a _ c2;unfold own revokedBy;have x:(p.from_<=d/\d<=p.to_)↔(p.from_<=e/\e<=p.to_):=(by omega);have y:(h.revokes.find? fun r=>r.id==p.id&&decide (r.since<=d))=h.revokes.find? fun r=>r.id==p.id&&decide (r.since<=e):=(jc fun r hr=>by have c3:r.since∈changing h:=ajI _ (ai7.mpr ⟨r,hr,rfl⟩);rw[aks.mpr (a _ c3)]);rw[y,aks.mpr x]
theorem tY{h:Known}{d e:Nat}(a:alike h d e):∀k i,lv h k (i,d)=lv h k (i,e)
 |0,_=>rfl
 |k+1,i=>by
  unfold lv yy;show(match paperOf h i with|none=>false|some p=>own h p d&&p.grounds.any fun g=>g.all fun r=>lv h k (nodeOf p d r))=(match paperOf h i with|none=>false|some p=>own h p e&&p.grounds.any fun g=>g.all fun r=>lv h k (nodeOf p e r));cases hp:paperOf h i with
  |none=>rfl
  |some p=>
   simp only;rw[Fb (cG hp).1 a];have z:∀r,lv h k (nodeOf p d r)=lv h k (nodeOf p e r):=fun r=>by
    unfold nodeOf;by_cases q:r.2=0
    .rw[ai5 q,ai5 q];exact tY a k r.1
    .rw[ai0 q,ai0 q]
   simp only[z]
theorem kQ(ok:fS h)(a:alike h d e):standsOn h i d=standsOn h i e:=by rw[ajw,aj ok,aj ok];exact⟨fun⟨k,hk⟩=>⟨k,by rw[<-tY a];exact hk⟩,fun⟨k,hk⟩=>⟨k,by rw[tY a];exact hk⟩⟩
theorem pG(s:st h n):∃p,paperOf h n.1=some p/\p.from_<=n.2/\n.2<=p.to_/\own h p n.2=true:=by
 obtain⟨k,hk⟩:=s;cases k with
 |zero=>cases hk
 |succ k=>
  unfold lv yy at hk;cases hp:paperOf h n.1 with
  |none=>rw[hp]at hk;cases hk
  |some p=>
   rw[hp]at hk;simp only[ajn]at hk;have o:=hk.1;have o':=o;unfold own at o;simp only[ajn,ajQ]at o;exact⟨p,Z,o.1.1,o.1.2,o'⟩
theorem Bb(ok:fS h)(i:Nat):fL (fun d=>standsOn h i d) 0 (Vbkoac.spans h i):=by
 unfold Vbkoac.spans;cases hp:paperOf h i with
 |none=>
  intro d _;show standsOn h i d=false;cases q:standsOn h i d with
  |false=>rfl
  |true=>
   obtain⟨p,e,_⟩:=pG ((aj ok).mp q);rw[hp]at e;cases e
 |some p=>
  have out:∀d,¬(p.from_<=d/\d<=p.to_)->standsOn h i d=false:=fun d z=>by
   cases q:standsOn h i d with
   |false=>rfl
   |true=>
    obtain⟨p',e,a,b,_⟩:=pG ((aj ok).mp q);rw[hp]at e;cases e;exact absurd ⟨a,b⟩ z
  simp only;by_cases lt:p.to_<p.from_
  .rw[ai5 lt];exact fun d _=>out d (by omega)
  .rw[ai0 lt,sY (fun d=>standsOn h i d)];have FP:=fh (l:=(p.from_::changing h).filter fun d=>decide (p.from_<=d/\d<=p.to_));have mem:∀{y},y∈((p.from_::changing h).filter fun d=>decide (p.from_<=d/\d<=p.to_)).foldr insert_ []↔(y=p.from_\/y∈changing h)/\p.from_<=y/\y<=p.to_:=(fun{y}=>by rw[gw,ajy,aiZ,ajQ]);generalize ((p.from_::changing h).filter fun d=>decide (p.from_<=d/\d<=p.to_)).foldr insert_ []=ds at FP mem;have hf:p.from_∈ds:=mem.mpr ⟨.inl rfl,ai2 _,by omega⟩;cases ds with
   |nil=>cases hf
   |cons x ds=>
    have hx:=(mem.mp (aiV (a:=x) (l:=ds))).2;have ex:x=p.from_:=by
     rcases aiZ.mp hf with e|e
     .exact e.symm
     .have:=(ajV.mp FP).1 _ e;omega
    refine fL.down (ajo x) (fun d _ q=>out d (by omega)) ?_;refine pH (fun d hd=>out d (by omega)) ds x (DE FP fun y hy=>by have:=(mem.mp hy).2.2;omega) fun d e a b c q=>?_;refine kQ ok fun z hz=>?_;constructor
    .intro k;omega
    .intro k;by_cases w:p.from_<=z/\z<=p.to_
     .have:=q z (mem.mpr ⟨.inr hz,w⟩);omega
     .omega
def lY(s:State):List Nat:=(s.papers.map fun p=>p.heard)++(s.revokes.flatMap fun r=>r.heard::r.back.toList)
def iI(f:Node->List Node)(w:List Node):List (List Node):=match w.getLast? with
 |none=>[]
 |some n=>(f n).map fun m=>w++[m]
def gE(W:List (List Node))(v:List Node):List (List Node):=match v.getLast? with
 |none=>W
 |some n=>if(W.any fun u=>u.getLast?==some n)=true then W else W++[v]
def dY(f:Node->List Node)(a:Node):Nat->List (List Node)
 |0=>[[a]]
 |p+1=>match(dY f a p)[p]? with
  |some w=>(iI f w).foldl gE (dY f a p)
  |none=>dY f a p
theorem eV:∀(vs W:List (List Node)),∃t,vs.foldl gE W=W++t
 | [],W=>⟨[],by simp⟩
 |v::vs,W=>by
  rw[akG];have e:∃t,gE W v=W++t:=by
   unfold gE;cases v.getLast? with
   |none=>exact⟨[],by simp⟩
   |some n=>
    simp only;by_cases h:(W.any fun u=>u.getLast?==some n)=true
    .rw[ai5 h];exact⟨[],by simp⟩
    .rw[ai0 h];exact⟨[v],Z⟩
  obtain⟨t,e⟩:=e;obtain⟨t',e'⟩:=eV vs (gE W v);exact⟨t++t',by rw[e',e,ajE]⟩
theorem nI{p:Nat}(h:(dY f a p).length<=p):∀q,p<=q->dY f a q=dY f a p:=fun q hq=>by
 induction q with
 |zero=>
  have:p=0:=(by omega);rw[this]
 |succ q ih=>
  by_cases e:p=q+1
  .rw[e]
  .have ih:=ih (by omega);show(match(dY f a q)[q]? with|some w=>(iI f w).foldl gE (dY f a q)|none=>dY f a q)=_;rw[ih,alK (by omega)]
theorem sM(p:Nat):∃t,dY f a (p+1)=dY f a p++t:=by
 show∃t,(match(dY f a p)[p]? with|some w=>(iI f w).foldl gE (dY f a p)|none=>dY f a p)=_;cases(dY f a p)[p]? with
 |none=>exact⟨[],by simp⟩
 |some x=>exact eV _ _
theorem nJ{p:Nat}(h:p<=q):∃t,dY f a q=dY f a p++t:=by
 induction q with
 |zero=>
  have:p=0:=(by omega);exact⟨[],by rw[this];simp⟩
 |succ q ih=>
  by_cases e:p=q+1
  .exact⟨[],by rw[e];simp⟩
  .obtain⟨t,et⟩:=ih (by omega);obtain⟨t',WJ⟩:=sM (f:=f) (a:=a) q;exact⟨t++t',by rw[WJ,et,ajE]⟩
theorem DN{f:Node->List Node}{a:Node}{p:Nat}{A b:List (List Node)}(e:dY f a p=A++b)(ha:A.length=p):∀j,j<=b.length->dY f a (p+j)=((b.take j).flatMap (iI f)).foldl gE (A++b)
 |0,_=>by simp[e]
 |j+1,hj=>by have ih:=DN e ha j (by omega);show(match(dY f a (p+j))[p+j]? with|some w=>(iI f w).foldl gE (dY f a (p+j))|none=>dY f a (p+j))=_;obtain⟨t,et⟩:=eV ((b.take j).flatMap (iI f)) (A++b);have hb:j<b.length:=hj;have g:(dY f a (p+j))[p+j]?=some b[j]:=(by rw[ih,et,ajE,alS (by omega),ha,alZ,alp hb,aiW hb]);rw[g];simp only;rw[ih,<-alF,akx hb,aj9];simp
def ay(W:List (List Node)):List Node:=W.filterMap fun w=>w.getLast?
theorem eT(n:Node):∀W:List (List Node),(ay W).contains n=W.any fun u=>u.getLast?==some n
 | []=>rfl
 |w::W=>by
  have ih:=eT n W;unfold ay at ih⊢;rw[ajZ,ak0,<-ih];cases q:w.getLast? with
  |none=>simp
  |some m=>
   simp only[amx];congr 1;rw[ajw];simp only[akY,amA];exact eq_comm
def Bj(seen:List Node)(l:List (List Node))(w:List Node):List (List Node):=match w.getLast? with
 |none=>l
 |some n=>if(seen.contains n||l.any fun v=>v.getLast?==some n)=true then l else l++[w]
theorem vm(W:List (List Node)):∀(vs l:List (List Node)),W++vs.foldl (Bj (ay W)) l=vs.foldl gE (W++l)
 | [],l=>rfl
 |v::vs,l=>by
  rw[akG,akG,vm W vs];congr 1;unfold Bj gE;cases v.getLast? with
  |none=>rfl
  |some n=>
   simp only;rw[eT,List.any_append];by_cases h:((W.any fun u=>u.getLast?==some n)||l.any fun u=>u.getLast?==some n)=true
   .rw[ai5 h,ai5 h]
   .rw[ai0 h,ai0 h,ajE]
def BC(i since:Nat)(w:List Node):Bool:=(w.getLast?).any fun n=>n.1==i&&decide (since<=n.2)
def jv(g:Known)(good bad:List Node)(n:Node):List Node:=(below g n).filter fun m=>good.contains m&& !bad.contains m
theorem vX(good bad:List Node)(g:Known)(i since f:Nat)(seen:List Node)(di:List (List Node)):waysFrom good bad g i since (f+1) seen di=if di.isEmpty=true then none else match di.find? (BC i since)with
   |some w=>some w
   |none=>waysFrom good bad g i since f (seen++ay ((di.flatMap (iI (jv g good bad))).foldl (Bj seen) [])) ((di.flatMap (iI (jv g good bad))).foldl (Bj seen) []):=rfl
theorem uZ{W:List (List Node)}{t:List (List Node)}(e:vs.foldl gE W=W++t):∀w∈t,w∈vs/\∀n,w.getLast?=some n->n∉ay W:=by
 induction vs generalizing W t with
 |nil=>
  have:t=[]:=(by rw[List.foldl_nil]at e;exact(List.self_eq_append_right.mp e));subst this;exact fun w hw=>nomatch hw
 |cons v vs ih=>
  rw[akG]at e;cases hl:v.getLast? with
  |none=>
   have ea:gE W v=W:=(by unfold gE;rw[hl]);rw[ea]at e;exact fun w hw=>⟨aiS _ (ih e w hw).1,(ih e w hw).2⟩
  |some m=>
   have ea:gE W v=if(W.any fun u=>u.getLast?==some m)=true then W else W++[v]:=by unfold gE;rw[hl]
   rw[ea]at e;by_cases h:(W.any fun u=>u.getLast?==some m)=true
   .rw[ai5 h]at e;exact fun w hw=>⟨aiS _ (ih e w hw).1,(ih e w hw).2⟩
   .rw[ai0 h]at e;obtain⟨t',et⟩:=eV vs (W++[v]);have e2:t=v::t':=(by rw[et]at e;rw[ajE]at e;exact(List.append_cancel_left e).symm);subst e2;intro w hw;rcases aiZ.mp hw with q|q
    .subst q;refine⟨aiV ..,fun n hn z=>h ?_⟩;rw[hl]at hn;cases hn;rw[<-eT];exact ajp.mpr z
    .have z:=ih et w q;refine⟨aiS _ z.1,fun n hn y=>z.2 n hn ?_⟩;unfold ay at y⊢;rw[akN];exact aj1 _ y
theorem Gu{W t:List (List Node)}(e:vs.foldl gE W=W++t)(hv:∀v∈vs,v.getLast?≠none)(jZ:t≠[]):∃n∈ay t,n∉ay W/\∃v∈vs,v.getLast?=some n:=by
 cases t with
 |nil=>exact absurd rfl jZ
 |cons w t=>
  obtain⟨a,b⟩:=uZ e w (aiV ..);cases q:w.getLast? with
  |none=>exact absurd q (hv w a)
  |some n=>
   refine⟨n,?_,b n q,w,a,q⟩;unfold ay;rw[ajZ,q];exact aiV ..
theorem sO{good bad:List Node}{g:Known}{i since:Nat}{a:Node}{B:List Node}(hB:∀n∈good,n∈B){q:Nat}(hq:(dY (jv g good bad) a q).length<=q):∀(f:Nat) (A di:List (List Node)),dY (jv g good bad) a A.length=A++di->(∀w∈A,BC i since w=false)->(B.filter fun n=> !(ay (A++di)).contains n).length<f->waysFrom good bad g i since f (ay (A++di)) di=(dY (jv g good bad) a q).find? (BC i since)
 |0,_,_,_,_,h=>absurd h (alb _)
 |f+1,A,di,e,hA,h=>by
  have fA:A.find? (BC i since)=none:=(akg.mpr fun w hw z=>by rw[hA w hw]at z;cases z);have whole:∀r,A.length<=r->∃t,dY (jv g good bad) a r=A++di++t:=(fun r hr=>by obtain⟨t,et⟩:=nJ (f:=jv g good bad) (a:=a) hr;exact⟨t,by rw[et,e]⟩);have fin:∀r,dY (jv g good bad) a (max q r)=dY (jv g good bad) a q:=fun r=>nI hq _ (amd _ _);rw[vX];cases hw:di with
  |nil=>
   subst hw;simp only[List.isEmpty_nil,al2];rw[ajs]at e;have s:=nI (f:=jv g good bad) (a:=a) (p:=A.length) (by rw[e];exact ai2 _) (max q A.length) (alm _ _);rw[fin]at s;rw[s,e,fA]
  |cons w0 ws=>
   rw[<-hw];have ne:di.isEmpty=false:=(by rw[hw];rfl);rw[ne];simp only[akr,ali];cases hf:di.find? (BC i since)with
   |some w=>
    simp only;obtain⟨t,et⟩:=whole (max q A.length) (alm _ _);rw[fin]at et;rw[et,ajE,alG,fA,alG,hf];rfl
   |none=>
    simp only;have r:=DN e rfl di.length (ai2 _);rw[ai9]at r;have sd:=vm (A++di) (di.flatMap (iI (jv g good bad))) [];rw[ajs]at sd;rw[<-sd]at r;have ll:ay (A++di)++ay ((di.flatMap (iI (jv g good bad))).foldl (Bj (ay (A++di))) [])=ay (A++di++(di.flatMap (iI (jv g good bad))).foldl (Bj (ay (A++di))) []):=(by unfold ay;rw[akN (l:=A++di)]);rw[ll];generalize hm:(di.flatMap (iI (jv g good bad))).foldl (Bj (ay (A++di))) []=more at r sd;have hA':∀w∈A++di,BC i since w=false:=fun w SU=>by
     rcases ajh.mp SU with z|z
     .exact hA w z
     .have:=akg.mp hf w z;simpa using this
    rw[<-aiT]at r;by_cases me:more=[]
    .subst me;have fA':(A++di).find? (BC i since)=none:=(akg.mpr fun w hw z=>by rw[hA' w hw]at z;cases z);rw[ajs]at r;have s:=nI (f:=jv g good bad) (a:=a) (p:=(A++di).length) (by rw[r];exact ai2 _) (max q (A++di).length) (alm _ _);rw[fin]at s;rw[s,r,fA'];cases f with
     |zero=>rfl
     |succ f=>rw[vX];rfl
    .refine sO hB hq f (A++di) more r hA' ?_;obtain⟨n,n1,n2,v,hv,hvn⟩:=Gu sd.symm (fun v hv=>by
      obtain⟨w,SU,wQ⟩:=ajH.mp hv;unfold iI at wQ;cases q:w.getLast? with
      |none=>rw[q]at wQ;cases wQ
      |some x=>
       rw[q]at wQ;obtain⟨m,_,rfl⟩:=ai7.mp wQ;simp) me
     have nB:n∈B:=by
      obtain⟨w,SU,wQ⟩:=ajH.mp hv;unfold iI at wQ;cases q:w.getLast? with
      |none=>rw[q]at wQ;cases wQ
      |some x=>
       rw[q]at wQ;obtain⟨m,EZ,rfl⟩:=ai7.mp wQ;simp at hvn;subst hvn;have:=(ajy.mp EZ).2;simp only[ajn]at this;exact hB _ (ajp.mp this.1)
     have lt:=filter_lt (fun n=> !(ay (A++di++more)).contains n) (fun n=> !(ay (A++di)).contains n) (fun x hx=>by
      unfold ay at hx⊢;rw[akN (l:=A++di)]at hx;simp only[ajp,alh,ajh,List.contains_eq_mem,alA,not_or]at hx⊢;exact hx.1) B ⟨n,nB,by
       have:(ay (A++di)).contains n=false:=by
        cases z:(ay (A++di)).contains n with
        |false=>rfl
        |true=>exact absurd (ajp.mp z) n2
       rw[this];rfl,by
       have:(ay (A++di++more)).contains n=true:=(by refine ajp.mpr ?_;unfold ay at n1⊢;rw[akN (l:=A++di)];exact ajI _ n1);rw[this];rfl⟩
     omega
theorem jA(w:List Node)(m:Node):(w++[m]).getLast?=some m:=by simp
theorem tj(W:List (List Node))(w:List Node)(m:Node):ay (W++[w++[m]])=ay W++[m]:=by unfold ay;rw[akN];simp
theorem tm(w:List Node):∀(ms:List Node) (W:List (List Node)),ay ((ms.map fun m=>w++[m]).foldl gE W)=union (ay W) ms
 | [],W=>rfl
 |m::ms,W=>by
  rw[aji,akG,g9,tm w ms];congr 1;unfold gE;rw[jA];simp only;rw[<-eT];by_cases h:(ay W).contains m=true
  .rw[ai5 h,ai5 h]
  .rw[ai0 h,ai0 h,tj]
theorem ij{f:Node->List Node}{a:Node}:∀p,∀w∈dY f a p,w≠[]
 |0,w,hw=>by have:w=[a]:=(by simpa [dY]using hw);rw[this];simp
 |p+1,w,hw=>by
  unfold dY at hw;cases q:(dY f a p)[p]? with
  |none=>rw[q]at hw;exact ij p w hw
  |some v=>
   rw[q]at hw;simp only at hw;obtain⟨t,et⟩:=eV (iI f v) (dY f a p);rw[et]at hw;rcases ajh.mp hw with z|z
   .exact ij p w z
   .have:=(uZ et w z).1;unfold iI at this;cases y:v.getLast? with
    |none=>rw[y]at this;cases this
    |some x=>
     rw[y]at this;obtain⟨m,_,rfl⟩:=ai7.mp this;simp
theorem pT:∀{W:List (List Node)},(∀w∈W,w≠[])->(ay W).length=W.length/\∀i:Nat,(ay W)[i]?=(W[i]?).bind fun w=>w.getLast?
 | [],_=>⟨rfl,fun i=>by simp[ay]⟩
 |w::W,h=>by
  obtain⟨a,b⟩:=pT (W:=W) fun v hv=>h v (aiS _ hv);cases q:w.getLast? with
  |none=>exact absurd (am5.mp q) (h w (aiV ..))
  |some n=>
   have e:ay (w::W)=n::ay W:=(by unfold ay;rw[ajZ,q]);rw[e];refine⟨by rw[ajc,a,ajc],fun i=>?_⟩;cases i with
   |zero=>simp[q]
   |succ i=>simpa using b i
theorem i9{f:Node->List Node}{a:Node}:∀p,ay (dY f a p)=eB f [a] p
 |0=>by simp[dY,eB,ay]
 |p+1=>by
  have ih:=i9 (f:=f) (a:=a) p;have hl:=(pT (ij (f:=f) (a:=a) p)).2 p;unfold dY eB;rw[<-ih,hl];cases q:(dY f a p)[p]? with
  |none=>simp
  |some w=>
   simp only[Option.bind_some];cases y:w.getLast? with
   |none=>exact absurd (am5.mp y) (ij p w (ai1 q))
   |some n=>
    simp only;unfold iI;rw[y];exact tm w (f n) _
theorem rV(p:Nat):(dY f a p).length=(eB f [a] p).length:=by rw[<-i9,(pT (ij p)).1]
theorem nh{f:Node->List Node}{P:Node->Prop}{l:List Node}(hP:∀n,P n->∀m∈f n,P m)(h0:∀n∈l,P n):∀p,∀n∈eB f l p,P n
 |0,n,hn=>h0 n hn
 |p+1,n,hn=>by
  unfold eB at hn;cases q:(eB f l p)[p]? with
  |none=>rw[q]at hn;exact nh hP h0 p n hn
  |some x=>
   rw[q]at hn;rcases bg.mp hn with z|z
   .exact nh hP h0 p n z
   .exact hP x (nh hP h0 p x (ai1 q)) n z
theorem vU{f g:Node->List Node}{P:Node->Prop}(e:∀n,P n->f n=g n)(hP:∀n,P n->∀m∈f n,P m){a:Node}(ha:P a):∀p,dY f a p=dY g a p
 |0=>rfl
 |p+1=>by
  have ih:=vU e hP ha p;unfold dY;rw[<-ih];cases q:(dY f a p)[p]? with
  |none=>rfl
  |some w=>
   simp only;congr 1;unfold iI;cases y:w.getLast? with
   |none=>rfl
   |some n=>
    simp only;have:n∈eB f [a] p:=(by rw[<-i9];unfold ay;exact akL.mpr ⟨w,ai1 q,y⟩);rw[e n (nh hP (by simpa using ha) p n this)]
def sP(h:Known)(num:Nat)(n:Node):List Node:=(below h n).filter fun m=>standsOn (without h num) m.1 m.2&& !standsOn h m.1 m.2
theorem dh(ok:fS h)(num:Nat):fS (without h num):=⟨ok.fD,ok.nod⟩
theorem pF(hm:m∈sP h num n):m∈below h n:=(ajy.mp hm).1
theorem mP(ok:fS h)(num:Nat)(a:Node):bS (sP h num) (ao (sP h num) MANY [a]):=gP ok (d:=a.2) (fun n m hm=>pF hm) (by simp) (by simp)
theorem LB(ok:fS h)(hr:(h.revokes.find? fun r=>r.num==num)=some r)(s1:standsOn (without h num) a.1 a.2=true)(s2:standsOn h a.1 a.2=false) (hq:(dY (sP h num) a q).length<=q):chain h num a.1 a.2=(dY (sP h num) a q).find? (BC r.id r.since):=by have D4:=dh ok num;have hcW:=fb D4 (d:=a.2) (ns:=[(a.1,a.2)]) (by simp) (by simp);have hc:=fb ok (d:=a.2) (ns:=[(a.1,a.2)]) (by simp) (by simp);have g1:(standing (without h num) [(a.1,a.2)]).contains (a.1,a.2)=true:=s1;have g2:(standing h [(a.1,a.2)]).contains (a.1,a.2)=false:=s2;unfold chain;rw[hr];simp only;rw[ai5 ⟨g1,g2⟩];have agree:∀n,n∈reach h MANY [(a.1,a.2)]/\n∈reach (without h num) MANY [(a.1,a.2)]->sP h num n=jv (without h num) (standing (without h num) [(a.1,a.2)]) (standing h [(a.1,a.2)]) n:=(fun n hn=>by unfold sP jv;show _=(below h n).filter _;refine akA fun m hm=>?_;have e1:(standing (without h num) [(a.1,a.2)]).contains m=standsOn (without h num) m.1 m.2:=(by rw[ajw,aj D4,ajp,eY D4 (d:=a.2) (by simp) (by simp)];exact⟨fun z=>z.2,fun z=>⟨hcW n hn.2 m hm,z⟩⟩);have e2:(standing h [(a.1,a.2)]).contains m=standsOn h m.1 m.2:=(by rw[ajw,aj ok,ajp,eY ok (d:=a.2) (by simp) (by simp)];exact⟨fun z=>z.2,fun z=>⟨hc n hn.1 m hm,z⟩⟩);rw[e1,e2]);have bw:∀n,below (without h num) n=below h n:=fun _=>rfl;have stp:∀n,(n∈reach h MANY [(a.1,a.2)]/\n∈reach (without h num) MANY [(a.1,a.2)])->∀m∈sP h num n,(m∈reach h MANY [(a.1,a.2)]/\m∈reach (without h num) MANY [(a.1,a.2)]):=(fun n hn m hm=>by have x:=pF hm;refine⟨hc n hn.1 m x,hcW n hn.2 m ?_⟩;rw[bw];exact x);have a0:a∈[(a.1,a.2)]:=aiU.mpr rfl;have wc:∀p,dY (sP h num) a p=dY (jv (without h num) (standing (without h num) [(a.1,a.2)]) (standing h [(a.1,a.2)])) a p:=fun p=>vU (P:=fun n=>n∈reach h MANY [(a.1,a.2)]/\n∈reach (without h num) MANY [(a.1,a.2)]) agree stp (And.intro (fJ a0) (fJ a0)) p;rw[wc]at hq⊢;have hB:∀n∈standing (without h num) [(a.1,a.2)],n∈box (without h num) a.2:=(fun n hn=>by obtain⟨x,k,hk⟩:=(eY D4 (d:=a.2) (by simp) (by simp)).mp hn;obtain⟨p,hp⟩:=tX hk;rw[hX]at x;exact og hp (Aq (fun _ _ z=>z) (d:=a.2) (by simp) n x));have w:=sO (i:=r.id) (since:=r.since) hB hq MANY [] [[a]] rfl (fun w hw=>nomatch hw) (ajR (ajk _ _) (oj D4 a.2));have e1:ay ([]++[[a]])=[(a.1,a.2)]:=rfl;have e2:[[a]]=[[((a.1,a.2):Node)]]:=rfl;rw[e1,e2]at w;exact w
theorem DC(s:¬(standsOn (without h num) a.1 a.2=true/\standsOn h a.1 a.2=false)):chain h num a.1 a.2=none:=by
 unfold chain;cases h.revokes.find? fun r=>r.num==num with
 |none=>rfl
 |some r=>
  simp only;unfold standsOn at s;rw[ai0 s]
theorem qU(hr:(h.revokes.find? fun r=>r.num==num)=some r)(nd:(h.revokes.map fun r=>r.num).Nodup)(o:own (without h num) p d=true)(nt:¬(p.id=r.id/\r.since<=d)):own h p d=true:=by
 unfold own at o⊢;rw[ajn]at o⊢;refine⟨o.1,?_⟩;have o2:=o.2;unfold revokedBy at o2⊢;simp only[Option.isNone_map,Option.isNone_iff_eq_none]at o2⊢;rw[akg]at o2⊢;intro x hx;by_cases e:x.num=num
 .have hrm:=akk hr;have Ob:r.num=num:=(by simpa using ald hr);have exr:x=r:=by
   have inj:∀(l:List Revoke),(l.map fun r=>r.num).Nodup->∀x∈l,∀y∈l,x.num=y.num->x=y:=fun l=>by
    induction l with
    |nil=>exact fun _ x hx=>nomatch hx
    |cons z l ih=>
     intro nd x hx y hy exy;rw[aji,ajP]at nd;rcases aiZ.mp hx with rfl|Lg
     .rcases aiZ.mp hy with rfl|GA
      .rfl
      .exact absurd (ai7.mpr ⟨y,GA,exy.symm⟩) nd.1
     .rcases aiZ.mp hy with rfl|GA
      .exact absurd (ai7.mpr ⟨x,Lg,exy⟩) nd.1
      .exact ih nd.2 x Lg y GA exy
   exact inj h.revokes nd x hx r hrm (by rw[e,Ob])
  subst exr;simp only[ajn,akY,ajQ];exact fun z=>nt ⟨z.1.symm,z.2⟩
 .exact o2 x (ajy.mpr ⟨hx,by simpa using e⟩)
theorem FA(ok:fS h)(hr:(h.revokes.find? fun r=>r.num==num)=some r)(nd:(h.revokes.map fun r=>r.num).Nodup)(s1:standsOn (without h num) a.1 a.2=true)(s2:standsOn h a.1 a.2=false) (hq:(dY (sP h num) a q).length<=q):∃w,(dY (sP h num) a q).find? (BC r.id r.since)=some w:=by
 have D4:=dh ok num;cases hf:(dY (sP h num) a q).find? (BC r.id r.since)with
 |some w=>exact⟨w,rfl⟩
 |none=>
  exfalso;rw[akg]at hf;have ZF:∀n∈eB (sP h num) [a] q,¬(n.1=r.id/\r.since<=n.2):=(fun n hn z=>by rw[<-i9]at hn;unfold ay at hn;obtain⟨w,hw,e⟩:=akL.mp hn;refine hf w hw ?_;unfold BC;rw[e];simp[z.1,z.2]);have NB:(eB (sP h num) [a] q).length<=q:=(by rw[<-rV];exact hq);have cl:bS (sP h num) (eB (sP h num) [a] q):=(by rw[tF NB (mP ok num a)];exact mP ok num a);have key:∀k,∀n∈eB (sP h num) [a] q,lv (without h num) k n=true->¬st h n->False:=fun k=>by
   induction k with
   |zero=>exact fun n _ e=>nomatch e
   |succ k ih=>
    intro n hn e ns;unfold lv yy at e;have pe:paperOf (without h num) n.1=paperOf h n.1:=rfl;rw[pe]at e;cases hp:paperOf h n.1 with
    |none=>rw[hp]at e;cases e
    |some p=>
     rw[hp]at e;simp only[ajn,ajX,ajA]at e;obtain⟨o,g,hg,al⟩:=e;have pid:=(cG hp).2;have oh:=qU hr nd o (by rw[pid];exact ZF n hn);by_cases ex:∃x∈g,¬st h (nodeOf p n.2 x)
     .obtain⟨x,hx,nx⟩:=ex;have mb:nodeOf p n.2 x∈below h n:=(fO hp).mpr ⟨g,hg,x,hx,rfl⟩;have mt:nodeOf p n.2 x∈sP h num n:=by
       refine ajy.mpr ⟨mb,?_⟩;have e1:standsOn (without h num) (nodeOf p n.2 x).1 (nodeOf p n.2 x).2=true:=(aj D4).mpr ⟨k,al x hx⟩;have e2:standsOn h (nodeOf p n.2 x).1 (nodeOf p n.2 x).2=false:=by
        cases z:standsOn h (nodeOf p n.2 x).1 (nodeOf p n.2 x).2 with
        |false=>rfl
        |true=>exact absurd ((aj ok).mp z) nx
       rw[e1,e2];rfl
      exact ih _ (cl n hn _ mt) (al x hx) nx
     .refine ns ⟨MANY+1,?_⟩;unfold lv yy;rw[hp];simp only[ajn,ajX,ajA];refine⟨oh,g,hg,fun x hx=>?_⟩;have sx:st h (nodeOf p n.2 x):=alU fun z=>ex ⟨x,hx,z⟩;have rs:=fG ok sx;exact iQ (aki rs.2) rs.1.at_
  obtain⟨k,hk⟩:=(aj D4).mp s1;refine key k a ?_ hk (fun z=>?_)
  .obtain⟨t,et⟩:=ng (f:=sP h num) (l:=[a]) (ajo q);rw[et];simp[eB]
  .have:=(aj ok (i:=a.1) (d:=a.2)).mpr z;rw[s2]at this;cases this
end PM
namespace L2
open PySem PySem.Spec PyProof.Rows
variable{X:Cx}{e:Expr}{ps:List Str}{sp:Sp}{H H':Hp}{p:Pos}{es:List Expr}{f:Str}{ta:TE}{o:HO}
structure bz(P:Program)(w:World)(K:W.Frag)(mg:Str->Option Value)(base:Heap)(k:Nat)(x:Str)(ps:List Str)(sp:Sp):Prop where
 ex:∃f fd,gU P w K mg base vT k f fd ps sp/\mg x=some (.ref f)/\W.keepIn K (.ref f)=true/\Binds K fd ps []
theorem bz.mono{P:Program}{w:World}{K:W.Frag}{mg:Str->Option Value}{base:Heap}{j k:Nat}{x:Str}(D:bz P w K mg base j x ps sp)(h:j<=k):bz P w K mg base k x ps sp:=
 let⟨f,fd,F,r⟩:=D.ex;⟨f,fd,F.mono h,r⟩
section
variable{k:Nat}{x:Str}{pos:Pos}{t:TA}
theorem aJ(D:bz X.prog X.w X.K X.mg X.base k x ps sp)(hr:cu k X.A)(ha:PA X (e::es) t)(hg:Gl X x:=by rfl)(AL:(x==("__debug__":Str))=false:=by decide) (he:starEach (e::es) X.env=(false,eval e X.env)::starEach es X.env:=by rfl)(mI:(backTo pos (starEach es X.env)).any (·.1)=false:=by rfl):PE X (.Call (.Name x p) (e::es) [] pos) (N4 sp [] E0 t):=by obtain⟨f,fd,F,hm,hk,hb⟩:=D.ex;exact MI F hr hg hm hk hb .nil JZ ha AL he mI
end
section
variable{K:W.Frag}{pos:Pos}
theorem x9(h:X.K=K:=by rfl):X3 X (T5 K):=by subst h;exact cU
theorem eF(he:PE X e ta)(hb:attributeBase e f X.env (eval e X.env)=eval e X.env)(h:X.K=K:=by rfl):PE X (.Attribute e f pos) (TV K ta f):=by subst h;exact aL he hb
end
theorem aC.upd{H1:Hp}{a:Addr}(s:aC H H1)(h:H a=none):aC H (L2.upd H1 a o):=fun b u e=>by rw[aB (aG e h)];exact s b u e
theorem zU{q:Addr}(h:H q=Option.none):aC H (upd H q o):=aC.upd (aC.refl H) h
theorem aC.x(s:aC H H'):aw H H':=aw.of s
theorem aC.tabs{TT:List (Addr×List (Pos×Str))}(s:aC H H')(t:bY TT H):bY TT H':=t.keep (fun b ps e=>s b _ e) fun b φ e=>s b _ e
def WY(N:List Str)(sc scope:Scope)(own:List (Str×Nat)):Bool:=
 decide (scope.kind= .function)&&scope.names.all (fun y=>decide (scope.names.lookup y.1=some y.2))&&own.all (fun p=>decide (N[p.2]?=some p.1))&&
 scope.names.all (fun y=> !decide (y.2= .free)||decide (sc.names.lookup y.1=some .cell)||decide (sc.names.lookup y.1=some .free))&&
 scope.names.all (fun y=> !(decide (y.2= .local)||decide (y.2= .cell))||decide (y.1∈own.map (·.1))|| !decide (y.1∈N))
theorem cV{N:List Str}{sc scope:Scope}{own:List (Str×Nat)}(h:WY N sc scope own=true):BB N sc scope own:=by
 unfold WY at h;simp only[ajn,ajA,ajQ,amf,alh,alA,Bool.or_eq_false_iff]at h;obtain⟨⟨⟨⟨h1,h2⟩,h3⟩,h4⟩,h5⟩:=h;refine⟨h1,h2,h3,fun y hy hf=>?_,fun y hy hk=>?_⟩
 .rcases h4 y hy with(z|z)|z
  .exact absurd hf z
  .exact .inl z
  .exact .inr z
 .rcases h5 y hy with(z|z)|z
  .rcases hk with k|k
   .exact absurd k z.1
   .exact absurd k z.2
  .exact .inl z
  .exact .inr z
end L2
namespace Pp
open PySem PySem.Spec PyProof.Rows L2
variable{C:Cs}{mg:Str->Option Value}{a f l:Addr}{fd:FuncData}{H H':Hp}{i:Nat}{p:Paper}{α:Type}{P:Program}{w:World}{base:Heap}{r:Revoke}{kv:Key×V}
def top(i:Nat):Stmt:=PySem.Challenge.pw_papersonpapers_s01_answers.main.body.getD i (.Pass ⟨0,0,0,0⟩)
structure Cs where
 paper:Addr
 rev:Addr
 dec:Addr
 cw:Addr
 known:Addr
 call:Addr
structure Txt(K:W.Frag)(mg:Str->Option Value)(C:Cs):Prop where
 cP:G2 K C.paper
 cR:G2 K C.rev
 cD:G2 K C.dec
 cH:G2 K C.cw
 cK:G2 K C.known
 cC:G2 K C.call
 nP:∀f∈(["number","first","last","grounds","heard"]:List Str),eE K C.paper f
 nR:∀f∈(["number","paper","since","heard","taken_back"]:List Str),eE K C.rev f
 nD:∀f∈(["number","paper","day","stood","made"]:List Str),eE K C.dec f
 nH:∀f∈(["today","papers","revocations","decisions"]:List Str),eE K C.cw f
 nK:∀f∈(["papers","revocations"]:List Str),eE K C.known f
 nC:∀f∈(["number","numbers","row","end"]:List Str),eE K C.call f
 own:∀x∈(["len","range","any","all","sorted","enumerate","list","tuple","set","zip"]:List Str),mg x=none
theorem Txt.E1{K:PySem.W.Frag}(T:Txt K mg C){f:Str}(h:f∈(["number","first","last","grounds","heard"]:List Str):=by decide):eE K C.paper f:=T.nP f h
theorem Txt.HM{K:PySem.W.Frag}(T:Txt K mg C){f:Str}(h:f∈(["number","paper","since","heard","taken_back"]:List Str):=by decide):eE K C.rev f:=T.nR f h
theorem Txt.yY{K:PySem.W.Frag}(T:Txt K mg C){f:Str}(h:f∈(["number","paper","day","stood","made"]:List Str):=by decide):eE K C.dec f:=T.nD f h
theorem Txt.Gq{K:PySem.W.Frag}(T:Txt K mg C){f:Str}(h:f∈(["today","papers","revocations","decisions"]:List Str):=by decide):eE K C.cw f:=T.nH f h
theorem Txt.anK{K:PySem.W.Frag}(T:Txt K mg C){f:Str}(h:f∈(["papers","revocations"]:List Str):=by decide):eE K C.known f:=T.nK f h
theorem Txt.WZ{K:PySem.W.Frag}(T:Txt K mg C){f:Str}(h:f∈(["number","numbers","row","end"]:List Str):=by decide):eE K C.call f:=T.nC f h
theorem Txt.dZ{K:PySem.W.Frag}(T:Txt K mg C){x:Str}(h:x∈(["len","range","any","all","sorted","enumerate","list","tuple","set","zip"]:List Str):=by decide):mg x=none:=T.own x h
abbrev Fd(fs:List (Str×V))(f:Str)(v:V):Prop:=fs.lookup f=some v
def aT(H:Hp)(l:Addr)(g:List Nd):Prop:=∃as,H l=some (.lst (as.map V.ref))/\aI H as g
def a9(H:Hp)(l:Addr)(gs:List (List Nd)):Prop:=∃ls,H l=some (.lst (ls.map V.ref))/\Paired (aT H) ls gs
structure fH(C:Cs)(H:Hp)(a:Addr)(p:Paper):Prop where
 ex:∃dx fs gl,H a=some (.ins C.paper dx fs)/\Fd fs "number" (.int p.id)/\Fd fs "first" (.int p.from_)/\Fd fs "last" (.int p.to_)/\Fd fs "heard" (.int p.heard)/\Fd fs "grounds" (.ref gl)/\a9 H gl p.grounds
 bits:∀g∈p.grounds,∀r∈g,r.2=0\/r.2=1
 fD:p.grounds.length<=3/\∀g∈p.grounds,g.length<=4
def Y1:Option Nat->V
 |none=> .cW
 |some b=> .int b
structure dX(C:Cs)(H:Hp)(a:Addr)(r:Revoke):Prop where
 ex:∃dx fs,H a=some (.ins C.rev dx fs)/\Fd fs "number" (.int r.num)/\Fd fs "paper" (.int r.id)/\Fd fs "since" (.int r.since)/\Fd fs "heard" (.int r.heard)/\Fd fs "taken_back" (Y1 r.back)/\fs.length<=10
def fR(C:Cs)(H:Hp)(kv:Key×V)(p:Paper):Prop:=kv.1=Sum.inl (p.id:Int)/\∃a,kv.2= .ref a/\fH C H a p
def iW(C:Cs)(H:Hp)(kv:Key×V)(r:Revoke):Prop:=kv.1=Sum.inl (r.num:Int)/\∃a,kv.2= .ref a/\dX C H a r
structure aq(C:Cs)(H:Hp)(a:Addr)(h:Known):Prop where
 ex:∃dx fs pd rl aP rs,H a=some (.ins C.known dx fs)/\Fd fs "papers" (.ref pd)/\Fd fs "revocations" (.ref rl)/\H pd=some (.dK aP)/\Paired (fR C H) aP h.papers/\H rl=some (.lst (rs.map V.ref))/\Paired (dX C H) rs h.revokes
theorem aT.same(s:aw H H'){g:List Nd}(h:aT H l g):aT H' l g:=let⟨as,a,b⟩:=h;⟨as,s.kp _ _ a nofun,b.same s⟩
theorem a9.same(s:aw H H'){gs:List (List Nd)}(h:a9 H l gs):a9 H' l gs:=let⟨ls,a,b⟩:=h;⟨ls,s.kp _ _ a nofun,Paired.a8 b fun _ _ q=>q.same s⟩
theorem fH.same(s:aw H H')(h:fH C H a p):fH C H' a p:=let⟨dx,fs,gl,x,a1,a2,a3,a4,a5,g⟩:=h.ex;⟨⟨dx,fs,gl,s.kp _ _ x nofun,a1,a2,a3,a4,a5,g.same s⟩,h.bits,h.fD⟩
theorem dX.same(s:aw H H')(h:dX C H a r):dX C H' a r:=let⟨dx,fs,x,q⟩:=h.ex;⟨dx,fs,s.kp _ _ x nofun,q⟩
theorem fR.same(s:aw H H')(h:fR C H kv p):fR C H' kv p:=let⟨e,a,e2,q⟩:=h;⟨e,a,e2,q.same s⟩
theorem iW.same(s:aw H H')(h:iW C H kv r):iW C H' kv r:=let⟨e,a,e2,q⟩:=h;⟨e,a,e2,q.same s⟩
theorem aq.same(s:aw H H'){h:Known}(x:aq C H a h):aq C H' a h:=
 let⟨dx,fs,pd,rl,aP,rs,e,f1,f2,e1,p1,e2,p2⟩:=x.ex
 ⟨dx,fs,pd,rl,aP,rs,s.kp _ _ e nofun,f1,f2,s.kp _ _ e1 nofun,Paired.a8 p1 fun _ _ q=>q.same s,s.kp _ _ e2 nofun,Paired.a8 p2 fun _ _ q=>q.same s⟩
theorem gh{C:Cs}{H:Hp}:∀{aP:List (Key×V)} {ps:List Paper} (i:Nat),Paired (fR C H) aP ps->(ps.find? (fun p=>p.id==i)=none->bc aP (Sum.inl (i:Int))=none)/\∀p,ps.find? (fun p=>p.id==i)=some p->∃a,bc aP (Sum.inl (i:Int))=some (.ref a)/\fH C H a p
 |_,_,i,.nil=>⟨fun _=>rfl,fun p e=>(nomatch e)⟩
 |_,_,i,.cons (a:=kv) (b:=q) ⟨e1,a,e2,hp⟩ t=>by
  obtain⟨Le,ET⟩:=gh i t;unfold bc at Le ET⊢;rw[ajG,ajG];by_cases e:q.id=i
  .have d:decide (kv.1=Sum.inl (i:Int))=true:=(by rw[e1,e];exact ai8 rfl);have b:(q.id==i)=true:=(by rw[e];exact aka i);rw[d,b];exact⟨nofun,fun p z=>by cases z;exact⟨a,by rw[<-e2];rfl,hp⟩⟩
  .have d:decide (kv.1=Sum.inl (i:Int))=false:=(by rw[e1];refine ajl fun z=>e ?_;injection z with z;omega);have b:(q.id==i)=false:=ajt.mpr e;rw[d,b];exact⟨Le,ET⟩
structure fT(C:Cs)(H:Hp)(a:Addr)(x:Nat×Decision):Prop where
 ex:∃dx fs,H a=some (.ins C.dec dx fs)/\Fd fs "number" (.int x.1)/\Fd fs "paper" (.int x.2.id)/\Fd fs "day" (.int x.2.day)/\Fd fs "stood" (.bl (x.2.answer==1))/\Fd fs "made" (.int x.2.known)
theorem fT.same(s:aw H H'){x:Nat×Decision}(h:fT C H a x):fT C H' a x:=let⟨dx,fs,e,q⟩:=h.ex;⟨dx,fs,s.kp _ _ e nofun,q⟩
def numbered(l:List Decision):List (Nat×Decision):=(List.range l.length).map (·+1)|>.zip l
theorem iG(f:Str)(v:V):∀fs:List (Str×V),(fs.lookup f).isSome=true->(be f v fs).length=fs.length
 | [],h=>by cases h
 |(g,u)::fs,h=>by
  rw[ajz]at h;unfold be;by_cases e:g=f
  .rw[ai5 e];rfl
  .rw[ai0 e];have:(f==g)=false:=ajt.mpr (ajC e);rw[this]at h;simp only at h;rw[ajc,ajc,iG f v fs h]
theorem bT{as:List Addr}{y:V}(hi:(as.map V.ref)[i]?=some y):∃a,as[i]?=some a/\y=V.ref a:=by
 rw[ajd]at hi;cases e:as[i]? with
 |none=>rw[e]at hi;cases hi
 |some z=>rw[e]at hi;exact⟨z,Z,(ajr hi).symm⟩
theorem aa{l:List α}{x:α}(h:l[i]?=some x):l.take (i+1)=l.take i++[x]:=by rw[akx (ai3.mp h).1,(ai3.mp h).2]
def qZ(h:Known)(n:Nd):Bool:=match paperOf h n.1 with
 |none=>false
 |some p=>Vbkoac.own h p n.2
def au(h:Known)(n:Nd):List (List Nd):=match paperOf h n.1 with
 |none=>[]
 |some p=>if Vbkoac.own h p n.2=true then p.grounds.map fun g=>g.map (nodeOf p n.2)else []
theorem bC{α β:Type}{R:α->β->Prop}{a:α}{b:β}(r:R a b):∀{as:List α} {bs:List β},Paired R as bs->Paired R (as++[a]) (bs++[b])
 |_,_,.nil=> .cons r .nil
 |_,_,.cons q t=> .cons q (bC r t)
theorem fM{H:Hp}{D:Addr}{o:HO}(s:m9 (H D)):∀{ls:List Addr} {gs:List (List Nd)},D∉ls->Paired (aT H) ls gs->Paired (aT (upd H D o)) ls gs
 |_,_,_,.nil=> .nil
 |_,_,n,.cons ⟨as,z1,z2⟩ t=> .cons ⟨as,by rw[aB (fun q=>n (by rw[q];exact aiV ..))];exact z1,aI.upd z2 s⟩ (fM s (fun q=>n (aiS _ q)) t)
theorem jT{H:Hp}:∀{as bs:List Addr} {ns ms:List Nd},aI H as ns->aI H bs ms->aI H (as++bs) (ns++ms)
 |_,_,_,_,.nil,t=>t
 |_,_,_,_,.cons r s,t=> .cons r (jT s t)
section
variable{K:W.Frag}
abbrev xi:=top 24
theorem IV:aM ["revocation","day"] ["revocation","day"] (aF xi):=dc
def eI(r:Revoke)(k:Nat):Bool:=decide (r.heard<=k)&&(match r.back with
 |none=>true
 |some b=>decide (k<b))
def zF(C:Cs):Sp:=fun vs H Q _=>∃a r k,vs=[.ref a,.int (k:Nat)]/\dX C H a r/\Q (.bl (eI r k)) H
theorem Fm(F:bL "counts_at" xi)(T:Txt K mg C):de 1 ["revocation","day"] (zF C):=by
 refine d9 IV
 .obtain⟨a,r,k,rfl,_⟩:=h;rfl
 .obtain⟨a,r,k,rfl,⟨dx,fs,ha,f1,f2,f3,f4,f5,_⟩,hQ⟩:=h;have n4:=T.nR "heard" (by decide);have n5:=T.nR "taken_back" (by decide);refine⟨_,aD (aZ (aY wB (aL (pv 0) rfl) (pv 1)) (aE (aH gN)) aN) (aE (aH (T8 (fe tJ (aL (pv 0) rfl) iA) (pO (fe n9 (pv 1) (aL (pv 0) rfl)))))),?_⟩;refine⟨_,Z,a,_,dx,fs,_,Z,ha,T.cR,n4,f4,_,Z,_,_,Z,Z,_,Z,aO (fun hc=>?_) (fun hc=>?_)⟩
  .have:¬r.heard<=k:=(by have:=aja hc;omega);have e:eI r k=false:=(by unfold eI;rw[ajl this];rfl);rw[e]at hQ;exact hQ
  .have le:r.heard<=k:=(by have:¬((k:Int)<(r.heard:Int)):=fun z=>hc (ai8 z);omega);refine⟨_,Z,a,_,dx,fs,_,Z,ha,T.cR,n5,f5,Z,_,Z,?_⟩;cases hb:r.back with
   |none=>
    have e:eI r k=true:=(by unfold eI;rw[hb,ai8 le];rfl);rw[e]at hQ;exact aO (fun _=>hQ) (fun z=>absurd rfl z)
   |some b=>
    rw[hb]at f5;refine aO (fun z=>absurd (aja z) nofun) (fun _=>?_);refine⟨_,Z,_,Z,a,_,dx,fs,_,Z,ha,T.cR,n5,f5,_,_,Z,Z,?_⟩;have e:eI r k=decide ((k:Int)<(b:Int)):=(by unfold eI;rw[hb,ai8 le,akv];exact aks.mpr (by omega));rw[e]at hQ;exact hQ
theorem aR{α β:Type}{R:α->β->Prop}:∀{as:List α} {bs:List β} {i:Nat} {a:α},Paired R as bs->as[i]?=some a->∃b,bs[i]?=some b/\R a b
 |_,_,_,_,.nil,e=>by simp at e
 |_,_,0,a,.cons r _,e=>by simp at e;subst e;exact⟨_,Z,r⟩
 |_,_,i+1,a,.cons _ t,e=>by obtain⟨u,h1,h2⟩:=aR (i:=i) t (by simpa using e);exact⟨u,by simpa using h1,h2⟩
theorem pq{p:α->Bool}{l:List α}{x:α}(hx:l[i]?=some x)(hn:∀y∈l.take i,p y=false)(hp:p x=true):l.find? p=some x:=by have e:l=l.take i++(x::l.drop (i+1)):=(by have:=(ai3.mp hx);rw[<-this.2,<-alT this.1,aj3]);rw[e,alG,akg.mpr (fun y hy=>by rw[hn y hy];exact ajg),ajG,hp];rfl
abbrev Iv:=top 27
theorem Pc:aM ["revocation","pair"] ["revocation","pair"] (aF Iv):=dc
def hits(n:Nd)(r:Revoke):Bool:=r.id==n.1&&decide (r.since<=n.2)
def IB(C:Cs):Sp:=fun vs H Q _=>∃c r b n,vs=[.ref c,.ref b]/\dX C H c r/\TupAt H b n/\Q (.bl (hits n r)) H
theorem Mb(F:bL "hits" Iv)(T:Txt K mg C):de 1 ["revocation","pair"] (IB C):=by
 refine d9 Pc
 .obtain⟨c,r,b,n,rfl,_⟩:=h;rfl
 .obtain⟨c,r,b,n,rfl,⟨dx,fs,ha,f1,f2,f3,f4,f5,_⟩,hb,hQ⟩:=h;have m2:=T.nR "paper" (by decide);have m3:=T.nR "since" (by decide);have pb:gF K H b [V.int (n.1:Nat),V.int (n.2:Nat)]:=gF.of hb;refine⟨_,aE (aH (tI (fe eO (aL (pv 0) rfl) (af cU (pv 1) aK)) (pO (fe iM (aL (pv 0) rfl) (af cU (pv 1) aK))))),?_⟩;refine⟨_,Z,c,_,dx,fs,_,Z,ha,T.cR,m2,f2,_,Z,b,_,_,_,Z,Z,pb,aS (j:=0) rfl,Z,_,Z,aO (fun h1=>?_) (fun h1=>?_)⟩
  .have e1:r.id=n.1:=(by have:=aja h1;injection this with this;omega);refine⟨_,Z,c,_,dx,fs,_,Z,ha,T.cR,m3,f3,_,Z,b,_,_,_,Z,Z,pb,aS (j:=1) rfl,_,_,Z,Z,?_⟩;have e:hits n r=decide ((r.since:Int)<=(n.2:Int)):=(by unfold hits;rw[e1,aka,akv];exact aks.mpr (by omega));rw[e]at hQ;exact hQ
  .have:¬r.id=n.1:=fun z=>h1 (ai8 (by rw[z]));have e:hits n r=false:=(by unfold hits;simp[this]);rw[e]at hQ;exact hQ
abbrev Bm:=top 28
theorem Dg:aM ["known","pair","revocation"] ["known","pair"] (aF Bm):=dc
def DT(C:Cs):Sp:=fun vs H Q _=>∃a h b n,vs=[.ref a,.ref b]/\aq C H a h/\TupAt H b n/\(h.revokes.find? (hits n)=none->Q .cW H)/\∀r c,h.revokes.find? (hits n)=some r->dX C H c r->Q (.ref c) H
theorem hW{p:α->Bool}{l:List α}{x:α}(hx:l[i]?=some x)(hn:∀y∈l.take i,p y=false)(hp:p x=false):∀y∈l.take (i+1),p y=false:=fun y hy=>by
 rw[aa hx]at hy;rcases ajh.mp hy with q|q
 .exact hn y q
 .rw[aiU.mp q];exact hp
theorem Jf(F:bL "revocation_of" Bm)(T:Txt K mg C)(dH:EI 1):de 2 ["known","pair"] (DT C):=by
 refine d9 Dg
 .obtain⟨a,hh,b,n,rfl,_⟩:=h;rfl
 .obtain⟨a,hh,b,n,rfl,⟨dx,fs,pd,rl,aP,rs,ha,f1,f2,e1,p1,e2,p2⟩,hb,q1,q2⟩:=h;have n2:=T.nK "revocations" (by decide);refine⟨_,aD (bU ajm rfl (ax (aL (pv 0) rfl)) (zG 2 Dg.nd) (aE (aZ (bF (aJ dH hr (cY (pv 2) (pv 1)))) (aE (aH (pv 2))) aN))) (aE (aH iA)),?_⟩;refine⟨_,Z,a,_,dx,fs,_,Z,ha,T.cK,n2,f2,rl,Z,⟨_,ae.of e2⟩,bO (K:=K) (a:=rl) (xs:=rs.map V.ref) (fun i σ H'=>∃v:Option V,σ=[some (.ref a),some (.ref b),v]/\H'=H/\∀r∈hh.revokes.take i,hits n r=false) ⟨none,Z,Z,fun r hr=>(by simp at hr)⟩ (fun i σ H' _ ⟨_,_,e,_⟩=>by rw[e];exact ae.of e2) ?_ ?_⟩
  .rintro i y σ H' hi ⟨v,rfl,rfl,oP⟩;obtain⟨c,hc,rfl⟩:=bT hi;obtain⟨r,M8,Cb⟩:=aR p2 hc;refine⟨_,Z,_,Z,c,r,b,n,Z,Cb,hb,_,Z,aO (fun h1=>?_) (fun h1=>?_)⟩
   .exact⟨_,Z,q2 r c (pq M8 oP h1) Cb⟩
   .exact⟨_,Z,Z,hW M8 oP (by simpa using h1)⟩
  .rintro σ H' ⟨v,rfl,rfl,oP⟩;rw[aiQ,show rs.length=hh.revokes.length from Paired.length p2,ai9]at oP;exact q1 (akg.mpr fun r hr=>by rw[oP r hr];exact ajg)
abbrev sq:=top 31
theorem pJ:aM ["ground","first","day","rest"] ["ground","first","day"] (aF sq):=dc
def nZ(fi d:Nat)(r:Nd):Nd:=(r.1,if r.2=1 then fi else d)
def vf:Sp:=fun vs H Q _=>∃l g fi d,vs=[.ref l,.int (fi:Nat),.int (d:Nat)]/\aT H l g/\g.length<=4/\∀H' l',aC H H'->H l'=none->aT H' l' (g.map (nZ fi d))->Q (.ref l') H'
theorem B8(F:bL "rests_on" sq):de 1 ["ground","first","day"] vf:=by
 refine d9 pJ
 .obtain⟨l,g,fi,d,rfl,_⟩:=h;rfl
 .obtain⟨l,g,fi,d,rfl,⟨as,hl,hn⟩,h4,hQ⟩:=h;refine⟨_,aE (aH (fw (own:=[("rest",3)]) rfl pJ.nd (ax (pv 0)) (cV rfl) (fun _ _ _ _ _=>zG 3 pJ.nd) (fun _ _ _ _ _=>eZ) (fun _ _ _ _ _=>cZ (cY (af (x9 (K:=K)) (pv 3) aK) (i5 (aY eO (af (x9 (K:=K)) (pv 3) aK) aK) (pv 1) (pv 2)))))),?_⟩;have ZU:as.length=g.length:=Paired.length hn;refine⟨_,Z,l,Z,⟨_,ae.of hl⟩,fun D hD=>eG (K:=K) (a:=l) (xs:=as.map V.ref) (fun i H'=>∃bs,aC H H'/\H' D=some (.lst (bs.map V.ref))/\aI H' bs ((g.take i).map (nZ fi d))) ⟨[],zU hD,aA,.nil⟩ (fun i H' _ ⟨_,s1,_⟩=>ae.of (s1 _ _ hl)) ?_ ?_⟩
  .rintro i y H' hi ⟨bs,s1,ur,ro⟩;obtain⟨a,ha,rfl⟩:∃a,as[i]?=some a/\y=V.ref a:=by
    rw[ajd]at hi;cases e:as[i]? with
    |none=>rw[e]at hi;cases hi
    |some z=>rw[e]at hi;exact⟨z,Z,(ajr hi).symm⟩
   obtain⟨r,M8,NA⟩:=hn.lC ha;have hT:gF K H' a [V.int (r.1:Nat),V.int (r.2:Nat)]:=gF.of (s1 _ _ NA);have KG:g.take (i+1)=g.take i++[r]:=(by rw[akx (ai3.mp M8).1,(ai3.mp M8).2]);have hi4:i<g.length:=(ai3.mp M8).1;have fin:∀(v:Nat),v=(if r.2=1 then fi else d)->∀p,H' p=none->∃acc,(upd H' p (.tup [V.int (r.1:Nat),V.int (v:Nat)])) D=some (.lst acc)/\acc.length<sizeLine/\∃bs,aC H (upd (upd H' p (.tup [V.int (r.1:Nat),V.int (v:Nat)])) D (.lst (acc++[.ref p])))/\(upd (upd H' p (.tup [V.int (r.1:Nat),V.int (v:Nat)])) D (.lst (acc++[.ref p]))) D=some (.lst (bs.map V.ref))/\aI (upd (upd H' p (.tup [V.int (r.1:Nat),V.int (v:Nat)])) D (.lst (acc++[.ref p]))) bs ((g.take (i+1)).map (nZ fi d)):=fun v hv p hp=>by
    have wF:D≠p:=(fun q=>by rw[q,hp]at ur;cases ur);have qY:(upd H' p (.tup [V.int (r.1:Nat),V.int (v:Nat)])) D=some (.lst (bs.map V.ref)):=(by rw[aB wF];exact ur);refine⟨_,qY,?_,bs++[p],?_,?_,?_⟩
    .rw[aiQ,Paired.length ro,aiQ,ajb,ai6];omega
    .exact aC.upd (aC.upd s1 (aC.free s1 hp)) hD
    .rw[aA,aiY];rfl
    .rw[KG,aiY];have ev:([r]:List Nd).map (nZ fi d)=[(r.1,v)]:=(by rw[hv];rfl);rw[ev];have z1:aI (upd H' p (.tup [V.int (r.1:Nat),V.int (v:Nat)])) (bs++[p]) ((g.take i).map (nZ fi d)++[(r.1,v)]):=aI.snoc (n:=(r.1,v)) aA (aI.upd ro (by rw[hp];exact True.intro));exact aI.upd z1 (by rw[qY];exact True.intro)
   refine⟨Z,?_⟩;dsimp only[nQ];rw[ai5 rfl];refine⟨_,Z,a,_,_,_,Z,Z,hT,aS (j:=0) rfl,_,Z,a,_,_,_,Z,Z,hT,aS (j:=1) rfl,Z,_,Z,aO (fun h1=>?_) (fun h1=>?_)⟩
   .have e1:r.2=1:=(by have:=aja h1;injection this with this;omega);exact⟨_,Z,(zL rfl),fun p hp=>fin fi (by rw[ai5 e1]) p hp⟩
   .have e1:¬r.2=1:=fun z=>h1 (ai8 (by rw[z];rfl));exact⟨_,Z,(zL rfl),fun p hp=>fin d (by rw[ai0 e1]) p hp⟩
  .rintro H' ⟨bs,s1,ur,ro⟩;rw[aiQ,ZU,ai9]at ro;exact hQ H' D s1 hD ⟨bs,ur,ro⟩
abbrev Iw:=top 29
theorem IT:aM ["known","pair","paper"] ["known","pair"] (aF Iw):=dc
def IC(C:Cs):Sp:=fun vs H Q _=>∃a h b n,vs=[.ref a,.ref b]/\aq C H a h/\TupAt H b n/\Q (.bl (qZ h n)) H
theorem GJ(h:Known)(p:Paper)(n:Nd)(e:p.id=n.1):(revokedBy h p.id n.2).isNone=(h.revokes.find? (hits n)).isNone:=by unfold revokedBy;rw[Option.isNone_map,e];rfl
theorem Mc(F:bL "good_by_itself" Iw)(T:Txt K mg C)(dR:i8 2):de 3 ["known","pair"] (IC C):=by
 refine d9 IT
 .obtain⟨a,hh,b,n,rfl,_⟩:=h;rfl
 .obtain⟨a,hh,b,n,rfl,hK,hb,hQ⟩:=h;obtain⟨dx,fs,pd,rl,aP,rs,ha,f1,f2,e1,p1,e2,p2⟩:=hK.ex;have hu:=bu hr;have n1:=T.nK "papers" (by decide);have m2:=T.nP "first" (by decide);have m3:=T.nP "last" (by decide);have pb:gF K H b [V.int (n.1:Nat),V.int (n.2:Nat)]:=gF.of hb;refine⟨_,aD (aZ (b9 (cJ hu (af cU (pv 1) aK) (aL (pv 0) rfl))) (aE (aH gN)) aN) (aD (zS 2 IT.nd (dq hu (aL (pv 0) rfl) (af cU (pv 1) aK))) (aE (aH (tI (nu iM iM (aL (pv 2) rfl) (af cU (pv 1) aK) (aL (pv 2) rfl)) (pO (fe tJ (aJ dR hr (cY (pv 0) (pv 1))) iA)))))),?_⟩;obtain⟨v1,v2⟩:=gh (C:=C) (H:=H) n.1 p1;refine⟨_,Z,b,_,_,_,Z,Z,pb,aS (j:=0) rfl,_,Z,a,_,dx,fs,_,Z,ha,T.cK,n1,f1,pd,_,Z,ba.k (k:=Sum.inl (n.1:Int)) e1,_,Z,?_⟩;cases hp:paperOf hh n.1 with
  |none=>
   rw[v1 hp];have e:qZ hh n=false:=(by unfold qZ;rw[hp]);rw[e]at hQ;exact aO (fun _=>hQ) (fun z=>absurd rfl z)
  |some p=>
   obtain⟨c,hv,wU⟩:=v2 p hp;obtain⟨dy,gs,gl,jo,g1,g2,g3,g4,g5,gg⟩:=wU.ex;have pid:=(PM.cG hp).2;have e:qZ hh n=Vbkoac.own hh p n.2:=(by unfold qZ;rw[hp]);rw[e]at hQ;unfold Vbkoac.own at hQ;rw[GJ hh p n pid]at hQ;rw[hv];refine aO nofun (fun _=>?_);refine⟨_,Z,a,_,dx,fs,_,Z,ha,T.cK,n1,f1,_,Z,b,_,_,_,Z,Z,pb,aS (j:=0) rfl,pd,_,Z,(by rw[<-hv];exact ba.k (k:=Sum.inl (n.1:Int)) e1),?_⟩;refine⟨_,Z,c,_,dy,gs,_,Z,jo,T.cP,m2,g2,_,Z,b,_,_,_,Z,Z,pb,aS (j:=1) rfl,_,_,Z,Z,_,Z,aO (fun h1=>?_) (fun h1=>?_)⟩
   .have l1:p.from_<=n.2:=(by have:=aja h1;omega);refine⟨_,Z,c,_,dy,gs,_,Z,jo,T.cP,m3,g3,_,_,Z,Z,_,Z,aO (fun h2=>?_) (fun h2=>?_)⟩
    .have l2:n.2<=p.to_:=(by have:=aja h2;omega);rw[ai8 (⟨l1,l2⟩:p.from_<=n.2/\n.2<=p.to_),akv]at hQ;refine⟨_,Z,_,Z,a,hh,b,n,Z,hK,hb,fun hn=>⟨Z,?_⟩,fun r c2 hf Cb=>⟨Z,?_⟩⟩
     .rw[hn]at hQ;exact hQ
     .rw[hf]at hQ;exact hQ
    .have l2:¬n.2<=p.to_:=fun z=>h2 (ai8 (by omega));rw[ajl (fun z=>l2 z.2:¬(p.from_<=n.2/\n.2<=p.to_)),akB]at hQ;exact hQ
   .have l1:¬p.from_<=n.2:=fun z=>h1 (ai8 (by omega));rw[ajl (fun z=>l1 z.1:¬(p.from_<=n.2/\n.2<=p.to_)),akB]at hQ;exact⟨_,Z,aO nofun (fun _=>hQ)⟩
abbrev sv:=top 30
theorem lS:aM ["known","pair","paper","ground"] ["known","pair"] (aF sv):=dc
def vh(C:Cs):Sp:=fun vs H Q _=>∃a h b n,vs=[.ref a,.ref b]/\aq C H a h/\TupAt H b n/\∀H' l,aC H H'->H l=none->a9 H' l (au h n)->Q (.ref l) H'
theorem FW{d:Nat}{r:Nd}(h:r.2=0\/r.2=1):nZ p.from_ d r=nodeOf p d r:=by
 unfold nZ nodeOf;rcases h with e|e
 .rw[e,ai0 (by decide),ai5 rfl]
 .rw[e,ai5 rfl,ai0 (by decide)]
def mT(C:Cs):Sp:=fun vs H Q _=>∃a h b n,vs=[.ref a,.ref b]/\aq C H a h/\TupAt H b n/\∀H' l ls,aC H H'->H l=none->H' l=some (.lst (ls.map V.ref))->Paired (aT H') ls (au h n)->(∀x∈ls,H x=none)->Q (.ref l) H'
theorem zY(F:bL "grounds_of" sv)(T:Txt K mg C)(dG:cO 3 "good_by_itself" ["known","pair"] (IC C))(dO:cO 3 "rests_on" ["ground","first","day"] vf):de 4 ["known","pair"] (mT C):=by
 refine d9 lS
 .obtain⟨a,hh,b,n,rfl,_⟩:=h;rfl
 .obtain⟨a,hh,b,n,rfl,hK,hb,hQ⟩:=h;obtain⟨dx,fs,pd,rl,aP,rs,ha,f1,f2,e1,p1,e2,p2⟩:=hK.ex;have hu:=bu hr;have n1:=T.nK "papers" (by decide);have m2:=T.nP "first" (by decide);have m3:=T.nP "grounds" (by decide);have pb:gF K H b [V.int (n.1:Nat),V.int (n.2:Nat)]:=gF.of hb;refine⟨_,aD (aZ (cn (bF (aJ dG hr (cY (pv 0) (pv 1))))) (aE (aH (aU cA))) aN) (aD (gT (i:=2) lS.nd rfl (Or.inr rfl) (dq hu (aL (pv 0) rfl) (af cU (pv 1) aK))) (aE (aH (fw (own:=[("ground",3)]) rfl lS.nd (ax (aL (pv 2) rfl)) (cV rfl) (fun _ _ _ _ _=>zG 3 lS.nd) (fun _ _ _ _ _=>eZ) (fun _ _ _ _ _=>aJ dO hr (ny (pv 3) (eF (K:=K) (pv 2) rfl) (af (x9 (K:=K)) (pv 1) aK))))))),?_⟩;obtain⟨v1,v2⟩:=gh (C:=C) (H:=H) n.1 p1;refine⟨_,Z,_,Z,a,hh,b,n,Z,hK,hb,_,Z,?_⟩;cases hg:qZ hh n with
  |false=>
   have e:au hh n=[]:=by
    unfold au;unfold qZ at hg;cases hp:paperOf hh n.1 with
    |none=>rfl
    |some p=>rw[hp]at hg;simp only at hg⊢;rw[ai0 (by rw[hg];exact ajg)]
   rw[e]at hQ;exact aO (fun _=>⟨ajo _,fun l hl=>hQ _ l [] (zU hl) hl aA .nil (fun x hx=>(nomatch hx))⟩) (fun z=>absurd rfl z)
  |true=>
   refine aO nofun (fun _=>?_);unfold qZ at hg;cases hp:paperOf hh n.1 with
   |none=>rw[hp]at hg;cases hg
   |some p=>
    rw[hp]at hg;simp only at hg;have eg:au hh n=p.grounds.map fun g=>g.map (nodeOf p n.2):=(by unfold au;rw[hp];simp only;rw[ai5 hg]);rw[eg]at hQ;obtain⟨c,hv,wU⟩:=v2 p hp;obtain⟨dy,gs,gl,jo,g1,g2,g3,g4,g5,ls,pY,jz⟩:=wU.ex;refine⟨_,Z,a,_,dx,fs,_,Z,ha,T.cK,n1,f1,_,Z,b,_,_,_,Z,Z,pb,aS (j:=0) rfl,pd,_,Z,(by rw[<-hv];exact ba.k (k:=Sum.inl (n.1:Int)) e1),?_⟩;refine⟨_,Z,c,_,dy,gs,_,Z,jo,T.cP,m3,g5,gl,Z,⟨_,ae.of pY⟩,fun D hD=>eG (K:=K) (a:=gl) (xs:=ls.map V.ref) (fun i H'=>∃bs,(D∉bs/\∀x∈bs,H x=none)/\aC H H'/\H' D=some (.lst (bs.map V.ref))/\Paired (aT H') bs ((p.grounds.take i).map fun g=>g.map (nodeOf p n.2))) ⟨[],⟨(by simp),fun x hx=>(nomatch hx)⟩,zU hD,aA,.nil⟩ (fun i H' _ ⟨_,_,s1,_⟩=>ae.of (s1 _ _ pY)) ?_ ?_⟩
    .rintro i y H' hi ⟨bs,⟨nDb,nb⟩,s1,ur,ro⟩;obtain⟨l,hl,rfl⟩:=bT hi;obtain⟨g,Sl,Q3⟩:=aR jz hl;have ly:g∈p.grounds:=ai1 Sl;refine⟨Z,?_⟩;dsimp only[nQ];rw[ai5 rfl];refine⟨_,Z,_,Z,c,_,dy,gs,_,Z,s1 _ _ jo,T.cP,m2,g2,_,Z,b,_,_,_,Z,Z,gF.of (s1 _ _ hb),aS (j:=1) rfl,l,g,p.from_,n.2,Z,Q3.same (aC.x s1),(wU.fD.2 g ly),fun H2 l' s2 HC gO=>?_⟩;have qY:=s2 _ _ ur;have nDl:D≠l':=(fun q=>by rw[q,HC]at ur;cases ur);refine⟨_,qY,?_,bs++[l'],⟨(by simp[nDb,nDl]),fun x hx=>by
      rcases ajh.mp hx with z|z
      .exact nb x z
      .rw[aiU.mp z];exact aC.free s1 HC⟩,aC.upd (aC.trans s1 s2) hD,?_,?_⟩
     .rw[aiQ,Paired.length ro,aiQ,ajb,ai6];have:=wU.fD.1;omega
     .rw[aA,aiY];rfl
     .rw[aa Sl,aiY];have ev:([g]:List (List Nd)).map (fun g=>g.map (nodeOf p n.2))=[g.map (nZ p.from_ n.2)]:=(by show [g.map (nodeOf p n.2)]=_;congr 1;exact aj6 fun r hr=>(FW (wU.bits g ly r hr)).symm);rw[ev];have p1:Paired (aT H2) (bs++[l']) ((p.grounds.take i).map (fun g=>g.map (nodeOf p n.2))++[g.map (nZ p.from_ n.2)]):=bC gO (Paired.a8 ro fun _ _ z=>z.same (aC.x s2));exact fM (by rw[qY];exact True.intro) (by simp[nDb,nDl]) p1
    .rintro H' ⟨bs,⟨_,nb⟩,s1,ur,ro⟩;rw[aiQ,Paired.length jz,ai9]at ro;exact hQ H' D bs s1 hD ur ro nb
theorem CA(F:gU P w K mg base vT 4 f fd ["known","pair"] (mT C)):de 4 ["known","pair"] (vh C):=F.imp fun vs H Q E ⟨a,h,b,n,e,hK,hb,hQ⟩=>⟨a,h,b,n,e,hK,hb,fun H' l ls s hl h1 h2 _=>hQ H' l s hl ⟨ls,h1,h2⟩⟩
end
end Pp
namespace L2
open PySem PySem.Spec PyProof.Rows
variable{X:Cx}{prog:Program}{w:World}{A:Around}{J:It}{n:Nat}{g:TG}{σ:L2.St}
theorem jR{α β:Type}{R:α->β->Prop}:∀{as:List α} {bs:List β} {i:Nat} {b:β},Paired R as bs->bs[i]?=some b->∃a,as[i]?=some a/\R a b
 |_,_,_,_,.nil,e=>by simp at e
 |_,_,0,a,.cons r _,e=>by simp at e;subst e;exact⟨_,Z,r⟩
 |_,_,i+1,a,.cons _ t,e=>by obtain⟨u,h1,h2⟩:=jR (i:=i) t (by simpa using e);exact⟨u,by simpa using h1,h2⟩
theorem range_all(bs:List Bool):(List.range bs.length).all (fun i=>bs.getD i false)=bs.all id:=by
 rw[ajw,ajA,ajA];constructor
 .intro h b hb;obtain⟨i,hi,e⟩:=ajY hb;have:=h i (akD.mpr hi);rw[ajN,aiW hi]at this;rw[<-e];exact this
 .intro h i hi;have hi:=akD.mp hi;rw[ajN,aiW hi];exact h _ (akK hi)
theorem range_any(bs:List Bool):(List.range bs.length).any (fun i=>bs.getD i false)=bs.any id:=by
 rw[ajw,ajX,ajX];constructor
 .rintro⟨i,hi,h⟩;have hi:=akD.mp hi;rw[ajN,aiW hi]at h;exact⟨_,akK hi,h⟩
 .rintro⟨b,hb,h⟩;obtain⟨i,hi,e⟩:=ajY hb;refine⟨i,akD.mpr hi,?_⟩;rw[ajN,aiW hi];rw[e];exact h
theorem y1{bs:List Bool}{bE:List Value}(rv:bI (bs.map V.bl) bE):TruthOf prog w A (fun i v=>bE.toArray[i]?=some v) (fun i=>bs.getD i false):=fun i v s Q E hP hQ=>by
 have hP':bE[i]?=some v:=(by simpa using hP);obtain⟨x,hx,rx⟩:=jR rv hP';rw[ajd]at hx;cases e:bs[i]? with
 |none=>rw[e]at hx;cases hx
 |some b=>
  rw[e]at hx;cases hx;cases(show v=Value.bool b from rx);have RJ:Q (bs.getD i false) s:=hQ;rw[ajN,e]at RJ;exact akw RJ
theorem lJ(hc:X.calm=true:=by rfl):mM X (.builtin "all") (fun xs H Q=>∃(p:Addr) (bs:List Bool),xs=[.ref p]/\ae X.K H p (bs.map V.bl)/\Q (.bl (bs.all id)) H):=by intro pins s σ H xs us Q I r h;obtain⟨p,bs,rfl,hq,q⟩:=h;obtain⟨u,rfl,rx⟩:=vals1 r;cases rx;obtain⟨bE,rv,pl,hz⟩:=I.list hq;have fC:p<s.heap.objs.size:=let⟨o,e,_⟩:=pl.isList;ajf e;refine call_all_walk (akR pl.isList ?_);refine⟨s.heap.objs.size,_,_,_,_,_,_,Z,Walks.list (A:=X.A.in1) (I.ok.hd hc) s.heap.objs.size p (ajB fC) bE.toArray,⟨⟨_,aje _ rfl,Z,Z⟩,let⟨o,e,r⟩:=pl.isList;⟨o,aiX _ e,r⟩⟩,y1 rv,fun h' tk hk=>?_⟩;have hl:bE.toArray.size=bs.length:=(by rw[ajj,<-rv.length,aiQ]);rw[hl,range_all];exact⟨.bl _,H,I.kept (t':=tk) fun b o e=>hk b o (by simpa using ajB (ajf e)) (aiX _ e),Z,q⟩
theorem qf(hc:X.calm=true:=by rfl):mM X (.builtin "any") (fun xs H Q=>∃(p:Addr) (bs:List Bool),xs=[.ref p]/\ae X.K H p (bs.map V.bl)/\Q (.bl (bs.any id)) H):=by intro pins s σ H xs us Q I r h;obtain⟨p,bs,rfl,hq,q⟩:=h;obtain⟨u,rfl,rx⟩:=vals1 r;cases rx;obtain⟨bE,rv,pl,hz⟩:=I.list hq;have fC:p<s.heap.objs.size:=let⟨o,e,_⟩:=pl.isList;ajf e;refine call_any_walk (akR pl.isList ?_);refine⟨s.heap.objs.size,_,_,_,_,_,_,Z,Walks.list (A:=X.A.in1) (I.ok.hd hc) s.heap.objs.size p (ajB fC) bE.toArray,⟨⟨_,aje _ rfl,Z,Z⟩,let⟨o,e,r⟩:=pl.isList;⟨o,aiX _ e,r⟩⟩,y1 rv,fun h' tk hk=>?_⟩;have hl:bE.toArray.size=bs.length:=(by rw[ajj,<-rv.length,aiQ]);rw[hl,range_any];exact⟨.bl _,H,I.kept (t':=tk) fun b o e=>hk b o (by simpa using ajB (ajf e)) (aiX _ e),Z,q⟩
theorem lD{tb:TS}{D:Ends}{H:Hp}(Pv:Nat->L2.St->Hp->Prop)(h0:Pv 0 σ H)(hgo:∀i σ H,i<n->Pv i σ H->J.go i H) (hs:∀i x σ H H',i<n->Pv i σ H->J.HV i H x H'->g x σ H' fun σ2 H2=>tb {D with nx:=Pv (i+1),ct:=Pv (i+1),bk:=D.nx} σ2 H2)(hd:∀σ H,Pv n σ H->J.stop n H/\D.nx σ H):∃W:Nat->Nat->L2.St->Hp->Prop,(∃m,W 0 m σ H)/\∀i m σ H,W i m σ H->(J.stop i H/\D.nx σ H)\/(J.go i H/\∃N:L2.St->Hp->Prop,(∀σ' H',N σ' H'->∃m',m'<m/\W (i+1) m' σ' H')/\∀x H',J.HV i H x H'->g x σ H' fun σ2 H2=>tb {D with nx:=N,ct:=N,bk:=D.nx} σ2 H2):=by
 refine⟨fun i m σ H=>m=n-i/\i<=n/\Pv i σ H,⟨n,by simp,ajo _,h0⟩,?_⟩;rintro i m σ H ⟨rfl,hi,p⟩;by_cases fC:i<n
 .exact .inr ⟨hgo i σ H fC p,Pv (i+1),fun σ' H' p'=>⟨n-(i+1),by omega,Z,fC,p'⟩,fun x H' y=>hs i x σ H H' fC p y⟩
 .have e:i=n:=(by omega);subst e;exact .inl (hd σ H p)
theorem oN{tt:TT}{te:TE}{vs:List Nat}{H1:Hp}{D:Addr}{Qd:Hp->Prop}(Pv:Nat->Hp->Prop)(h0:Pv 0 (upd H1 D (.lst [])))(hgo:∀i H,i<n->Pv i H->J.go i H) (hs:∀i x H H',i<n->Pv i H->J.HV i H x H'->g x (wipe σ vs) H' fun σ2 H2=>wipe σ2 vs=wipe σ vs/\tt σ2 H2 fun b H3=>
   if b=true then te σ2 H3 fun y H4=>∃acc,H4 D=some (.lst acc)/\acc.length<sizeLine/\Pv (i+1) (upd H4 D (.lst (acc++[y])))else Pv (i+1) H3)(hd:∀H,Pv n H->J.stop n H/\Qd H):
  ∃W:Nat->Nat->Hp->Prop,(∃m,W 0 m (upd H1 D (.lst [])))/\∀i m H,W i m H->(J.stop i H/\Qd H)\/(J.go i H/\∃Nx:Hp->Prop,(∀H',Nx H'->∃m',m'<m/\W (i+1) m' H')/\∀x H',J.HV i H x H'->g x (wipe σ vs) H' fun σ2 H2=>wipe σ2 vs=wipe σ vs/\tt σ2 H2 fun b H3=>
    if b=true then te σ2 H3 fun y H4=>∃acc,H4 D=some (.lst acc)/\acc.length<sizeLine/\Nx (upd H4 D (.lst (acc++[y])))else Nx H3):=by
 refine⟨fun i m H=>m=n-i/\i<=n/\Pv i H,⟨n,by simp,ajo _,h0⟩,?_⟩;rintro i m H ⟨rfl,hi,p⟩;by_cases fC:i<n
 .exact .inr ⟨hgo i H fC p,Pv (i+1),fun H' p'=>⟨n-(i+1),by omega,Z,fC,p'⟩,fun x H' y=>hs i x H H' fC p y⟩
 .have e:i=n:=(by omega);subst e;exact .inl (hd H p)
theorem FE(hh:A.handled=none)(I d:Addr)(jZ:d≠I)(o:Obj)(es:Array DictEntry)(ep:Nat)(lA:o.data= .dict es ep):Walks prog w A I [I,d] [I] es.size (fun i v=>∃en,es[i]?=some en/\en.key=v) (fun i h=>h.IsKeyIter I d i es.size ep/\h.get? d=some o)where
 sub:=fun b hb=>by simp at hb;simp[hb]
 frame:=fun _ _ _ st hk=>⟨st.1.at fun o e=>hk I (by simp) o e,hk d (by simp) _ st.2⟩
 item:=fun i s Q E hi st hQ=>by refine mC st.1 st.2 lA rfl (en:=es[i]) (by simp[hi]) fun h' mS sb=>?_;exact hQ _ h' s.toks ⟨es[i],by simp[hi],Z⟩ ⟨mS,(sb.2 d jZ).trans st.2⟩ fun b o hb e=>(sb.2 b fun h=>hb (by simp[h])).trans e
 done:=fun s Q E st hQ=>jU hh st.1 st.2 lA rfl (ai2 _) fun h' he'=>hQ h' s.toks fun b o hb e=>he' b o (fun h=>hb (by simp[h])) e
 self:=fun _ _ _ _ st hQ=>wpAny_pyIter_keyiter st.1 hQ
theorem L0{d:Addr}{o:Obj}{es:Array DictEntry}{ep:Nat}(lo:(d==sysModules)=false)(hc:o.ExactDict)(lA:o.data= .dict es ep):W.KdlSrc prog w "dict" d d es.size (fun i v=>∃en,es[i]?=some en/\en.key=v) (fun h=>h.get? d=some o)where
 type:=fun _ hm=>⟨o,hm,hc.1⟩
 there:=fun _ hm=>⟨ajf hm,ajf hm⟩
 keep:=fun _ _ hm hk=>hk d (.inl rfl) o hm
 notList:=by decide
 notTuple:=by decide
 hint:=fun _ _ _ _ hm hq=>W.kdl_hint_dict ⟨o,hm,hc.1⟩ hq
 iter:=fun _ _ hh hm=>⟨_,_,(fun _ _ hq=>pW lo hm hc lA hq),FE hh _ d (ajB (ajf hm)) o es ep lA,⟨⟨_,aje _ rfl,rfl,rfl⟩,aiX _ hm⟩⟩
theorem wI{H:Hp}:∀{aP:List (List Key×V)} {xs:List (List Key×Addr×Value)},Paired (fun(p:List Key×V) (q:List Key×Addr×Value)=>p.1=q.1/\H q.2.1=some (.tup (p.1.map kV))/\RelV p.2 q.2.2) aP xs->Paired (fun q (kv:List Key×V)=>H q=some (.tup (kv.1.map kV))) (xs.map fun x=>x.2.1) aP
 |_,_,.nil=> .nil
 |_,_,.cons a t=> .cons a.2.1 (wI t)
theorem il:∀{as:List Addr} {al:List Value},al.length=as.length->(∀(i:Nat) (a:Addr),as[i]?=some a->al[i]?=some (Value.ref a))->bI (as.map V.ref) al
 | [],[],_,_=> .nil
 | [],_::_,h,_=>by simp at h
 |_::_,[],h,_=>by simp at h
 |a::as,v::al,h,e=>by have e0:=e 0 a rfl;simp at e0;subst e0;exact .cons rfl (il (by simpa using h) fun i y e'=>by simpa using e (i+1) y (by simpa using e'))
theorem yT(hc:X.calm=true:=by rfl):mM X (.type "list") (fun xs H Q=>∃(d:Addr) (aP:List (List Key×V)),xs=[.ref d]/\H d=some (.dT aP)/\∀(l:Addr) (qs:List Addr),H l=none->Paired (fun q (kv:List Key×V)=>H q=some (.tup (kv.1.map kV))) qs aP->Q (.ref l) (upd H l (.lst (qs.map V.ref)))):=by
 intro pins s σ H xs us Q I r h;obtain⟨d,aP,rfl,hd,q⟩:=h;obtain⟨u,rfl,rx⟩:=vals1 r;cases rx;obtain⟨z,hs,xs,pr,o,es,ep,ho,hx,lA,he,_⟩:=I.bK d _ hd;have hsz:es.size=aP.length:=(by have:=akc List.length he;rw[ajv,aiQ,<-Paired.length pr]at this;exact this);refine W.kdl_call (L0 hs hx lA) (I.ok.hd hc) ho (by rw[hsz];exact z) fun h' tk acc c' hk hl Kp=>?_;have hn:=I.bK.fresh (ai2 s.heap.objs.size);have pair:=wI pr;have vals:bI ((xs.map fun x=>x.2.1).map V.ref) acc.toList:=by
  have len:acc.toList.length=xs.length:=(by rw[ajv,Kp.1,hsz,Paired.length pr]);refine il (by rw[len,aiQ]) fun i a ha=>?_;rw[ajd]at ha;cases e:xs[i]? with
  |none=>rw[e]at ha;cases ha
  |some x=>
   rw[e]at ha;cases ha;have hi:i<acc.toList.length:=(by rw[len];exact(ai3.mp e).1);obtain⟨en,e1,e2⟩:=Kp.2 i acc.toList[i] (by rw[<-aj4];exact aiW hi);have e3:es.toList[i]?=some en:=(by rw[aj4];exact e1);rw[he,ajd,e]at e3;cases e3;rw[aiW hi,<-e2];rfl
 have ZR:((xs.map fun x=>x.2.1).map V.ref).length<=sizeLine:=(by rw[aiQ,aiQ,<-Paired.length pr];exact z);refine⟨.ref s.heap.objs.size,_,I.laid (a:=s.heap.objs.size) (o:= .lst ((xs.map fun x=>x.2.1).map V.ref)) (t':=tk) hk (ai2 _) ⟨ZR,acc.toList,c',vals,?_⟩,Z,q _ _ hn pair⟩;simpa using hl
open AutoSeq1 in
theorem qw(l:Addr)(items:Array Value)(n:Nat)(b:Addr)(tp:Array Value)(n2:Nat)(Rh:Option Addr)(sl:Array (Option Value))(hs0:¬(!items.isEmpty&&Builtin.List.listTooLong (items.size+tp.size))=true)(Li:items.size<=sizeLine)(Lh:items.size+tp.size<=sizeLine+1):Meets (Builtin.«list.extend» ⟨[.ref l,.ref b],[]⟩) (fun _ R s=>s.heap.get? l=some {cls:= .type "list",dict:=none,data:= .seq items n,slots:= #[]}/\s.heap.get? b=some {cls:= .type "tuple",dict:=Rh,data:= .seq tp n2,slots:=sl}/\R (.ok (.ret Value.none)) {s with heap:=s.heap.update l (Obj.mapSeq fun x=>x++tp),toks:=s.toks}):= .of_wp fun prog w A R s h=>by
  obtain⟨hp,g,d,tk,os⟩:=s;obtain⟨hl,hb,h⟩:=h;have f1:=AutoSeq1.idx_int;have f2:=AutoSeq1.sub_tuple_tuple;have f3:=AutoSeq1.sub_list_list;have f4:=AutoSeq1.sub_tuple_list;have f5:=AutoSeq1.sub_list_tuple;have qx:(items++tp).size<=sizeLine+1:=by rw[Array.size_append];exact Lh
  wp_walk using(wpAny_updateSeq hl rfl (hz:=Li) (_hz':=qx)),alw hl,alw hb;exact⟨_,Z,h⟩
def JO(K:W.Frag):V->List V->Hp->VK->Prop:=fun x vs H Q=>∃l b xs zs,x= .ref l/\vs=[.ref b]/\H l=some (.lst xs)/\gF K H b zs/\xs.length+zs.length<=sizeLine/\Q .cW (upd H l (.lst (xs++zs)))
theorem CM:MtM X "list.extend" (JO X.K):=by intro pins s σ H x vs v us Q I rx rv h;obtain⟨l,b,xs,zs,rfl,rfl,hH,hB,hz,q⟩:=h;cases rx;obtain⟨u,rfl,ru⟩:=rv.one;cases ru;obtain⟨z,bE,n,r,hl,e⟩:=I.Fy hH;obtain⟨jy,r2,⟨⟨c2,Rh,dt,sl⟩,e2,wZ,n2,hd2⟩,z2⟩:=I.tuple hB;have aaO:c2= .type "tuple":=wZ;have aaK:dt= .seq jy.toArray n2:=hd2;subst aaO aaK;have ky:=r2.length;have hsz:bE.toArray.size+jy.toArray.size<=sizeLine:=(by rw[ajj,ajj];omega);have KR:¬(!bE.toArray.isEmpty&&Builtin.List.listTooLong (bE.toArray.size+jy.toArray.size))=true:=(by rw[zb hsz,akp];exact ajg);refine call_meets F.slot_list_extend ⟨_,e,Z⟩ F.entry_list_extend (F.args_list_extend_2 _ _) (qw l bE.toArray n b jy.toArray n2 Rh sl KR (by rw[ajj];omega) (by omega)) ⟨e,e2,?_⟩;refine⟨.cW,_,I.QO (its':=bE++jy) hH e (by simp) (r.append r2) ?_,Z,q⟩;rw[aiT];omega
end L2
namespace Pp
open PySem PySem.Spec PyProof.Rows L2
open PM (ao eB bS)
variable{m n:Nd}{h:Known}{P:Program}{w:World}{mg:Str->Option Value}{base:Heap}{H H':Hp}{C:Cs}{Rs g:List Nd}{d f l:Addr}{fd:FuncData}{aP oJ:List (List Key×V)}{R:List (Nd×Nat)}{o:HO}{ls:List Addr}{Gs:List (Nd×List (List Nd))}
abbrev JA:=top 33
theorem mW:aM ["start","following","row","seen","place","found","pair"] ["start","following"] (aF JA):=dc
section
variable(P:Program)(w:World)(K:W.Frag)(mg:Str->Option Value)(base:Heap)(TT:List (Addr×List (Pos×Str)))
def spF(H0:Hp)(F:Nd->List Nd)(R:List Nd):Sp:=fun vs H Q _=>∃a n,vs=[.ref a]/\TupAt H a n/\n∈R/\aw H0 H/\bY TT H/\∀H' l as,aw H H'->bY TT H'->H l=none->H' l=some (.lst (as.map V.ref))->aI H' as (F n)->Q (.ref l) H'
def xJ(k:Nat):Ow:=fun s outer vs H Q _=>∃a0 n0 f L cc cq F,vs=[.ref a0,.ref f]/\TupAt H a0 n0/\bY TT H/\gW H cc cq/\A4 L s outer H/\bS F (ao F Vbkoac.MANY [n0])/\(ao F Vbkoac.MANY [n0]).length<sizeLine/\BA P w K mg base k f L cc cq (spF TT H F (ao F Vbkoac.MANY [n0]))/\∀H' l as,aw H H'->bY TT H'->H l=none->H' l=some (.lst (as.map V.ref))->aI H' as (ao F Vbkoac.MANY [n0])->Q (.ref l) H'
end
def seenOf(ns:List Nd):List (List Key×V):=ns.map fun n=>(bZ n,V.bl true)
theorem fE(ns:List Nd)(n:Nd):(bc (seenOf ns) (bZ n)).isSome=ns.contains n:=by
 unfold bc seenOf;rw[aj2]
 induction ns with
 |nil=>rfl
 |cons m ns ih=>
  rw[aji,ajG];by_cases e:m=n
  .subst e;simp
  .have:decide (bZ m=bZ n)=false:=ajl (fun z=>e (iP.mp z));simp only[this];rw[ih,amx];have:(n==m)=false:=ajt.mpr (ajC e);rw[this,anb]
theorem nW{ns:List Nd}(h:ns.contains n=false):putK (seenOf ns) (bZ n) (.bl true)=seenOf (ns++[n]):=by unfold putK;have:((seenOf ns).any fun kv=>decide (kv.1=bZ n))=false:=(by rw[akW];intro kv lX;unfold seenOf at lX;obtain⟨m,hm,rfl⟩:=ai7.mp lX;simp only[ajQ];intro z;rw[iP.mp z]at hm;rw[ajp.mpr hm]at h;cases h);rw[this];simp[seenOf]
theorem jS{α β:Type}{R:α->β->Prop}:∀{as:List α} {bs:List β},Paired R as bs->as.length=bs.length
 |_,_,.nil=>rfl
 |_,_,.cons _ t=>akc (·+1) (jS t)
theorem Mg{K:W.Frag}{TT:List (Addr×List (Pos×Str))}{k:Nat}(F:bL "come_to" JA)(hlen:mg "len"=none):xB P w K mg base vT (k+1) f fd ["start","following"] (xJ P w K mg base TT k):=by
 refine F.okS mW (fun s outer vs H Q E h=>?_) (fun fv A outer s H vs Q E hr h=>?_)
 .obtain⟨a0,n0,f,L,cc,cq,F,rfl,_⟩:=h;rfl
 .obtain⟨a0,n0,g,L,cc,cq,G,rfl,h0,hT,jo,hL,ib,hsz,aaM,hQ⟩:=h;have hu:=bu hr;refine⟨_,aD (zS 2 mW.nd (aU (bM (pv 0)))) (aD (zS 3 mW.nd (zV hu (pv 0) gN)) (aD (zS 4 mW.nd aK) (aD (i0 ajm (aY n9 (pv 4) (bA az (by rfl) hlen ajK (bM (pv 2)))) (aD (zS 5 mW.nd (JY (i:=1) (k:=k) (sp:=fun _=>spF TT H G (ao G Vbkoac.MANY [n0])) hr rfl (bM (af aX (pv 2) (pv 4))))) (aD (bU ajm rfl (ax (pv 5)) (zG 6 mW.nd) (aE (aZ (b9 (cJ hu (pv 6) (pv 3))) (aD (ee hu (pv 3) (pv 6) gN rfl) (aE (bp (fN aju ajM ajL cN (pv 2) (bM (pv 6)))))) aN))) (aE (xl (i:=4) mW.nd rfl (Or.inl rfl) aK yA))))) (aE (aH (pv 2)))))),?_⟩;refine⟨_,Z,(zL rfl),fun l hl=>?_⟩;intro d hd;have nl0:a0≠l:=aG h0 hl;have Fs:d≠l:=(fun q=>by rw[q,aA]at hd;cases hd);have RB:H d=none:=(by rw[aB Fs]at hd;exact hd);have ZM:a0≠d:=aG h0 RB;refine⟨_,Z,aA,a0,bZ n0,Z,?_,?_⟩
  .rw[aB ZM,aB nl0];exact h0
  have so:m9 (H l):=(by rw[hl];exact True.intro);have sx0:aw H (upd (upd (upd H l (.lst [V.ref a0])) d (.dT [])) d (.dT (putK [] (bZ n0) (.bl true)))):=(((aw.refl H).upd hl).upd RB).upd RB;have YQ:∀(H':Hp) (kv:List (List Key×V)),H' d=some (.dT kv)->m9 (H' d):=(fun H' kv e=>by rw[e];exact True.intro);have YO:∀(H':Hp) (xs:List V),H' l=some (.lst xs)->m9 (H' l):=(fun H' xs e=>by rw[e];exact True.intro);refine kL (fun σ H'=>∃(p:Nat) (as:List Addr) (v5 v6:Option V),σ=[some (.ref a0),some (.ref g),some (.ref l),some (.ref d),some (.int p),v5,v6]/\aw H H'/\bY TT H'/\H' l=some (.lst (as.map V.ref))/\aI H' as (eB G [n0] p)/\H' d=some (.dT (seenOf (eB G [n0] p)))) (fun(σ:L2.St) _=>match σ[4]? with|some (some (V.int p))=>(ao G Vbkoac.MANY [n0]).length+1-p.toNat|_=>0) ⟨0,[a0],none,none,rfl,sx0,?_,?_,?_,?_⟩ ?_ ?_
  .refine((hT.upd so).upd ?_).upd ?_
   .rw[aB Fs,RB];exact True.intro
   .rw[aA];exact True.intro
  .rw[aB (ajC Fs),aB (ajC Fs),aA];rfl
  .refine .cons ?_ .nil;show upd _ _ _ a0=_;rw[aB ZM,aB ZM,aB nl0];exact h0
  .rw[aA];rfl
  .rintro σ H' ⟨p,as,v5,v6,rfl,sx,tb,HC,hn,Kk⟩;have Eb:as.length=(eB G [n0] p).length:=jS hn;refine⟨_,Z,_,Z,l,_,Z,.inl (ae.of HC),_,_,Z,Z,_,Z,?_⟩;obtain⟨rest,Oc⟩:=PM.jN ib p;refine aO (fun hc=>?_) (fun hc=>?_)
   .have hp:p<(eB G [n0] p).length:=(by have:=aja hc;rw[aiQ,Eb]at this;omega);obtain⟨n,Qp⟩:∃n,(eB G [n0] p)[p]?=some n:=⟨_,aiW hp⟩;obtain⟨a,hap,G9⟩:=hn.get Qp;have ly:n∈ao G Vbkoac.MANY [n0]:=(by rw[Oc];exact aj1 _ (ai1 Qp));refine⟨g,L,cc,cq,Z,hL,aaM,_,Z,_,Z,l,_,_,_,Z,Z,ae.of HC,aS (v:=V.ref a) (by rw[ajd,hap];rfl),sx.code jo,a,n,Z,G9,ly,sx,tb,fun H1 fl bs s1 t1 Co Ec ro=>?_⟩;have e5:eB G [n0] (p+1)=Vbkoac.union (eB G [n0] p) (G n):=(by show(match(eB G [n0] p)[p]? with|some x=>Vbkoac.union (eB G [n0] p) (G x)|none=>eB G [n0] p)=_;rw[Qp]);obtain⟨abY,Qh⟩:=PM.jN ib (p+1);have ZI:fl≠l:=(fun q=>by rw[q,HC]at Co;cases Co);have nfd:fl≠d:=(fun q=>by rw[q,Kk]at Co;cases Co);have rh:=s1.kp _ _ HC nofun;have hd1:=s1.kp _ _ Kk nofun;have KO:=hn.same s1;refine⟨_,Z,fl,Z,⟨_,ae.of Ec⟩,bO (K:=K) (a:=fl) (xs:=bs.map V.ref) (fun i σ H2=>∃(qG:List Addr) (TC:Option V),σ=[some (.ref a0),some (.ref g),some (.ref l),some (.ref d),some (.int p),some (.ref fl),TC]/\aw H H2/\bY TT H2/\H2 l=some (.lst (qG.map V.ref))/\aI H2 qG (Vbkoac.union (eB G [n0] p) ((G n).take i))/\H2 d=some (.dT (seenOf (Vbkoac.union (eB G [n0] p) ((G n).take i))))/\H2 fl=some (.lst (bs.map V.ref))/\aI H2 bs (G n)) ⟨as,v6,Z,sx.trans s1,t1,rh,KO,hd1,Ec,ro⟩ (fun i σ H2 _ ⟨_,_,_,_,_,_,_,_,h7,_⟩=>ae.of h7) ?_ ?_⟩
    .rintro i y σ H2 hi ⟨qG,TC,rfl,Wx,R4,ky,Cg,hd2,Q7,Kl⟩;obtain⟨b,hb,rfl⟩:∃b,bs[i]?=some b/\y=V.ref b:=by
      rw[ajd]at hi;cases e:bs[i]? with
      |none=>rw[e]at hi;cases hi
      |some z=>rw[e]at hi;exact⟨z,Z,(ajr hi).symm⟩
     obtain⟨m,hm,KE⟩:=Kl.lC hb;have KG:(G n).take (i+1)=(G n).take i++[m]:=(by rw[akx (ai3.mp hm).1,(ai3.mp hm).2]);have GC:Vbkoac.union (eB G [n0] p) ((G n).take (i+1))=if(Vbkoac.union (eB G [n0] p) ((G n).take i)).contains m=true then Vbkoac.union (eB G [n0] p) ((G n).take i)else Vbkoac.union (eB G [n0] p) ((G n).take i)++[m]:=by rw[KG,PM.cg];rfl
     have Vp:∃t,eB G [n0] (p+1)=Vbkoac.union (eB G [n0] p) ((G n).take (i+1))++t:=(by rw[e5,<-aj3 (i+1) (G n),PM.cg,aj3];exact PM.cf _ _);have CZ:(Vbkoac.union (eB G [n0] p) ((G n).take (i+1))).length<=(ao G Vbkoac.MANY [n0]).length:=(by obtain⟨t,et⟩:=Vp;rw[Qh,et,aiT,aiT];omega);refine⟨_,Z,_,Z,d,_,Z,ba.t hd2 KE,_,Z,?_⟩;refine aO (fun wZ=>?_) (fun wZ=>?_)
     .have AM:(Vbkoac.union (eB G [n0] p) ((G n).take i)).contains m=false:=(by rw[<-fE];simpa using wZ);rw[ai0 (by rw[AM];exact ajg)]at GC;have fC:(Vbkoac.union (eB G [n0] p) ((G n).take i)).length<sizeLine:=(by rw[GC,aiT,List.length_singleton]at CZ;omega);have Z4:=nW AM;refine⟨_,Z,_,Z,d,_,Z,ji.t hd2 KE (by unfold seenOf;rw[aiQ];exact fC),?_⟩;have ym:upd H2 d (.dT (putK (seenOf (Vbkoac.union (eB G [n0] p) ((G n).take i))) (bZ m) (.bl true))) l=some (.lst (qG.map V.ref)):=(by rw[aB (ajC Fs)];exact ky);refine⟨_,Z,.inl ⟨Z,_,ae.of ym⟩,_,Z,l,_,_,Z,Z,ym,(by rw[aiQ,jS Cg];exact fC),?_⟩;refine⟨qG++[b],_,Z,(Wx.upd RB).upd hl,((R4.upd (YQ _ _ hd2)).upd (YO _ _ ym)),?_,?_,?_,?_,?_⟩
      .rw[aA,aiY];rfl
      .rw[GC];refine aI.upd (aI.upd (aI.snoc KE Cg) (YQ _ _ hd2)) (YO _ _ ym)
      .rw[aB Fs,aA,Z4,GC]
      .rw[aB ZI,aB nfd];exact Q7
      .exact aI.upd (aI.upd Kl (YQ _ _ hd2)) (YO _ _ ym)
     .have AM:(Vbkoac.union (eB G [n0] p) ((G n).take i)).contains m=true:=by
       rw[<-fE];cases q:(bc (seenOf (Vbkoac.union (eB G [n0] p) ((G n).take i))) (bZ m)).isSome with
       |true=>rfl
       |false=>exact absurd (by rw[q];rfl) wZ
      rw[ai5 AM]at GC;exact⟨qG,_,Z,Wx,R4,ky,by rw[GC];exact Cg,by rw[GC];exact hd2,Q7,Kl⟩
    .rintro σ H2 ⟨qG,TC,rfl,Wx,R4,ky,Cg,hd2,Q7,Kl⟩;rw[aiQ,jS Kl,ai9,<-e5]at Cg hd2;refine⟨_,Z,_,_,Z,Z,⟨p+1,qG,_,_,Z,Wx,R4,ky,Cg,hd2⟩,?_⟩;show(ao G Vbkoac.MANY [n0]).length+1-((p:Int)+1).toNat<(ao G Vbkoac.MANY [n0]).length+1-(p:Int).toNat;have:p<(ao G Vbkoac.MANY [n0]).length:=(by rw[Oc,aiT];omega);omega
   .have hp:(eB G [n0] p).length<=p:=(by have:¬((p:Int)<((as.map V.ref).length:Int)):=fun z=>hc (ai8 z);rw[aiQ,Eb]at this;omega);rw[PM.tF hp ib]at hn;exact⟨_,Z,hQ H' l as sx tb hl HC hn⟩
  .rintro σ H' Q1 Q2 hm ⟨v,e1,v2,e2,l2,ys,e3,e4,i1,i2,e5,e6,b,e7,q⟩;exact⟨v,e1,v2,e2,l2,ys,e3,e4,i1,i2,e5,e6,b,e7,hm _ _ q⟩
section
variable{K:W.Frag}
abbrev pL:=top 34
theorem mX:aM ["grounds","rests","ground"] ["grounds"] (aF pL):=dc
def sV:Sp:=fun vs H Q _=>∃l gs,vs=[.ref l]/\a9 H l gs/\gs.flatten.length<=sizeLine/\∀H' l',aC H H'->H l'=none->aT H' l' gs.flatten->Q (.ref l') H'
theorem zZ(F:bL "all_rests" pL):de 1 ["grounds"] sV:=by
 refine d9 mX
 .obtain⟨l,gs,rfl,_⟩:=h;rfl
 .obtain⟨l,gs,rfl,⟨ls,hl,jz⟩,hsz,hQ⟩:=h;refine⟨_,aD (zS 1 mX.nd (aU cA)) (aD (bU ajm rfl (ax (pv 0)) (zG 2 mX.nd) (aE (bp (fN aju akn akm gv (pv 1) (bM (pv 2)))))) (aE (aH (pv 1)))),?_⟩;refine⟨ajo _,fun r gO=>?_⟩;refine⟨_,Z,l,Z,⟨_,ae.of (zU gO _ _ hl)⟩,bO (K:=K) (a:=l) (xs:=ls.map V.ref) (fun i σ H'=>∃(as:List Addr) (v:Option V),σ=[some (.ref l),some (.ref r),v]/\aC H H'/\H' r=some (.lst (as.map V.ref))/\aI H' as (gs.take i).flatten) ⟨[],none,Z,zU gO,aA,.nil⟩ (fun i σ H' _ ⟨_,_,_,s1,_⟩=>ae.of (s1 _ _ hl)) ?_ ?_⟩
  .rintro i y σ H' hi ⟨as,v,rfl,s1,qy,hn⟩;obtain⟨g,hg,rfl⟩:=bT hi;obtain⟨ns,yk,bs,hb,hbn⟩:=aR jz hg;have GP:=s1 _ _ hb;have len:(gs.take (i+1)).flatten.length<=gs.flatten.length:=(by rw[<-aj3 (i+1) gs,ak1,aiT,aj3];omega);rw[aa yk,ak1,aiT]at len;simp only[akV,amK,ajs]at len;refine⟨_,Z,.inl ⟨Z,_,ae.of qy⟩,_,Z,r,g,_,_,Z,Z,qy,GP,?_,?_⟩
   .rw[aiQ,aiQ,Paired.length hn,Paired.length hbn];omega
   .refine⟨as++bs,_,Z,aC.upd s1 gO,?_,?_⟩
    .rw[aA,aiY]
    .rw[aa yk,ak1];simp only[akV,amK,ajs];exact aI.upd (jT hn (Paired.a8 hbn fun _ _ z=>s1 _ _ z)) (by rw[qy];exact True.intro)
  .rintro σ H' ⟨as,v,rfl,s1,qy,hn⟩;rw[aiQ,Paired.length jz,ai9]at hn;exact⟨_,Z,hQ H' r s1 gO ⟨as,qy,hn⟩⟩
def lj(R:List (Nd×Nat)):List (List Key×V):=R.map fun x=>(bZ x.1,V.int (x.2:Nat))
theorem dm(R:List (Nd×Nat))(n:Nd):bc (lj R) (bZ n)=(R.lookup n).map fun k=>V.int (k:Nat):=by
 unfold bc lj
 induction R with
 |nil=>rfl
 |cons x R ih=>
  rw[aji,ajG,ajz];by_cases e:x.1=n
  .have d:decide (bZ x.1=bZ n)=true:=(by rw[e];exact ai8 rfl);have b:(n==x.1)=true:=(by rw[e];exact aka n);simp only[d,b];rfl
  .have d:decide (bZ x.1=bZ n)=false:=ajl fun z=>e (iP.mp z);have b:(n==x.1)=false:=ajt.mpr (ajC e);simp only[d,b];exact ih
def inR(R:List (Nd×Nat))(n:Nd):Bool:=(R.lookup n).isSome
abbrev xc:=top 42
theorem zJ:aM ["ground","ranks","rest"] ["ground","ranks"] (aF xc):=dc
def zC:Sp:=fun vs H Q _=>∃l g d R,vs=[.ref l,.ref d]/\aT H l g/\g.length<=1000/\H d=some (.dT (lj R))/\∀H',aC H H'->Q (.bl (g.all (inR R))) H'
theorem Fi(F:bL "is_full" xc):de 1 ["ground","ranks"] zC:=by
 refine d9 zJ
 .obtain⟨l,g,d,R,rfl,_⟩:=h;rfl
 .obtain⟨l,g,d,R,rfl,⟨as,hl,hn⟩,hg,hd,hQ⟩:=h;have hu:=bu hr;refine⟨_,aD (bU ajm rfl (ax (pv 0)) (zG 2 zJ.nd) (aE (aZ (b9 (cJ hu (pv 2) (pv 1))) (aE (aH gN)) aN))) (aE (aH gN)),?_⟩;refine⟨_,Z,l,Z,⟨_,ae.of hl⟩,bO (K:=K) (a:=l) (xs:=as.map V.ref) (fun i σ H'=>∃v:Option V,σ=[some (.ref l),some (.ref d),v]/\H'=H/\∀m∈g.take i,(!inR R m)=false) ⟨none,Z,Z,fun m hm=>(by simp at hm)⟩ (fun i σ H' _ ⟨_,_,e,_⟩=>by rw[e];exact ae.of hl) ?_ ?_⟩
  .rintro i y σ H' hi ⟨v,rfl,rfl,oP⟩;obtain⟨a,ha,rfl⟩:=bT hi;obtain⟨n,hni,Sg⟩:=hn.lC ha;refine⟨_,Z,_,Z,d,_,Z,ba.t hd Sg,_,Z,?_⟩;rw[dm,aj2];refine aO (fun h1=>?_) (fun h1=>?_)
   .have e:g.all (inR R)=false:=amE.mpr ⟨n,ai1 hni,by
     have:(!inR R n)=true:=h1;simpa using this⟩
    have q:=hQ H' (aC.refl _);rw[e]at q;exact q
   .exact⟨_,Z,Z,hW (p:=fun m=> !inR R m) hni oP (by have:¬(!inR R n)=true:=h1;simpa using this)⟩
  .rintro σ H' ⟨v,rfl,rfl,oP⟩;rw[aiQ,Paired.length hn,ai9]at oP;have e:g.all (inR R)=true:=(ajA.mpr fun m hm=>by simpa using oP m hm);have q:=hQ H' (aC.refl _);rw[e]at q;exact q
abbrev Bw:=top 41
theorem Dh:aM ["grounds","ranks","ground"] ["grounds","ranks"] (aF Bw):=dc
def fQ(R:List (Nd×Nat))(gs:List (List Nd)):Bool:=gs.any fun g=>g.all (inR R)
def Dd:Sp:=fun vs H Q _=>∃l gs d R,vs=[.ref l,.ref d]/\a9 H l gs/\gs.length<=1000/\(∀g∈gs,g.length<=1000)/\H d=some (.dT (lj R))/\∀H',aC H H'->Q (.bl (fQ R gs)) H'
theorem Jo(F:bL "has_full_ground" Bw)(dI:cO 1 "is_full" ["ground","ranks"] zC):de 2 ["grounds","ranks"] Dd:=by
 refine d9 Dh
 .obtain⟨l,g,d,R,rfl,_⟩:=h;rfl
 .obtain⟨l,gs,d,R,rfl,⟨ls,hl,jz⟩,hg,Vj,hd,hQ⟩:=h;refine⟨_,aD (bU ajm rfl (ax (pv 0)) (zG 2 Dh.nd) (aE (aZ (bF (aJ dI hr (cY (pv 2) (pv 1)))) (aE (aH gN)) aN))) (aE (aH gN)),?_⟩;refine⟨_,Z,l,Z,⟨_,ae.of hl⟩,bO (K:=K) (a:=l) (xs:=ls.map V.ref) (fun i σ H'=>∃v:Option V,σ=[some (.ref l),some (.ref d),v]/\aC H H'/\∀g∈gs.take i,g.all (inR R)=false) ⟨none,Z,aC.refl _,fun m hm=>(by simp at hm)⟩ (fun i σ H' _ ⟨_,_,s1,_⟩=>ae.of (s1 _ _ hl)) ?_ ?_⟩
  .rintro i y σ H' hi ⟨v,rfl,s1,oP⟩;obtain⟨a,ha,rfl⟩:=bT hi;obtain⟨g,Sl,hga⟩:=aR jz ha;refine⟨_,Z,_,Z,a,g,d,R,Z,hga.same (aC.x s1),Vj g (ai1 Sl),s1 _ _ hd,fun H2 s2=>⟨_,Z,aO (fun h1=>?_) (fun h1=>?_)⟩⟩
   .have e:fQ R gs=true:=ajX.mpr ⟨g,ai1 Sl,h1⟩;have q:=hQ H2 (aC.trans s1 s2);rw[e]at q;exact q
   .exact⟨_,Z,aC.trans s1 s2,hW Sl oP (by simpa using h1)⟩
  .rintro σ H' ⟨v,rfl,s1,oP⟩;rw[aiQ,Paired.length jz,ai9]at oP;have e:fQ R gs=false:=(akW.mpr fun g hg=>by simpa using oP g hg);have q:=hQ H' s1;rw[e]at q;exact q
end
def lz(H:Hp):List (List Key×V)->List (Nd×List (List Nd))->Prop:=Paired fun kv x=>kv.1=bZ x.1/\∃l,kv.2= .ref l/\a9 H l x.2
theorem lz.same(s:aw H H')(h:lz H aP Gs):lz H' aP Gs:=Paired.a8 h fun _ _ ⟨e,l,e2,g⟩=>⟨e,l,e2,g.same s⟩
theorem x8{α:Type}{R:V->α->Prop}:∀{aP:List (List Key×V)} {xs:List (Nd×α)} (n:Nd),Paired (fun kv (x:Nd×α)=>kv.1=bZ x.1/\R kv.2 x.2) aP xs->(xs.lookup n=none->bc aP (bZ n)=none)/\∀y,xs.lookup n=some y->∃v,bc aP (bZ n)=some v/\R v y
 |_,_,n,.nil=>⟨fun _=>rfl,fun y e=>(nomatch e)⟩
 |_,_,n,.cons (a:=kv) (b:=x) ⟨e1,r⟩ t=>by
  obtain⟨Le,ET⟩:=x8 n t;unfold bc at Le ET⊢;rw[ajG,ajz];by_cases e:x.1=n
  .have d:decide (kv.1=bZ n)=true:=(by rw[e1,e];exact ai8 rfl);have b:(n==x.1)=true:=(by rw[e];exact aka n);simp only[d,b];exact⟨nofun,fun y z=>by cases z;exact⟨kv.2,Z,r⟩⟩
  .have d:decide (kv.1=bZ n)=false:=ajl fun z=>e (by rw[e1]at z;exact iP.mp z);have b:(n==x.1)=false:=ajt.mpr (ajC e);simp only[d,b];exact⟨Le,ET⟩
def LKV(H:Hp)(aP:List (List Key×V))(ls:List Addr)(xs:List (Nd×List Nd)):Prop:=aP=(xs.zip ls).map (fun p=>(bZ p.1.1,V.ref p.2))/\ls.length=xs.length/\ls.Nodup/\Paired (aT H) ls (xs.map (·.2))
def bV(Gs:List (Nd×List (List Nd)))(n:Nd):List Nd:=Gs.flatMap fun x=>(x.2.flatten.filter fun m=>m==n).map fun _=>x.1
abbrev Ip:=top 40
theorem se:aM ["grounds","leaning","pair","rest"] ["grounds"] (aF Ip):=dc
def keysOf(Gs:List (Nd×List (List Nd))):List Nd:=Gs.map (·.1)
def Hz:Sp:=fun vs H Q _=>∃d aP Gs,vs=[.ref d]/\H d=some (.dT aP)/\lz H aP Gs/\(keysOf Gs).Nodup/\Gs.length<=400000/\(∀x∈Gs,x.2.flatten.length<=12/\∀m∈x.2.flatten,m∈keysOf Gs)/\∀H' d' iZ ls,aC H H'->H d'=none->H' d'=some (.dT iZ)->LKV H' iZ ls ((keysOf Gs).map fun n=>(n,bV Gs n))->Q (.ref d') H'
theorem EK{xs:List (Nd×List Nd)}:∀{i:Nat} {n:Nd} {y:List Nd} {l:Addr},(xs.map (·.1)).Nodup->xs[i]?=some (n,y)->ls[i]?=some l->bc ((xs.zip ls).map fun p=>(bZ p.1.1,V.ref p.2)) (bZ n)=some (.ref l):=by
 induction xs generalizing ls with
 |nil=>intro i n y l _ e _;simp at e
 |cons x xs ih=>
  intro i n y l nd e el;cases ls with
  |nil=>simp at el
  |cons l0 ls=>
   unfold bc;rw[alR,aji,ajG];rw[aji,ajP]at nd;cases i with
   |zero=>
    simp at e el;subst e el;simp
   |succ i=>
    have e':xs[i]?=some (n,y):=(by simpa using e);have el':ls[i]?=some l:=(by simpa using el);have ne:x.1≠n:=fun q=>nd.1 (by rw[q];exact ai7.mpr ⟨(n,y),ai1 e',rfl⟩);have d:decide (bZ x.1=bZ n)=false:=ajl fun z=>ne (iP.mp z);simp only[d];exact ih nd.2 e' el'
theorem iz{k:List Key}{v:V}(h:∀kv∈aP,kv.1≠k):putK aP k v=aP++[(k,v)]:=by unfold putK;have:(aP.any fun kv=>decide (kv.1=k))=false:=(akW.mpr fun kv lX=>by simpa using h kv lX);rw[this];simp
theorem lz.keys:∀{aP:List (List Key×V)} {Gs:List (Nd×List (List Nd))},lz H aP Gs->aP.map (·.1)=(keysOf Gs).map bZ
 |_,_,.nil=>rfl
 |_,_,.cons ⟨e,_⟩ t=>by unfold keysOf;rw[aji,aji,aji,e];have:=lz.keys t;unfold keysOf at this;rw[this]
theorem vq{H:Hp}:∀{ls:List Addr} {gs:List (List Nd)} {i:Nat} {l:Addr} {as:List Addr} {ns:List Nd},ls.Nodup->ls[i]?=some l->m9 (H l)->aI H as ns->Paired (aT H) ls gs->Paired (aT (upd H l (.lst (as.map V.ref)))) ls (gs.set i ns)
 | [],_,i,l,as,ns,_,e,_,_,_=>by simp at e
 |l0::ls,_,0,l,as,ns,nd,e,so,hn,.cons _ t=>by simp at e;subst e;rw[ajP]at nd;exact .cons ⟨as,aA,aI.upd hn so⟩ (fM so nd.1 t)
 |l0::ls,_,i+1,l,as,ns,nd,e,so,hn,.cons ⟨bs,z1,z2⟩ t=>by rw[ajP]at nd;have e':ls[i]?=some l:=(by simpa using e);have ne:l0≠l:=fun q=>nd.1 (by rw[q];exact ai1 e');exact .cons ⟨bs,by rw[aB ne];exact z1,aI.upd z2 so⟩ (vq nd.2 e' so hn t)
theorem aI.lock(hd:H d=some (.dT aP)){as:List Addr}{ns:List Nd}(h:aI H as ns):aI (upd H d o) as ns:=aI.upd h (by rw[hd];exact True.intro)
theorem aT.lock(hd:H d=some (.dT aP))(h:aT H l g):aT (upd H d o) l g:=by obtain⟨as,a,b⟩:=h;exact⟨as,by rw[aB (ak a hd nofun)];exact a,aI.lock hd b⟩
theorem a9.lock(hd:H d=some (.dT aP)){gs:List (List Nd)}(h:a9 H l gs):a9 (upd H d o) l gs:=by obtain⟨ls,a,b⟩:=h;exact⟨ls,by rw[aB (ak a hd nofun)];exact a,Paired.a8 b fun _ _ z=>aT.lock hd z⟩
theorem lz.lock(hd:H d=some (.dT aP))(h:lz H aP Gs):lz (upd H d o) aP Gs:=Paired.a8 h fun _ _ ⟨e,l,e2,g⟩=>⟨e,l,e2,a9.lock hd g⟩
theorem aC.unlock{u:HO}(hd:H d=some u)(s:aC (upd H d o) H'):aC H (upd H' d u):=fun b v e=>by
 by_cases q:b=d
 .rw[q]at e⊢;rw[aA];rw[hd]at e;exact e
 .rw[aB q];exact s b v (by rw[aB q];exact e)
theorem z5(Gs:List (Nd×List (List Nd))){i:Nat}{x:Nd×List (List Nd)}(h:Gs[i]?=some x)(n:Nd):bV (Gs.take (i+1)) n=bV (Gs.take i) n++(x.2.flatten.filter fun m=>m==n).map fun _=>x.1:=by unfold bV;rw[aa h,aj9];simp
theorem CT(Gs:List (Nd×List (List Nd)))(n:Nd)(h:∀x∈Gs,x.2.flatten.length<=12):(bV Gs n).length<=12*Gs.length:=by
 unfold bV
 induction Gs with
 |nil=>simp
 |cons x Gs ih=>
  rw[ajD,aiT,aiQ,ajc];have a:=h x (aiV ..);have b:=ajk (fun m=>m==n) x.2.flatten;have c:=ih fun y hy=>h y (aiS _ hy);omega
theorem map_set{α β:Type}{f g:α->β}:∀{l:List α} {i:Nat} {x:α},l.Nodup->l[i]?=some x->(∀y,y≠x->g y=f y)->(l.map f).set i (g x)=l.map g
 | [],i,x,_,e,_=>by simp at e
 |y::l,0,x,nd,e,h=>by simp at e;subst e;rw[ajP]at nd;rw[aji,aji,List.set_cons_zero];congr 1;exact aj6 fun z hz=>(h z fun q=>nd.1 (by rw[<-q];exact hz)).symm
 |y::l,i+1,x,nd,e,h=>by rw[ajP]at nd;have e':l[i]?=some x:=(by simpa using e);rw[aji,aji,List.set_cons_succ,map_set nd.2 e' h];congr 1;exact(h y fun q=>nd.1 (by rw[q];exact ai1 e')).symm
section
variable{K:W.Frag}
theorem MZ(F:bL "leaning_on" Ip)(dA:jW 1):de 2 ["grounds"] Hz:=by
 refine d9 se
 .obtain⟨d,aP,Gs,rfl,_⟩:=h;rfl
 .obtain⟨d,aP,Gs,rfl,hd,hG,Qq,acO,ib,hQ⟩:=h;have hu:=bu hr;refine⟨_,aD (zS 1 se.nd iB) (aD (gZ (bU ajm rfl (gc (pv 0)) (zG 2 se.nd) (aE (ee hu (pv 1) (pv 2) (aU cA) rfl)))) (aD (gZ (bU ajm rfl (gc (pv 0)) (zG 2 se.nd) (aE (bU ajm rfl (ax (aJ dA hr (bM (dq hu (pv 0) (pv 2))))) (zG 3 se.nd) (aE (bp (fN aju ajM ajL cN (dq hu (pv 1) (pv 3)) (bM (pv 2))))))))) (aE (aH (pv 1))))),?_⟩;have AG:aP.length=Gs.length:=Paired.length hG;have Ve:=lz.keys hG;intro e he;have XC:d≠e:=aG hd he;have RB:upd H e (.dT []) d=some (.dT aP):=(by rw[aB XC];exact hd);refine⟨d,_,RB,True.intro,fun od=>⟨_,rfl,d,od,rfl,.inr ⟨aP,aA,lD (J:=DJ d od aP) (n:=aP.length) (fun i σ H'=>∃(ls:List Addr) (v2:Option V),σ=[some (.ref d),some (.ref e),v2,none]/\aC (upd H d (.br od (.dT aP))) H'/\H' e=some (.dT ((((keysOf Gs).take i).zip ls).map fun p=>(bZ p.1,V.ref p.2)))/\ls.length=i/\ls.Nodup/\(∀l∈ls,H' l=some (.lst [])/\H l=none)) ⟨[],none,rfl,?_,?_,rfl,ako,fun l hl=>(nomatch hl)⟩ (fun i σ H' hi ⟨_,_,_,s1,_⟩=>⟨s1 _ _ aA,hi⟩) ?_ ?_⟩⟩⟩
  .intro b o eb;by_cases q:b=d
   .rw[q]at eb⊢;rw[aA]at eb⊢;exact eb
   .rw[aB q]at eb⊢;rw[aB (aG eb he)];exact eb
  .rw[aB (ajC XC),aA];rfl
  .rintro i x σ H' H2 hi ⟨ls,v2,rfl,s1,uC,KS,Qt,KW⟩ ⟨eH,k,v,q,hk,rfl,hq⟩;subst eH;obtain⟨gx,HD,ek,_⟩:=aR hG hk;have GX:k=bZ gx.1:=ek;subst GX;have qz:(keysOf Gs)[i]?=some gx.1:=(by unfold keysOf;rw[ajd,HD];rfl);refine⟨ajo _,fun l hl=>?_⟩;have nle:e≠l:=aG uC hl;have nql:q≠l:=aG hq hl;have Ee:upd H2 l (.lst []) e=some (.dT ((((keysOf Gs).take i).zip ls).map fun p=>(bZ p.1,V.ref p.2))):=(by rw[aB nle];exact uC);refine⟨_,Z,_,Z,e,_,Z,ji.t Ee (k:=bZ gx.1) (by rw[aB nql];exact hq) ?_,?_⟩
   .rw[aiQ,akQ,ajb,ai6];omega
   .have mv:H l=none:=by
     have z:=aC.free s1 hl;by_cases qd:l=d
     .rw[qd,aA]at z;cases z
     .rw[aB qd]at z;exact z
    have ZK:putK ((((keysOf Gs).take i).zip ls).map fun p=>(bZ p.1,V.ref p.2)) (bZ gx.1) (.ref l)=(((keysOf Gs).take (i+1)).zip (ls++[l])).map fun p=>(bZ p.1,V.ref p.2):=by
     have lt:((keysOf Gs).take i).length=ls.length:=(by rw[ajb,KS];have:=(ai3.mp qz).1;omega);rw[iz,aa qz,amT lt,aiY]
     .rfl
     .intro kv lX;obtain⟨p,hp,rfl⟩:=ai7.mp lX;have Qm:=(alx hp).1;intro z;have e1:=iP.mp z;rw[e1]at Qm;obtain⟨j,hj,ej⟩:=ajY Qm;rw[ajb]at hj;have ej':(keysOf Gs)[j]?=some gx.1:=(by rw[alg]at ej;rw[<-ej];exact aiW _);have:=zg Qq ej' qz;omega
    refine⟨ls++[l],_,Z,?_,?_,?_,?_,?_⟩
    .refine aC.upd (aC.upd s1 ?_) ?_
     .exact aC.free s1 hl
     .rw[aB (ajC XC)];exact he
    .rw[aA,ZK]
    .rw[aiT,KS];rfl
    .refine akz.mpr ⟨Qt,by simp,fun a ha b hb=>?_⟩;rw[aiU.mp hb];exact aG (KW a ha).1 hl
    .intro a ha;rcases ajh.mp ha with z|z
     .have na:a≠e:=ak (KW a z).1 uC nofun;exact⟨by rw[aB na,aB (aG (KW a z).1 hl)];exact(KW a z).1,(KW a z).2⟩
     .rw[aiU.mp z];exact⟨by rw[aB (ajC nle),aA],mv⟩
  .rintro σ H1 ⟨ls,v2,rfl,s1,uC,KS,Qt,KW⟩;refine⟨⟨s1 _ _ aA,ai2 _⟩,s1 _ _ aA,?_⟩;have hd2:upd H1 d (.dT aP) d=some (.dT aP):=aA;have ZL:e≠d:=ajC XC;refine⟨d,_,hd2,True.intro,fun rZ=>⟨_,rfl,d,rZ,rfl,.inr ⟨aP,aA,lD (J:=DJ d rZ aP) (n:=aP.length) (fun i σ H'=>∃(v2 v3:Option V),σ=[some (.ref d),some (.ref e),v2,v3]/\aC (upd H d (.br rZ (.dT aP))) H'/\H' e=some (.dT (((keysOf Gs).zip ls).map fun p=>(bZ p.1,V.ref p.2)))/\Paired (aT H') ls ((keysOf Gs).map fun n=>bV (Gs.take i) n)) ⟨v2,none,rfl,?_,?_,?_⟩ (fun i σ H' hi ⟨_,_,_,s1,_⟩=>⟨s1 _ _ aA,hi⟩) ?_ ?_⟩⟩⟩
   .intro b o eb;by_cases q:b=d
    .rw[q]at eb⊢;rw[aA]at eb⊢;exact eb
    .rw[aB q]at eb⊢;rw[aB q];exact s1 b o (by rw[aB q];exact eb)
   .have:(keysOf Gs).take aP.length=keysOf Gs:=(by rw[AG];unfold keysOf;rw[aky (by rw[aiQ];exact ai2 _)]);rw[aB ZL,aB ZL,uC,this]
   .have ky:ls.length=(keysOf Gs).length:=(by unfold keysOf;rw[KS,AG,aiQ]);have emp:∀n,bV (Gs.take 0) n=[]:=fun n=>rfl;have gen:∀(ls:List Addr) (ks:List Nd),ls.length=ks.length->(∀l∈ls,upd (upd H1 d (.dT aP)) d (.br rZ (.dT aP)) l=some (.lst []))->Paired (aT (upd (upd H1 d (.dT aP)) d (.br rZ (.dT aP)))) ls (ks.map fun n=>bV (Gs.take 0) n):=fun ls=>by
     induction ls with
     |nil=>
      intro ks e _;cases ks with
      |nil=>exact .nil
      |cons=>simp at e
     |cons l ls ih=>
      intro ks e h;cases ks with
      |nil=>simp at e
      |cons k ks=>exact .cons ⟨[],h l (aiV ..),.nil⟩ (ih ks (by simpa using e) fun a ha=>h a (aiS _ ha))
    refine gen ls _ ky fun l hl=>?_;have Fs:l≠d:=(fun q=>by have:=(KW l hl).2;rw[q,hd]at this;cases this);rw[aB Fs,aB Fs];exact(KW l hl).1
   .rintro i x σ H' H2 hi ⟨Wl,v3,rfl,s2,Ee,jz⟩ ⟨eH,k,v,q,hk,rfl,hq⟩;subst eH;obtain⟨gx,HD,ek,lg,el,pY⟩:=aR hG hk;have GX:k=bZ gx.1:=ek;subst GX;have el':v= .ref lg:=el;subst el';have KQ:gx∈Gs:=ai1 HD;have hdF:H2 d=some (.br rZ (.dT aP)):=s2 _ _ aA;have KD:bc aP (bZ gx.1)=some (.ref lg):=by
     obtain⟨_,z⟩:=x8 (R:=fun v y=>∃l,v=V.ref l/\a9 H l y) gx.1 hG;have lk:Gs.lookup gx.1=some gx.2:=by
      clear z;have:∀(Gs:List (Nd×List (List Nd))) (i:Nat),(Gs.map (·.1)).Nodup->Gs[i]?=some gx->Gs.lookup gx.1=some gx.2:=fun Gs=>by
       induction Gs with
       |nil=>intro i _ e;simp at e
       |cons y Gs ih=>
        intro i nd e;rw[aji,ajP]at nd;cases i with
        |zero=>
         have e':y=gx:=ajr e;rw[ajz,e',aka]
        |succ i=>
         have e':Gs[i]?=some gx:=(by simpa using e);have ne:(gx.1==y.1)=false:=ajt.mpr fun q=>nd.1 (by rw[<-q];exact ai7.mpr ⟨gx,ai1 e',rfl⟩);rw[ajz,ne];exact ih i nd.2 e'
      exact this Gs i Qq HD
     obtain⟨v0,e0,l0,e1,_⟩:=z gx.2 lk;have ZH:(aP.map (·.1)).Nodup:=(by rw[Ve];exact List.Pairwise.map _ (fun a b ne z=>ne (iP.mp z)) Qq);unfold bc;have Su:∀(aP:List (List Key×V)) (i:Nat),(aP.map (·.1)).Nodup->aP[i]?=some (bZ gx.1,V.ref lg)->aP.find? (fun kv=>decide (kv.1=bZ gx.1))=some (bZ gx.1,V.ref lg):=fun aP=>by
      induction aP with
      |nil=>intro i _ e;simp at e
      |cons y aP ih=>
       intro i nd e;rw[aji,ajP]at nd;rw[ajG];cases i with
       |zero=>simp at e;subst e;simp
       |succ i=>
        have e':aP[i]?=some (bZ gx.1,V.ref lg):=(by simpa using e);have ne:decide (y.1=bZ gx.1)=false:=ajl fun q=>nd.1 (by rw[q];exact ai7.mpr ⟨_,ai1 e',rfl⟩);rw[ne];exact ih i nd.2 e'
     rw[Su aP i ZH hk];rfl
    have aaw:a9 H2 lg gx.2:=(a9.lock (o:= .br rZ (.dT aP)) hd pY).same (aC.x s2);refine⟨_,Z,_,Z,d,_,Z,(by rw[<-KD];exact .inr ⟨aP,bZ gx.1,q,.inr ⟨rZ,hdF⟩,Z,hq,Z⟩),lg,gx.2,Z,aaw,?_,fun H3 rl s3 yi ⟨bs,VA,ro⟩=>?_⟩
    .rw[ai6];have:=(ib gx KQ).1;omega
    have Vx:∀x∈Gs.take i,x.2.flatten.length<=12:=fun x hx=>(ib x (akU hx)).1;have Yu:∀l∈ls,rl≠l:=(fun l hl q2=>by obtain⟨j,hj,ej⟩:=ajY hl;obtain⟨_,_,as,ha,_⟩:=aR jz (aiW hj);rw[ej,<-q2]at ha;rw[yi]at ha;cases ha);refine⟨rl,Z,⟨_,ae.of VA⟩,bO (K:=K) (a:=rl) (xs:=bs.map V.ref) (fun j σ H'=>∃v3:Option V,σ=[some (.ref d),some (.ref e),some (.ref q),v3]/\aC (upd H d (.br rZ (.dT aP))) H'/\H' q=some (.tup ((bZ gx.1).map kV))/\H' rl=some (.lst (bs.map V.ref))/\aI H' bs gx.2.flatten/\H' e=some (.dT (((keysOf Gs).zip ls).map fun p=>(bZ p.1,V.ref p.2)))/\Paired (aT H') ls ((keysOf Gs).map fun n=>bV (Gs.take i) n++((gx.2.flatten.take j).filter fun m=>m==n).map fun _=>gx.1)) ⟨v3,Z,aC.trans s2 s3,s3 _ _ hq,VA,ro,s3 _ _ Ee,?_⟩ (fun j σ H' _ ⟨_,_,_,_,h4,_⟩=>ae.of h4) ?_ ?_⟩
    .have:((keysOf Gs).map fun n=>bV (Gs.take i) n++((gx.2.flatten.take 0).filter fun m=>m==n).map fun _=>gx.1)=(keysOf Gs).map fun n=>bV (Gs.take i) n:=(aj6 fun n _=>by simp);rw[this];exact Paired.a8 jz fun _ _ z=>z.same (aC.x s3)
    .rintro j y σ H4 hj ⟨v3',rfl,s4,hq4,U9,NN,Ed,mr⟩;obtain⟨b,hb,rfl⟩:=bT hj;obtain⟨m,hm,KE⟩:=NN.lC hb;have hmk:m∈keysOf Gs:=(ib gx KQ).2 m (ai1 hm);obtain⟨t,ht,et⟩:=ajY hmk;have SW:(keysOf Gs)[t]?=some m:=(by rw[<-et];exact aiW ht);have fC:t<ls.length:=(by rw[KS,AG];unfold keysOf at ht;rw[aiQ]at ht;exact ht);have Ci:ls[t]?=some ls[t]:=aiW fC;generalize ls[t]=l at Ci;have hlm:l∈ls:=ai1 Ci;obtain⟨cur,Vw,as,yl,has⟩:=aR mr Ci;have WN:cur=bV (Gs.take i) m++((gx.2.flatten.take j).filter fun z=>z==m).map fun _=>gx.1:=(by rw[ajd,SW]at Vw;exact(ajr Vw).symm);have hvl:bc (((keysOf Gs).zip ls).map fun p=>(bZ p.1,V.ref p.2)) (bZ m)=some (.ref l):=(by have:=EK (xs:=(keysOf Gs).map fun n=>(n,([]:List Nd))) (ls:=ls) (i:=t) (n:=m) (y:=[]) (l:=l) (by rw[aj0,show((fun(x:Nd×List Nd)=>x.1)∘fun n=>(n,([]:List Nd)))=id from rfl,amk];exact Qq) (by rw[ajd,SW];rfl) Ci;have e2:((((keysOf Gs).map fun n=>(n,([]:List Nd))).zip ls).map fun p=>(bZ p.1.1,V.ref p.2))=((keysOf Gs).zip ls).map fun p=>(bZ p.1,V.ref p.2):=(by rw[List.zip_map_left,aj0];rfl);rw[e2]at this;exact this);have VV:as.length<sizeLine:=(by rw[Paired.length has,WN,aiT,aiQ,ai6];have a1:=CT (Gs.take i) m Vx;have a2:=ajk (fun z=>z==m) (gx.2.flatten.take j);have a3:=(ib gx KQ).1;rw[ajb]at a1 a2;omega);refine⟨_,Z,_,Z,e,_,Z,(show ba H4 e (V.ref b) (some (V.ref l)) by rw[<-hvl];exact ba.t Ed KE),.inl ⟨Z,_,ae.of yl⟩,_,Z,l,_,_,Z,Z,yl,(by rw[aiQ];exact VV),?_⟩;have IH:m9 (H4 l):=(by rw[yl];exact True.intro);have Z2:H4 q=some (.tup ((bZ gx.1).map kV)):=hq4;have hnl:(upd H d (.br rZ (.dT aP))) l=none:=(by have Fs:l≠d:=(fun q=>by have:=(KW l hlm).2;rw[q,hd]at this;cases this);rw[aB Fs];exact(KW l hlm).2);refine⟨_,Z,aC.upd s4 hnl,?_,?_,?_,?_,?_⟩
     .rw[aB (ak Z2 yl nofun)];exact Z2
     .rw[aB (Yu l hlm)];exact U9
     .exact aI.upd NN IH
     .rw[aB (ak Ed yl nofun)];exact Ed
     .have st:=vq (ns:=cur++[gx.1]) (as:=as++[q]) Qt Ci IH (aI.snoc Z2 has) mr;rw[aiY]at st;have em:=map_set (f:=fun n=>bV (Gs.take i) n++((gx.2.flatten.take j).filter fun m=>m==n).map fun _=>gx.1) (g:=fun n=>bV (Gs.take i) n++((gx.2.flatten.take (j+1)).filter fun m=>m==n).map fun _=>gx.1) Qq SW (fun y hy=>by have:(m==y)=false:=ajt.mpr (ajC hy);rw[aa hm,aj8];simp[this]);have ec:cur++[gx.1]=bV (Gs.take i) m++((gx.2.flatten.take (j+1)).filter fun z=>z==m).map fun _=>gx.1:=(by rw[WN,aa hm,aj8,aiY];simp);rw[ec,em]at st;exact st
    .rintro σ H4 ⟨v3',rfl,s4,hq4,U9,NN,Ed,mr⟩;refine⟨_,_,Z,s4,Ed,?_⟩;have:((keysOf Gs).map fun n=>bV (Gs.take (i+1)) n)=(keysOf Gs).map fun n=>bV (Gs.take i) n++((gx.2.flatten.take (bs.map V.ref).length).filter fun m=>m==n).map fun _=>gx.1:=(aj6 fun n _=>by rw[z5 Gs HD,aiQ,Paired.length NN,ai9]);rw[this];exact mr
   .rintro σ H4 ⟨Wl,v3,rfl,s4,Ed,mr⟩;refine⟨⟨s4 _ _ aA,ai2 _⟩,s4 _ _ aA,?_⟩;have tk:Gs.take aP.length=Gs:=(by rw[AG,ai9]);rw[tk]at mr;have so:m9 (H4 d):=(by rw[s4 _ _ aA];exact True.intro);have dls:d∉ls:=(fun hm=>by have:=(KW d hm).2;rw[hd]at this;cases this);refine⟨_,Z,hQ _ e (((keysOf Gs).zip ls).map fun p=>(bZ p.1,V.ref p.2)) ls (aC.unlock hd s4) he (by rw[aB ZL];exact Ed) ⟨?_,?_,Qt,?_⟩⟩
    .rw[List.zip_map_left,aj0];rfl
    .rw[aiQ];unfold keysOf;rw[KS,AG,aiQ]
    .rw[aj0];exact fM so dls mr
end
open Vbkoac (Known)
open L2 (Nd)
open PM (lv Rk yy ao bS)
abbrev MANY:=Vbkoac.MANY
def bG(h:Known)(n:Nd):List Nd:=(au h n).flatten
theorem wb(hg:g∈au h n):∃p,paperOf h n.1=some p/\Vbkoac.own h p n.2=true/\∃g0∈p.grounds,g=g0.map (nodeOf p n.2):=by
 unfold au at hg;cases hp:paperOf h n.1 with
 |none=>rw[hp]at hg;cases hg
 |some p=>
  rw[hp]at hg;simp only at hg;by_cases o:Vbkoac.own h p n.2=true
  .rw[ai5 o]at hg;obtain⟨g0,h0,e⟩:=ai7.mp hg;exact⟨p,Z,o,g0,h0,e.symm⟩
  .rw[ai0 o]at hg;cases hg
theorem LJ(hm:m∈bG h n):m∈below h n:=by obtain⟨g,hg,KP⟩:=akJ.mp hm;obtain⟨p,hp,_,g0,h0,e⟩:=wb hg;rw[e]at KP;obtain⟨r,hr,er⟩:=ai7.mp KP;exact(PM.fO hp).mpr ⟨g0,h0,r,hr,er⟩
theorem O3(h:Known)(S:Nd->Bool)(n:Nd):yy h S n=(au h n).any fun g=>g.all S:=by
 unfold yy au;cases hp:paperOf h n.1 with
 |none=>rfl
 |some p=>
  simp only;cases o:Vbkoac.own h p n.2 with
  |false=>simp
  |true=>
   rw[ai5 rfl,akv,amD];congr 1;funext g;simp[alH,amF]
theorem EJ(h:Known)(k:Nat)(n:Nd):lv h (k+1) n=(au h n).any fun g=>g.all (lv h k):=O3 h (lv h k) n
theorem yH{k:Nat}(e:∀m∈bG h n,inR R m=lv h k m):fQ R (au h n)=lv h (k+1) n:=by
 rw[EJ];unfold fQ;rw[ajw,ajX,ajX];have q:∀g∈au h n,g.all (inR R)=g.all (lv h k):=fun g hg=>by
  rw[ajw,ajA,ajA];have z:∀m∈g,inR R m=lv h k m:=fun m hm=>e m (akJ.mpr ⟨g,hg,hm⟩);constructor
  .intro a m hm;rw[<-z m hm];exact a m hm
  .intro a m hm;rw[z m hm];exact a m hm
 constructor
 .rintro⟨g,hg,a⟩;exact⟨g,hg,by rw[<-q g hg];exact a⟩
 .rintro⟨g,hg,a⟩;exact⟨g,hg,by rw[q g hg];exact a⟩
theorem vp{k:Nat}(r:Rk h n (k+2)):∃m∈bG h n,Rk h m (k+1):=by
 have a:=r.at_;rw[EJ,ajX]at a;obtain⟨g,hg,al⟩:=a;rw[ajA]at al;have b:=r.low (k+1) (by omega);rw[EJ]at b;have nb:g.all (lv h k)=false:=(by have:=akW.mp b g hg;simpa using this);obtain⟨m,hm,hk⟩:=amE.mp nb;refine⟨m,akJ.mpr ⟨g,hg,hm⟩,al m hm,fun j hj=>?_⟩;cases z:lv h j m with
 |false=>rfl
 |true=>exact absurd (PM.iQ (show j<=k by omega) z) hk
def bx(h:Known)(Rs:List Nd):List (Nd×List (List Nd)):=Rs.map fun n=>(n,au h n)
theorem jX(h:Known)(Rs:List Nd):keysOf (bx h Rs)=Rs:=by unfold keysOf bx;rw[aj0];exact List.map_id' Rs
theorem oF:n∈bV (bx h Rs) m↔n∈Rs/\m∈bG h n:=by
 unfold bV bx;rw[ajH];constructor
 .rintro⟨x,hx,hn⟩;obtain⟨y,hy,rfl⟩:=ai7.mp hx;obtain⟨z,hz,e⟩:=ai7.mp hn;obtain⟨h1,h2⟩:=ajy.mp hz;have:z=m:=(by simpa using h2);subst this;simp only at e;subst e;exact⟨hy,h1⟩
 .rintro⟨a,b⟩;exact⟨_,ai7.mpr ⟨n,a,Z⟩,ai7.mpr ⟨m,ajy.mpr ⟨b,by simp⟩,Z⟩⟩
structure gp(h:Known)(Rs:List Nd)(k:Nat)(R:List (Nd×Nat))(fresh:List Nd):Prop where
 rk:∀n∈Rs,∀j,R.lookup n=some j↔Rk h n j/\j<=k
 sub:∀x∈R,x.1∈Rs
 nd:(R.map (·.1)).Nodup
 fr:∀n,n∈fresh↔n∈Rs/\Rk h n (k+1)
 Su:fresh.Nodup
theorem zN(nd:Rs.Nodup):gp h Rs 0 [] (Rs.filter fun n=>fQ [] (au h n)):=by
 refine⟨fun n hn j=>?_,fun x hx=>(nomatch hx),ako,fun n=>?_,alz alr nd⟩
 .constructor
  .intro e;cases e
  .rintro⟨a,b⟩;have:=a.pos;omega
 .rw[ajy];have e:fQ [] (au h n)=lv h 1 n:=yH fun m _=>rfl;rw[e];constructor
  .rintro⟨a,b⟩;refine⟨a,b,fun j hj=>?_⟩;have:j=0:=(by omega);rw[this];rfl
  .rintro⟨a,b⟩;exact⟨a,b.at_⟩
def rO(R:List (Nd×Nat))(fresh:List Nd)(k:Nat):List (Nd×Nat):=R++fresh.map fun n=>(n,k)
theorem lookup_none(h:n∉R.map (·.1)):R.lookup n=none:=by
 induction R with
 |nil=>rfl
 |cons x R ih=>
  rw[aji,aiZ,not_or]at h;rw[ajz,ajt.mpr h.1];exact ih h.2
theorem lookup_append{S:List (Nd×Nat)}:(R++S).lookup n=(R.lookup n).or (S.lookup n):=by
 induction R with
 |nil=>rfl
 |cons x R ih=>
  rw[akj,ajz,ajz];cases n==x.1 with
  |true=>rfl
  |false=>exact ih
theorem oI{fresh:List Nd}{k:Nat}:(fresh.map fun n=>(n,k)).lookup n=if n∈fresh then some k else none:=by
 induction fresh with
 |nil=>rfl
 |cons x fr ih=>
  rw[aji,ajz];by_cases e:n=x
  .subst e;simp
  .have:(n==x)=false:=ajt.mpr e;rw[this,ih];simp[e]
theorem gp.apart{k:Nat}{fresh:List Nd}(r:gp h Rs k R fresh)(hn:n∈fresh):R.lookup n=none:=by
 obtain⟨a,b⟩:=(r.fr n).mp hn;cases e:R.lookup n with
 |none=>rfl
 |some j=>
  obtain⟨c,d⟩:=(r.rk n a j).mp e;have:=c.eq b;omega
def EB(h:Known)(Rs:List Nd)(R:List (Nd×Nat))(fresh:List Nd):List Nd:=(Vbkoac.union [] (fresh.flatMap fun p=>bV (bx h Rs) p)).filter fun n=> !inR R n&&fQ R (au h n)
theorem sy(hc:∀n∈Rs,∀m∈bG h n,m∈Rs){k:Nat}{fresh:List Nd}(r:gp h Rs k R fresh):gp h Rs (k+1) (rO R fresh (k+1)) (EB h Rs (rO R fresh (k+1)) fresh):=by
 have T2:∀n∈Rs,∀j,(rO R fresh (k+1)).lookup n=some j↔Rk h n j/\j<=k+1:=fun n hn j=>by
  unfold rO;rw[lookup_append,oI];by_cases hf:n∈fresh
  .rw[r.apart hf,ai5 hf,Option.none_or];have b:=((r.fr n).mp hf).2;constructor
   .intro e;cases e;exact⟨b,ai2 _⟩
   .rintro⟨c,_⟩;rw[c.eq b]
  .rw[ai0 hf,Option.or_none,r.rk n hn j];constructor
   .rintro⟨c,d⟩;exact⟨c,by omega⟩
   .rintro⟨c,d⟩;refine⟨c,?_⟩;by_cases q:j=k+1
    .rw[q]at c;exact absurd ((r.fr n).mpr ⟨hn,c⟩) hf
    .omega
 have ndk:(R.map (·.1)++fresh).Nodup:=akz.mpr ⟨r.nd,r.Su,fun a ha b hb e=>by
  rw[e]at ha;have z:=r.apart hb;obtain⟨x,hx,ex⟩:=ai7.mp ha;have:R.lookup b≠none:=by
   rw[<-ex];clear z ha hb T2
   revert hx
   generalize R=R';intro hx
   induction R' with
   |nil=>cases hx
   |cons y R' ih=>
    rw[ajz];cases q:x.1==y.1 with
    |true=>simp
    |false=>
     rcases aiZ.mp hx with z|z
     .rw[z,aka]at q;cases q
     .exact ih z
  exact this z⟩
 have half:gp h Rs (k+1) (rO R fresh (k+1)) (Rs.filter fun n=> !lv h (k+1) n&&lv h (k+2) n)->True:=fun _=>trivial;have M4:∀n∈Rs,inR (rO R fresh (k+1)) n=lv h (k+1) n:=fun n hn=>by
  unfold Pp.inR;rw[ajw,akZ];constructor
  .rintro⟨j,e⟩;obtain⟨a,b⟩:=(T2 n hn j).mp e;exact PM.iQ b a.at_
  .intro e;obtain⟨j,a,b⟩:=PM.Dp (k+1) e;exact⟨j,(T2 n hn j).mpr ⟨b,a⟩⟩
 refine⟨T2,fun x hx=>?_,?_,fun n=>?_,alz alr (PM.eN ako)⟩
 .rcases ajh.mp hx with z|z
  .exact r.sub x z
  .obtain⟨n,hn,rfl⟩:=ai7.mp z;exact((r.fr n).mp hn).1
 .unfold rO;rw[aiY,aj0];have:(fresh.map ((fun(x:Nd×Nat)=>x.1)∘fun n=>(n,k+1)))=fresh:=List.map_id' fresh;rw[this];exact ndk
 .unfold EB;rw[ajy,PM.bg];simp only[ajW,false_or,ajH,ajn,alh];constructor
  .rintro⟨⟨p,hp,hl⟩,h1,h2⟩;obtain⟨hn,hb⟩:=oF.mp hl;rw[M4 n hn]at h1;rw[yH (k:=k+1) fun m hm=>M4 m (hc n hn m hm)]at h2;refine⟨hn,h2,fun j hj=>?_⟩;cases z:lv h j n with
   |false=>rfl
   |true=>rw[PM.iQ (show j<=k+1 by omega) z]at h1;cases h1
  .rintro⟨hn,c⟩;obtain⟨m,hm,rm⟩:=vp c;refine⟨⟨m,(r.fr m).mpr ⟨hc n hn m hm,rm⟩,oF.mpr ⟨hn,hm⟩⟩,?_,?_⟩
   .rw[M4 n hn];exact c.low _ (by omega)
   .rw[yH (k:=k+1) fun m hm=>M4 m (hc n hn m hm)];exact c.at_
theorem FV(hc:∀n∈Rs,∀m∈bG h n,m∈Rs){k:Nat}(r:gp h Rs k R []):∀n∈Rs,∀j,R.lookup n=some j↔Rk h n j:=fun n hn j=>by
 rw[r.rk n hn j];refine⟨fun z=>z.1,fun z=>⟨z,Nat.le_of_not_lt fun lt=>?_⟩⟩;have down:∀d,∀n∈Rs,Rk h n (k+1+d)->False:=fun d=>by
  induction d with
  |zero=>exact fun n hn c=>(nomatch (r.fr n).mpr ⟨hn,c⟩)
  |succ d ih=>
   intro n hn c;obtain⟨m,hm,rm⟩:=vp (k:=k+d) (by rw[show k+d+2=k+1+(d+1) by omega];exact c);exact ih m (hc n hn m hm) (by rw[show k+1+d=k+d+1 by omega];exact rm)
 exact down (j-(k+1)) n hn (by rw[show k+1+(j-(k+1))=j by omega];exact z)
abbrev Pt:=top 43
theorem vj:aM ["fresh","grounds","leaning","ranks","leaners","pair","leaner"] ["fresh","grounds","leaning","ranks"] (aF Pt):=dc
structure fq(H:Hp)(gd ld:Addr)(h:Known)(Rs:List Nd)(kD oJ:List (List Key×V))(ls:List Addr):Prop where
 g:H gd=some (.dT kD)
 gk:lz H kD (bx h Rs)
 l:H ld=some (.dT oJ)
 lk:LKV H oJ ls (Rs.map fun n=>(n,bV (bx h Rs) n))
theorem fq.same{gd ld:Addr}{kD:List (List Key×V)}(d:fq H gd ld h Rs kD oJ ls)(s:aC H H'):fq H' gd ld h Rs kD oJ ls:=⟨s _ _ d.g,d.gk.same (aC.x s),s _ _ d.l,d.lk.1,d.lk.2.1,d.lk.2.2.1,Paired.a8 d.lk.2.2.2 fun _ _ z=>z.same (aC.x s)⟩
structure Small(h:Known)(Rs:List Nd):Prop where
 nd:Rs.Nodup
 len:Rs.length<=400000
 cl:∀n∈Rs,∀m∈bG h n,m∈Rs
 gs:∀n∈Rs,(au h n).length<=3/\(∀g∈au h n,g.length<=4)/\(au h n).flatten.length<=12
def OB:Sp:=fun vs H Q _=>∃fl fresh gd ld rd h Rs kD oJ ls R,vs=[.ref fl,.ref gd,.ref ld,.ref rd]/\aT H fl fresh/\fq H gd ld h Rs kD oJ ls/\Small h Rs/\(∀n∈fresh,n∈Rs)/\H rd=some (.dT (lj R))/\∀H' l,aC H H'->H l=none->aT H' l (EB h Rs R fresh)->Q (.ref l) H'
theorem oH{h:Known}{n:Nd}:∀{Rs:List Nd},n∈Rs->(bx h Rs).lookup n=some (au h n)
 | [],hn=>by cases hn
 |y::Rs,hn=>by
  show((y,au h y)::bx h Rs).lookup n=_;rw[ajz];by_cases e:n=y
  .subst e;simp
  .have:(n==y)=false:=ajt.mpr e;rw[this];exact oH ((aiZ.mp hn).resolve_left e)
theorem yG:∀{Rs:List Nd} {kD:List (List Key×V)} {n:Nd},lz H kD (bx h Rs)->n∈Rs->∃l,bc kD (bZ n)=some (.ref l)/\a9 H l (au h n):=fun{Rs kD n} hG hn=>by obtain⟨_,z⟩:=x8 (R:=fun v y=>∃l,v=V.ref l/\a9 H l y) n hG;obtain⟨v,e,l,ev,g⟩:=z _ (oH hn);exact⟨l,by rw[e,ev],g⟩
theorem J4{F:Nd->List Nd}(hL:LKV H oJ ls (Rs.map fun n=>(n,F n)))(nd:Rs.Nodup)(hn:n∈Rs):∃l,bc oJ (bZ n)=some (.ref l)/\aT H l (F n):=by
 obtain⟨e1,e2,e3,e4⟩:=hL;obtain⟨i,hi,ei⟩:=ajY hn;have hl:i<ls.length:=(by rw[e2,aiQ];exact hi);have at_:(Rs.map fun n=>(n,F n))[i]?=some (n,F n):=(by rw[ajd,aiW hi,ei];rfl);refine⟨ls[i],?_,?_⟩
 .rw[e1];exact EK (i:=i) (y:=F n) (by rw[aj0,show((fun(x:Nd×List Nd)=>x.1)∘fun n=>(n,F n))=id from rfl,amk];exact nd) at_ (aiW hl)
 .obtain⟨b,hb,hr⟩:=aR e4 (aiW hl);rw[aj0,ajd,aiW hi,ei]at hb;cases hb;exact hr
theorem xP{ns:List Nd}(h:ns.contains n=true):putK (seenOf ns) (bZ n) (.bl true)=seenOf ns:=by unfold putK;have:((seenOf ns).any fun kv=>decide (kv.1=bZ n))=true:=(by rw[ajX];exact⟨(bZ n,.bl true),ai7.mpr ⟨n,ajp.mp h,rfl⟩,by simp⟩);rw[this,ai5 rfl];have:∀kv∈seenOf ns,(if kv.1=bZ n then(kv.1,V.bl true)else kv)=kv:=(fun kv lX=>by obtain⟨m,_,rfl⟩:=ai7.mp lX;split<;>rfl);rw[aj6 this,List.map_id''];exact fun _=>rfl
theorem mU{ns:List Nd}:putK (seenOf ns) (bZ n) (.bl true)=seenOf (Vbkoac.union ns [n]):=by
 show _=seenOf (if ns.contains n=true then ns else ns++[n]);by_cases h:ns.contains n=true
 .rw[ai5 h];exact xP h
 .rw[ai0 h];exact nW (by simpa using h)
theorem eR:∀{l m:List Nd},l.Nodup->(∀x∈l,x∈m)->l.length<=m.length:=fun{l m} nd h=>by
 induction l generalizing m with
 |nil=>exact ajo _
 |cons x l ih=>
  rw[ajP]at nd;have hx:=h x (aiV ..);have:=ih (m:=m.erase x) nd.2 fun y hy=>(List.mem_erase_of_ne (fun q=>nd.1 (by rw[<-q];exact hy))).mpr (h y (aiS _ hy));rw[List.length_erase_of_mem hx]at this;have:0<m.length:=List.length_pos_of_mem hx;rw[ajc];omega
section
variable{K:W.Frag}
theorem QF(F:bL "newly_standing" Pt)(dF:iF 2):de 3 ["fresh","grounds","leaning","ranks"] OB:=by
 refine d9 vj
 .obtain⟨fl,fresh,gd,ld,rd,hh,Rs,kD,oJ,ls,R,rfl,_⟩:=h;rfl
 .obtain⟨fl,fresh,gd,ld,rd,hh,Rs,kD,oJ,ls,R,rfl,⟨RV,Ec,Co⟩,D,S,AA,jm,hQ⟩:=h;have hu:=bu hr;refine⟨_,aD (zS 4 vj.nd iB) (aD (bU ajm rfl (ax (pv 0)) (zG 5 vj.nd) (aE (bU ajm rfl (ax (dq hu (pv 2) (pv 5))) (zG 6 vj.nd) (aE (ee hu (pv 4) (pv 6) gN rfl))))) (aE (aH (jQ (fw (own:=[("pair",5)]) rfl vj.nd (gc (pv 4)) (cV rfl) (fun _ _ _ _ _=>zG 5 vj.nd) (fun _ _ _ _ _=>gI (jP (b9 (cJ hu (pv 5) (pv 3))) (jO (bF (aJ dF hr (cY (dq hu (pv 1) (pv 5)) (pv 3)))))).pt) (fun _ _ _ _ _=>pv 5)))))),?_⟩;intro e he;have ok0:aC H (upd H e (.dT [])):=zU he;let cond:Nd->Bool:=fun n=> !inR R n&&fQ R (au hh n);let acc:Nat->List Nd:=fun i=>Vbkoac.union [] ((fresh.take i).flatMap fun p=>bV (bx hh Rs) p);have DG:∀l:List Nd,∀m∈l.flatMap (fun p=>bV (bx hh Rs) p),m∈Rs:=(fun l m hm=>by obtain⟨p,hp,hm⟩:=ajH.mp hm;exact(oF.mp hm).1);have short:∀l:List Nd,(∀m∈l,m∈Rs)->(Vbkoac.union [] l).length<=Rs.length:=fun l hl=>eR (PM.eN ako) fun m hm=>hl m (by
   rcases PM.bg.mp hm with z|z
   .cases z
   .exact z)
  refine⟨_,Z,fl,Z,⟨_,ae.of (ok0 _ _ Ec)⟩,bO (K:=K) (a:=fl) (xs:=RV.map V.ref) (fun i σ H'=>∃v5 v6:Option V,σ=[some (.ref fl),some (.ref gd),some (.ref ld),some (.ref rd),some (.ref e),v5,v6]/\aC H H'/\H' e=some (.dT (seenOf (acc i)))) ⟨none,none,Z,ok0,aA⟩ (fun i σ H' _ ⟨_,_,_,s1,_⟩=>ae.of (s1 _ _ Ec)) ?_ ?_⟩
  .rintro i y σ H1 hi ⟨v5,v6,rfl,s1,uC⟩;obtain⟨a,ha,rfl⟩:=bT hi;obtain⟨p,hp,Sd⟩:=Co.lC ha;have hpR:p∈Rs:=AA p (ai1 hp);have D1:=D.same s1;obtain⟨ll,hv,ZV,KS,Qt⟩:=J4 D1.lk S.nd hpR;have abq:∀j,Vbkoac.union [] ((fresh.take i).flatMap (fun p=>bV (bx hh Rs) p)++(bV (bx hh Rs) p).take j)=Vbkoac.union (acc i) ((bV (bx hh Rs) p).take j):=fun j=>PM.cg _ _ _;refine⟨_,Z,_,Z,ld,_,Z,(show ba H1 ld (V.ref a) (some (V.ref ll)) by rw[<-hv];exact ba.t D1.l (s1 _ _ Sd)),ll,Z,⟨_,ae.of KS⟩,bO (K:=K) (a:=ll) (xs:=ZV.map V.ref) (fun j σ H'=>∃v6:Option V,σ=[some (.ref fl),some (.ref gd),some (.ref ld),some (.ref rd),some (.ref e),some (.ref a),v6]/\aC H H'/\H' ll=some (.lst (ZV.map V.ref))/\aI H' ZV (bV (bx hh Rs) p)/\H' e=some (.dT (seenOf (Vbkoac.union (acc i) ((bV (bx hh Rs) p).take j))))) ⟨v6,Z,s1,KS,Qt,uC⟩ (fun j σ H' _ ⟨_,_,_,h3,_⟩=>ae.of h3) ?_ ?_⟩
   .rintro j y σ H2 hj ⟨TC,rfl,s2,Qu,NJ,Ee⟩;obtain⟨b,hb,rfl⟩:=bT hj;obtain⟨m,hm,XX⟩:=NJ.lC hb;refine⟨_,Z,_,Z,e,_,Z,ji.t Ee XX ?_,?_⟩
    .unfold seenOf;rw[aiQ,<-abq j];have:=short ((fresh.take i).flatMap (fun p=>bV (bx hh Rs) p)++(bV (bx hh Rs) p).take j) (fun m' EZ=>by
      rcases ajh.mp EZ with z|z
      .exact DG (fresh.take i) m' z
      .exact(oF.mp (akU z)).1)
     have:=S.len;rw[ai6];omega
    .refine⟨_,Z,aC.upd s2 he,?_,?_,?_⟩
     .rw[aB (ak Qu Ee nofun)];exact Qu
     .exact aI.upd NJ (by rw[Ee];exact True.intro)
     .rw[aA,mU,aa hm,PM.cg]
   .rintro σ H2 ⟨TC,rfl,s2,Qu,NJ,Ee⟩;refine⟨_,_,Z,s2,?_⟩;rw[aiQ,Paired.length NJ,ai9]at Ee;rw[Ee];show some (HO.dT (seenOf (Vbkoac.union (acc i) _)))=some (HO.dT (seenOf (Vbkoac.union [] _)));rw[aa hp,aj9,PM.cg];simp[acc]
  .rintro σ H1 ⟨v5,v6,rfl,s1,uC⟩;rw[aiQ,Paired.length Co]at uC;have ea:(acc fresh.length).filter cond=EB hh Rs R fresh:=(by show(Vbkoac.union [] _).filter _=(Vbkoac.union [] _).filter _;rw[ai9]);have XY:∀m∈acc fresh.length,m∈Rs:=fun m hm=>by
    rcases PM.bg.mp hm with z|z
    .cases z
    .exact DG _ m z
   have CZ:=short _ (DG (fresh.take fresh.length));generalize hA:acc fresh.length=A at uC ea XY;have hAl:A.length<=Rs.length:=(by rw[<-hA];exact CZ);refine⟨e,_,uC,True.intro,fun od=>?_⟩;have Yr:∀od,aC H (upd H1 e (.br od (.dT (seenOf A)))):=fun od=>aC.upd s1 he;refine⟨_,Z,e,od,Z,.inr ⟨seenOf A,aA,fun fr uB=>oN (J:=DJ e od (seenOf A)) (n:=(seenOf A).length) (fun i H'=>∃qG,aC (upd H1 e (.br od (.dT (seenOf A)))) H'/\H' fr=some (.lst (qG.map V.ref))/\aI H' qG ((A.take i).filter cond)) ⟨[],zU uB,aA,.nil⟩ (fun i H' hi ⟨_,s1,_⟩=>⟨s1 _ _ aA,hi⟩) ?_ ?_⟩⟩
   .rintro i x H7 H8 hi ⟨qG,s7,rB,EY⟩ ⟨eH,kk,v,q,jn,rfl,hq⟩;subst eH;obtain⟨m,hm,ek⟩:∃m,A[i]?=some m/\(kk,v)=(bZ m,V.bl true):=by
     unfold seenOf at jn;rw[ajd]at jn;cases e:A[i]? with
     |none=>rw[e]at jn;cases jn
     |some m=>rw[e]at jn;exact⟨m,Z,(ajr jn).symm⟩
    cases ek;have VT:=XY m (ai1 hm);have D7:=D.same (aC.trans (Yr od) s7);have M9:=aC.trans (Yr od) s7 _ _ jm;obtain⟨gl,hgv,pY⟩:=yG D7.gk VT;have hG:=S.gs m VT;have LY:(A.take (i+1)).filter cond=(A.take i).filter cond++(if cond m=true then [m]else []):=by
     rw[aa hm,aj8];congr 1;by_cases c:cond m=true
     .rw[ai5 c];simp[c]
     .rw[ai0 c];simp[c]
    have no:cond m=false->(A.take (i+1)).filter cond=(A.take i).filter cond:=(fun c=>by rw[LY,ai0 (by rw[c];exact ajg),ajs]);refine⟨Z,?_⟩;refine⟨_,Z,_,Z,rd,_,Z,ba.t M9 hq,_,Z,?_⟩;rw[dm,aj2];show(if(!inR R m)=true then _ else _);refine aO (fun h1=>?_) (fun h1=>?_)
    .refine⟨_,Z,_,Z,gd,_,Z,(show ba H8 gd (V.ref q) (some (V.ref gl)) by rw[<-hgv];exact ba.t D7.g hq),_,Z,gl,au hh m,rd,R,Z,pY,by omega,(fun g hg=>by have:=hG.2.1 g hg;omega),M9,fun H9 s9=>⟨_,Z,?_⟩⟩;have rA:=s9 _ _ rB;refine aO (fun h2=>?_) (fun h2=>?_)
     .have c:cond m=true:=(by show(!inR R m&&fQ R (au hh m))=true;rw[h1,h2];rfl);refine⟨_,Z,_,rA,?_,qG++[q],aC.upd (aC.trans s7 s9) uB,?_,?_⟩
      .rw[aiQ,Paired.length EY,ai6];have:=ajk cond (A.take i);rw[ajb]at this;have:=S.len;omega
      .rw[aA,aiY];rfl
      .rw[LY,ai5 c];exact aI.upd (aI.snoc (s9 _ _ hq) (Paired.a8 EY fun _ _ z=>s9 _ _ z)) (by rw[rA];exact True.intro)
     .have c:cond m=false:=(by show(!inR R m&&fQ R (au hh m))=false;have:fQ R (au hh m)=false:=(by simpa using h2);rw[this,akp]);exact⟨qG,aC.trans s7 s9,rA,by rw[no c];exact Paired.a8 EY fun _ _ z=>s9 _ _ z⟩
    .have c:cond m=false:=(by show(!inR R m&&fQ R (au hh m))=false;have:(!inR R m)=false:=(by simpa using h1);rw[this,akB]);exact aO nofun (fun _=>⟨qG,s7,rB,by rw[no c];exact EY⟩)
   .rintro H7 ⟨qG,s7,rB,EY⟩;have Eb:(seenOf A).length=A.length:=aiQ _;rw[Eb,ai9,ea]at EY;have Xi:H7 e=some (.br od (.dT (seenOf A))):=s7 _ _ aA;refine⟨⟨Xi,ai2 _⟩,Xi,?_⟩;have Tx:aC H1 (upd H7 e (.dT (seenOf A))):=aC.unlock uC s7;have nfe:fr≠e:=(fun q=>by rw[q,Xi]at rB;cases rB);have aaA:H fr=none:=aC.free (Yr od) uB;exact hQ _ fr (aC.trans s1 Tx) aaA ⟨qG,by rw[aB nfe];exact rB,aI.upd EY (by rw[Xi];exact True.intro)⟩
end
end Pp
namespace L2
open PySem PySem.Spec PyProof.Rows
structure A6(K:W.Frag)(x qual:Str)(st:Stmt)(f:Addr)(fd:FuncData)(c:Addr):Prop where
 ex:∃(oc:Value) (od:Option Addr) (kV doc pm:Value) (an:Option Addr) (ct:Value) (uo:Array (Option Value)),
  fd=W.fnOf x qual (du st) (cX st) (aF st) .none kV doc pm an (.ref c) ct/\K.lookup f=some ⟨oc,od,.func fd,uo⟩/\W.codeIn K (.ref c) qual=true
 kp:W.keepIn K (.ref f)=true
theorem A6.ok{P:Program}{w:World}{K:W.Frag}{mg:Str->Option Value}{base:Heap}{x qual:Str}{st:Stmt}{f c:Addr}{fd:FuncData}{N ps:List Str}{k:Nat}{sp:Sp}(F:A6 K x qual st f fd c)(S:aM N ps (aF st))(len:∀vs H Q E,sp vs H Q E->vs.length=ps.length) (lB:∀(A:Around) (outer:List Env) (s:Shared) (H:Hp) (vs:List V) (Q:VK) (E:XK),cu k (A.deeper (envOfC qual (aF st) s.heap.objs.size f (.ref c)))->sp vs H Q E->∃t,BG (uR vT P w K mg base N qual (aF st) f (.ref c) A outer s H E).ON (cX st) t/\t {nx:=fun _ H'=>Q .cW H',rt:=Q} (start N vs) H):gU P w K mg base vT (k+1) f fd ps sp:=by obtain⟨oc,od,kV,doc,pm,an,ct,uo,rfl,lk,uD⟩:=F.ex;refine Oo lk uD S len fun A outer s H vs Q E hr tw=>?_;obtain⟨t,h,q⟩:=lB A outer s H vs Q E hr tw;exact⟨t,h.ON,q⟩
structure ya(P:Program)(w:World)(K:W.Frag)(mg:Str->Option Value)(base:Heap)(k:Nat)(x:Str)(ps:List Str)(sp:Ow):Prop where
 ex:∃f fd,xB P w K mg base vT k f fd ps sp/\mg x=some (.ref f)/\W.keepIn K (.ref f)=true/\Binds K fd ps []
end L2
namespace Pp
open PySem PySem.Spec PyProof.Rows L2
open PM (ao bS fS Rk)
variable{C:Cs}{P:Program}{w:World}{mg:Str->Option Value}{base:Heap}{h:Known}{H H':Hp}{a f l:Addr}{o:HO}{m n:Nd}{fd:FuncData}{p:Nat}{kD aP:List (List Key×V)}{Gs:List (Nd×List (List Nd))}{R:List (Nd×Nat)}{Rs:List Nd}
theorem iL(ok:fS h){F:Nd->List Nd}(hF:∀n,∀m∈F n,m∈below h n)(AQ:∀n,(F n).length<=12)(a:Nd):(ao F Vbkoac.MANY [a]).length<=100000:=by
 have nd:(ao F Vbkoac.MANY [a]).Nodup:=(by rw[PM.dJ];exact PM.vo _ _ (by simp));have sub:∀m∈ao F Vbkoac.MANY [a],m.2∈PM.Ep h a.2/\(m=a\/∃n,n.2∈PM.Ep h a.2/\m∈F n):=(by rw[PM.dJ];refine PM.jM (P:=fun m=>m.2∈PM.Ep h a.2/\(m=a\/∃n,n.2∈PM.Ep h a.2/\m∈F n)) (fun n hn m hm=>⟨PM.qF hn.1 (hF n m hm),.inr ⟨n,hn.1,hm⟩⟩) _ _ fun n hn=>?_;rw[aiU.mp hn];exact⟨aiV .., .inl rfl⟩);have inn:∀m∈ao F Vbkoac.MANY [a],m∈a::(PM.box h a.2).flatMap F:=fun m hm=>by
  rcases(sub m hm).2 with e|⟨n,hn,XW⟩
  .rw[e];exact aiV ..
  .refine aiS _ (ajH.mpr ⟨n,?_,XW⟩);obtain⟨p,hp⟩:=PM.qg (h:=h) (n:=n) (fun z=>by have:=hF n m XW;rw[z]at this;cases this);exact PM.og hp hn
 have l1:=eR nd inn;have l2:((PM.box h a.2).flatMap F).length<=12*(PM.box h a.2).length:=by
  generalize PM.box h a.2=B
  induction B with
  |nil=>simp
  |cons b B ih=>
   rw[ajD,aiT,ajc];have:=AQ b;omega
 have l3:=PM.oj ok a.2;have:Vbkoac.MANY=1000:=rfl;rw[ajc]at l1;omega
theorem K0:∀{gs:List (List Nd)},(∀g∈gs,g.length<=4)->gs.flatten.length<=4*gs.length
 | [],_=>by simp
 |g::gs,h=>by rw[akV,aiT,ajc];have:=h g (aiV ..);have:=K0 fun x hx=>h x (aiS _ hx);omega
theorem ja(k:aq C H a h)(n:Nd):(au h n).length<=3/\(∀g∈au h n,g.length<=4)/\(au h n).flatten.length<=12:=by
 obtain⟨dx,fs,pd,rl,aP,rs,e,f1,f2,e1,p1,e2,p2⟩:=k.ex;have key:(au h n).length<=3/\∀g∈au h n,g.length<=4:=by
  unfold au;cases hp:paperOf h n.1 with
  |none=>exact⟨ajo _,fun g hg=>(nomatch hg)⟩
  |some p=>
   simp only;by_cases o:Vbkoac.own h p n.2=true
   .rw[ai5 o];obtain⟨_,v2⟩:=gh (C:=C) (H:=H) n.1 p1;obtain⟨c,_,wU⟩:=v2 p hp;refine⟨by rw[aiQ];exact wU.fD.1,fun g hg=>?_⟩;obtain⟨g0,h0,rfl⟩:=ai7.mp hg;rw[aiQ];exact wU.fD.2 g0 h0
   .rw[ai0 o];exact⟨ajo _,fun g hg=>(nomatch hg)⟩
 have:=K0 key.2;exact⟨key.1,key.2,by omega⟩
theorem CellsOk.cons{L:List (Addr×Obj)}{cells:List (Str×Addr)}{fs:List Str}{fvs:List V}(x:Addr×Obj)(h:CellsOk L cells fs fvs):CellsOk (x::L) cells fs fvs:=⟨h.len,h.inj,fun j y v a b=>let⟨c,o,u,e,m,r⟩:=h.at_ j y v a b;⟨c,o,u,e,aiS _ m,r⟩,fun y c e=>let⟨o,v,m,r⟩:=h.only y c e;⟨o,v,aiS _ m,r⟩,h.has⟩
theorem sQ{TT:List (Addr×List (Pos×Str))}{PT:Addr}{ls:List (Pos×Str)}(t:bY TT H)(s:aw H H')(tk:ou H' PT ls)(ot:∀b qs,b≠PT->H b=some (.hU qs)->H' b=some (.hU qs))(u:∀x∈TT,x.1=PT->x.2=ls):bY TT H':=fun x hx=>by
 by_cases e:x.1=PT
 .rw[e,u x hx e];exact tk
 .obtain⟨ps,a,b,c⟩:=t x hx;refine⟨ps,ot _ _ e a,b,fun q hq=>?_⟩;rcases c q hq with z|⟨d,z1,z2⟩
  .exact .inl z
  .exact .inr ⟨d,z1,s.code z2⟩
theorem lz.OV{d:Addr}{iZ:List (List Key×V)}(hd:H d=some (.dT iZ))(h:lz H aP Gs):lz (upd H d o) aP Gs:=Paired.a8 h fun _ _ ⟨e,l,e2,g⟩=>⟨e,l,e2,a9.lock hd g⟩
theorem MA{k:Nat}(h:R.lookup n=none):putK (lj R) (bZ n) (V.int (k:Nat))=lj (R++[(n,k)]):=by
 rw[iz]
 .unfold lj;rw[aiY];rfl
 .intro kv lX e;have:=dm R n;rw[h]at this;unfold bc at this;have nf:(lj R).find? (fun kv=>decide (kv.1=bZ n))=none:=by
   cases q:(lj R).find? (fun kv=>decide (kv.1=bZ n))with
   |none=>rfl
   |some z=>rw[q]at this;cases this
  have:=akg.mp nf kv lX;simp[e]at this
theorem fq.put{gd ld rd:Addr}{oJ:List (List Key×V)}{ls:List Addr}{kr:List (List Key×V)}(d:fq H gd ld h Rs kD oJ ls)(hr:H rd=some (.dT kr))(n1:gd≠rd)(n2:ld≠rd):fq (upd H rd o) gd ld h Rs kD oJ ls:=⟨by rw[aB n1];exact d.g,lz.OV hr d.gk,by rw[aB n2];exact d.l,d.lk.1,d.lk.2.1,d.lk.2.2.1,Paired.a8 d.lk.2.2.2 fun _ _ z=>aT.lock hr z⟩
theorem pU{x:Str}{fs:List Str}{sc:Scope}(h:(decide (sc.kind= .function)&& !sc.isCoroutine&& !sc.isGenerator&&sc.names.all (fun y=> !decide (y.2= .cell))&&decide (sc.names.lookup x=some .local)&&fs.all (fun y=>decide (sc.names.lookup y=some .free))&&sc.names.all (fun y=> !decide (y.2= .free)||decide (y.1∈fs)))=true):A5 x fs sc:=by simp only[ajn,ajA,ajQ,alh,alA,amf]at h;obtain⟨⟨⟨⟨⟨⟨h1,h2⟩,h3⟩,h4⟩,h5⟩,h6⟩,h7⟩:=h;exact⟨h1,h2,h3,h4,h5,h6,fun y hy=>(h7 _ (ajJ hy)).resolve_left fun z=>z rfl⟩
def under(h:Known)(a:Nd):List Nd:=ao (bG h) Vbkoac.MANY [a]
def dw(h:Known)(a:Nd)(R:List (Nd×Nat)):Prop:=∀m∈under h a,∀j,R.lookup m=some j↔Rk h m j
def lE(h:Known)(ns:List Nd):List Nat:=ns.map (·.2)++h.papers.map fun p=>p.from_
structure GU(h:Known)(ns W G:List Nd)(p:Nat):Prop where
 w:W=ns++G.flatMap (bG h)
 nd:G.Nodup
 seen:∀x∈W.take p,x∈G
 day:∀x∈W,x.2∈lE h ns
 src:∀x∈G,x∈W.take p
 le:p<=W.length
theorem Ni{ns:List Nd}(hn:n.2∈lE h ns)(hm:m∈bG h n):m.2∈lE h ns:=by
 obtain⟨g,hg,KP⟩:=akJ.mp hm;obtain⟨p,hp,_,g0,h0,e⟩:=wb hg;rw[e]at KP;obtain⟨r,hr,er⟩:=ai7.mp KP;rw[<-er];unfold nodeOf;simp only;split
 .exact hn
 .exact ajI _ (ai7.mpr ⟨p,(PM.cG hp).1,Z⟩)
theorem LI(e:bG h n≠[]):∃p,paperOf h n.1=some p:=by
 cases hp:paperOf h n.1 with
 |some p=>exact⟨p,rfl⟩
 |none=>
  refine absurd ?_ e;unfold bG au;rw[hp];rfl
def Nh(h:Known)(ds:List Nat):List Nd:=(h.papers.map fun p=>p.id).flatMap fun i=>ds.map fun e=>(i,e)
theorem LG(h:Known)(ds:List Nat):(Nh h ds).length=h.papers.length*ds.length:=by unfold Nh;rw[PM.uH _ ds.length _ (fun x _=>aiQ _),aiQ]
theorem LF{ds:List Nat}{p:Paper}(e:paperOf h n.1=some p)(hd:n.2∈ds):n∈Nh h ds:=ajH.mpr ⟨n.1,ai7.mpr ⟨p,PM.cG e⟩,ai7.mpr ⟨n.2,hd,rfl⟩⟩
theorem AU{F:Nd->List Nd}(AQ:∀n,(F n).length<=12):∀G:List Nd,(G.flatMap F).length<=12*(G.filter fun n=> !(F n).isEmpty).length
 | []=>by simp
 |b::B=>by
  rw[ajD,aiT,amL];have ih:=AU AQ B;have:=AQ b;cases e:F b with
  |nil=>
   simp only[List.isEmpty_nil,ana,amU];rw[ai0 ajg];omega
  |cons x l=>
   rw[e]at this;simp only[List.isEmpty_cons,Bool.not_false,al2,ajc]at this⊢;omega
theorem GU.fD{ns W G:List Nd}(g:GU h ns W G p)(ok:fS h)(AQ:∀n,(bG h n).length<=12)(yk:ns.length<=1000):W.length<=300000:=by have l1:=AU AQ G;have l2:=(eR (l:=G.filter fun n=> !(bG h n).isEmpty) (m:=Nh h (lE h ns)) (alz alr g.nd) fun x hx=>by obtain⟨h1,h2⟩:=ajy.mp hx;obtain⟨q,hq⟩:=LI (h:=h) (n:=x) (fun z=>by rw[z]at h2;cases h2);exact LF hq (g.day x (akU (g.src x h1))));rw[LG]at l2;have l3:(lE h ns).length=ns.length+h.papers.length:=(by unfold lE;rw[aiT,aiQ,aiQ]);rw[l3]at l2;have:=ok.fD;have l4:h.papers.length*(ns.length+h.papers.length)<=24*1024:=Nat.mul_le_mul this (by omega);rw[g.w,aiT];omega
theorem GU.EN{ns W G:List Nd}(g:GU h ns W G p):G.length<=W.length:=ajq (eR g.nd g.src) (by rw[ajb];omega)
theorem GU.start{ns:List Nd}:GU h ns ns [] 0:=⟨by simp,ako,fun x hx=>(by simp at hx),fun x hx=>aj1 _ (ai7.mpr ⟨x,hx,rfl⟩),fun x hx=>(nomatch hx),ajo _⟩
theorem GU.old{ns W G:List Nd}(g:GU h ns W G p)(hn:W[p]?=some n)(hg:n∈G):GU h ns W G (p+1):=⟨g.w,g.nd,fun x hx=>by
  rw[aa hn]at hx;rcases ajh.mp hx with z|z
  .exact g.seen x z
  .rw[aiU.mp z];exact hg,g.day,fun x hx=>by rw[aa hn];exact aj1 _ (g.src x hx),(ai3.mp hn).1⟩
theorem GU.new{ns W G:List Nd}(g:GU h ns W G p)(hn:W[p]?=some n)(hg:n∉G):GU h ns (W++bG h n) (G++[n]) (p+1):=by
 have hp:=(ai3.mp hn).1;have ht:(W++bG h n).take (p+1)=W.take (p+1):=amO hp;refine⟨by rw[g.w,aj9,ajE];simp,akz.mpr ⟨g.nd,by simp,fun a ha b hb e=>hg (by rw[<-aiU.mp hb,<-e];exact ha)⟩,fun x hx=>?_,fun x hx=>?_,fun x hx=>?_,?_⟩
 .rw[ht,aa hn]at hx;rcases ajh.mp hx with z|z
  .exact aj1 _ (g.seen x z)
  .exact ajI _ z
 .rcases ajh.mp hx with z|z
  .exact g.day x z
  .exact Ni (g.day n (ai1 hn)) z
 .rw[ht,aa hn];rcases ajh.mp hx with z|z
  .exact aj1 _ (g.src x z)
  .exact ajI _ z
 .rw[aiT];omega
structure Under(h:Known)(ns G:List Nd):Prop where
 nd:G.Nodup
 fD:G.length<=300000
 cl:∀n∈G,∀m∈bG h n,m∈G
 has:∀n∈ns,n∈G
 day:∀x∈G,x.2∈lE h ns
theorem GU.end_{ns W G:List Nd}(g:GU h ns W G p)(ok:fS h)(AQ:∀n,(bG h n).length<=12)(yk:ns.length<=1000)(hp:W.length<=p):Under h ns G:=by
 have all:∀x∈W,x∈G:=fun x hx=>g.seen x (by rw[aky hp];exact hx);refine⟨g.nd,ajq g.EN (g.fD ok AQ yk),fun n hn m hm=>all m ?_,fun n hn=>all n ?_,fun x hx=>g.day x (akU (g.src x hx))⟩
 .rw[g.w];exact ajI _ (ajH.mpr ⟨n,hn,hm⟩)
 .rw[g.w];exact aj1 _ hn
theorem Under.all{ns G:List Nd}(u:Under h ns G)(hn:n∈ns):∀m∈under h n,m∈G:=by unfold under;rw[PM.dJ];exact PM.jM (P:=fun m=>m∈G) (fun x hx y hy=>u.cl x hx y hy) _ _ fun x hx=>by rw[aiU.mp hx];exact u.has n hn
theorem mG{h:Known}{n:Nd}:∀{Rs:List Nd},n∉Rs->(bx h Rs).lookup n=none
 | [],_=>rfl
 |y::Rs,hn=>by rw[aiZ,not_or]at hn;show((y,au h y)::bx h Rs).lookup n=_;rw[ajz,ajt.mpr hn.1];exact mG hn.2
theorem GR(hG:lz H kD (bx h Rs)):(bc kD (bZ n)).isSome=decide (n∈Rs):=by
 by_cases hn:n∈Rs
 .obtain⟨l,e,_⟩:=yG hG hn;rw[e,ai8 hn];rfl
 .obtain⟨z,_⟩:=x8 (R:=fun v y=>∃l,v=V.ref l/\a9 H l y) n hG;rw[z (mG hn),ajl hn];rfl
def lL:Option HO->Prop
 |some (.lst _)=>False
 |some (.tup _)=>False
 |_=>True
theorem xF(h:H a=some o):upd H a o=H:=by
 funext b;by_cases e:b=a
 .rw[e,aA,h]
 .rw[aB e]
theorem aI.put{as:List Addr}{ns:List Nd}(h:aI H as ns)(n:lL (H a)):aI (upd H a o) as ns:=Paired.a8 h fun b m e=>by show upd H a o b=_;rw[aB (fun q=>by rw[<-q,show H b=_ from e]at n;exact n)];exact e
theorem aT.put{g:List Nd}(h:aT H l g)(n:lL (H a)):aT (upd H a o) l g:=by obtain⟨as,e,q⟩:=h;exact⟨as,by rw[aB (fun q=>by rw[<-q,e]at n;exact n)];exact e,aI.put q n⟩
theorem a9.put{gs:List (List Nd)}(h:a9 H l gs)(n:lL (H a)):a9 (upd H a o) l gs:=by obtain⟨ls,e,q⟩:=h;exact⟨ls,by rw[aB (fun q=>by rw[<-q,e]at n;exact n)];exact e,Paired.a8 q fun _ _ z=>z.put n⟩
theorem lz.put(h:lz H aP Gs)(n:lL (H a)):lz (upd H a o) aP Gs:=Paired.a8 h fun _ _ ⟨e,l,e2,g⟩=>⟨e,l,e2,g.put n⟩
theorem aC.put(s:aC H H'):aC (upd H a o) (upd H' a o):=fun b u e=>by
 by_cases q:b=a
 .rw[q,aA]at e⊢;exact e
 .rw[aB q]at e⊢;exact s _ _ e
abbrev off(H:Hp)(a:Addr):Hp:=upd H a (.Lc 0 0)
theorem QI:lL (off H a a):=by show lL (upd H a (.Lc 0 0) a);rw[aA];exact True.intro
theorem ip{b:Addr}{u:HO}(n:a≠b):upd (upd H a o) b u=upd (upd H b u) a o:=by
 funext c;by_cases e:c=a
 .rw[e,aB n,aA,aA]
 .by_cases e2:c=b
  .rw[e2,aA,aB (ajC n),aA]
  .rw[aB e2,aB e,aB e,aB e2]
theorem lz.on(h:lz (off H a) aP Gs)(e:H a=some o):lz H aP Gs:=by have:=lz.put (o:=o) h QI;rw[eX,xF e]at this;exact this
abbrev Yo:=top 35
theorem FU:aM ["known","started","grounds","waiting","place","pair"] ["known","started"] (aF Yo):=dc
def Tp(C:Cs):Sp:=fun vs H Q _=>∃ka h l ns,vs=[.ref ka,.ref l]/\aq C H ka h/\fS h/\aT H l ns/\ns.length<=1000/\∀H' d gk G,aC H H'->H d=none->H' d=some (.dT gk)->lz H' gk (bx h G)->Under h ns G->Q (.ref d) H'
section
variable{K:W.Frag}
theorem UO(F:bL "grounds_under" Yo)(T:Txt K mg C)(dG:eD 4)(dA:jW 4):de 5 ["known","started"] (Tp C):=by
 refine d9 FU
 .obtain⟨ka,h,l,ns,rfl,_⟩:=h;rfl
 .obtain⟨ka,hh,l,ns,rfl,hK,ok,⟨as0,hl,hn0⟩,yk,hQ⟩:=h;have hu:=bu hr;refine⟨_,aD (zS 2 FU.nd iB) (aD (zS 3 FU.nd (pP yS (by rfl) T.dZ PyProof.Rows.Boot.«list» (bM (pv 1)))) (aD (zS 4 FU.nd aK) (aD (i0 ajm (aY n9 (pv 4) (bA az (by rfl) T.dZ ajK (bM (pv 3)))) (aD (zS 5 FU.nd (af aX (pv 3) (pv 4))) (aD (aZ (b9 (cJ hu (pv 5) (pv 2))) (aD (ee hu (pv 2) (pv 5) (jQ (aJ dG hr (cY (pv 0) (pv 5)))) rfl) (aE (bp (fN aju akn akm gv (pv 3) (bM (aJ dA hr (bM (dq hu (pv 2) (pv 5))))))))) aN) (aE (xl (i:=4) FU.nd rfl (Or.inl rfl) aK yA))))) (aE (aH (pv 2)))))),?_⟩;have fD:=fun m=>ja hK m;have AQ:∀m,(bG hh m).length<=12:=fun m=>(fD m).2.2;intro gd wV;have s0:aC H (upd H gd (.dT [])):=zU wV;refine⟨_,Z,l,_,Z,.inl (ae.of (s0 _ _ hl)),fun wl CY=>?_⟩;have SR:H wl=none:=aC.free s0 CY;have W8:wl≠gd:=(fun q=>by rw[q,aA]at CY;cases CY);refine kL (fun σ H'=>∃(p:Nat) (W G:List Nd) (ws:List Addr) (gk:List (List Key×V)) (v5:Option V),σ=[some (.ref ka),some (.ref l),some (.ref gd),some (.ref wl),some (.int p),v5]/\aC H H'/\H' wl=some (.lst (ws.map V.ref))/\aI H' ws W/\H' gd=some (.dT gk)/\lz (off H' wl) gk (bx hh G)/\GU hh ns W G p) (fun(σ:L2.St) _=>match σ[4]? with|some (some (V.int p))=>300001-p.toNat|_=>0) ⟨0,ns,[],as0,[],none,rfl,aC.upd s0 SR,aA,?_,?_,.nil,GU.start⟩ ?_ ?_
  .exact aI.upd (Paired.a8 hn0 fun _ _ z=>s0 _ _ z) (by rw[CY];exact True.intro)
  .rw[aB (ajC W8),aA]
  .rintro σ H' ⟨p,W,G,ws,gk,v5,rfl,s1,EU,KO,NK,hkO,gu⟩;have Xe:=hkO.on EU;have Ea:ws.length=W.length:=Paired.length KO;have Vq:=gu.fD ok AQ yk;refine⟨_,Z,_,Z,wl,_,Z,.inl (ae.of EU),_,_,Z,Z,_,Z,?_⟩;refine aO (fun hc=>?_) (fun hc=>?_)
   .have hp:p<W.length:=(by have:=aja hc;rw[aiQ,Ea]at this;omega);obtain⟨n,Qp⟩:∃n,W[p]?=some n:=⟨_,aiW hp⟩;obtain⟨a,hap,G9⟩:=KO.get Qp;refine⟨_,Z,_,Z,wl,_,_,_,Z,Z,ae.of EU,aS (v:=V.ref a) (by rw[ajd,hap];rfl),?_⟩;refine⟨_,Z,_,Z,gd,_,Z,ba.t NK G9,_,Z,?_⟩;rw[GR Xe];refine aO (fun wZ=>?_) (fun wZ=>?_)
    .have XT:n∉G:=(by simpa using wZ);refine⟨wl,_,EU,True.intro,fun od=>?_⟩;have sL:aC H (upd H' wl (.br od (.lst (ws.map V.ref)))):=aC.upd s1 SR;have Zq:TupAt (upd H' wl (.br od (.lst (ws.map V.ref)))) a n:=(by show upd H' wl _ a=_;rw[aB (ak G9 EU nofun)];exact G9);refine⟨_,Z,_,Z,ka,hh,a,n,Z,hK.same (aC.x sL),Zq,fun H2 gl s2 pY Vl=>?_⟩;have hw2:H2 wl=some (.br od (.lst (ws.map V.ref))):=s2 _ _ aA;have ZD:lL (H2 wl):=(by rw[hw2];exact True.intro);refine⟨hw2,?_⟩;have b0:aC H' (upd H2 wl (.lst (ws.map V.ref))):=aC.unlock EU s2;have Vk:a9 (off (upd H2 wl (.lst (ws.map V.ref))) wl) gl (au hh n):=(by rw[off,eX];exact Vl.put ZD);have Vh:lz (off (upd H2 wl (.lst (ws.map V.ref))) wl) gk (bx hh G):=hkO.same (aC.x (aC.put b0));generalize upd H2 wl (.lst (ws.map V.ref))=Gy at b0 Vk Vh;have GO:=b0 _ _ NK;have ndg:∀kv∈gk,kv.1≠bZ n:=(fun kv lX e=>by have ks:=lz.keys Xe;rw[jX]at ks;have:bZ n∈gk.map (·.1):=ai7.mpr ⟨kv,lX,e⟩;rw[ks]at this;obtain⟨m',EZ,em⟩:=ai7.mp this;rw[iP.mp em]at EZ;exact XT EZ);have ZS:gk.length=G.length:=(by have:=Paired.length Xe;unfold bx at this;rw[this,aiQ]);have kF:=gu.EN;refine⟨_,Z,_,Z,gd,_,Z,ji.t GO (b0 _ _ G9) (by rw[ZS,ai6];omega),?_⟩;have IH:m9 (Gy gd):=(by rw[GO];exact True.intro);have hgO:(off Gy wl) gd=some (.dT gk):=(by show upd Gy wl _ gd=_;rw[aB (ajC W8)];exact GO);have Q0:lz (off (upd Gy gd (.dT (putK gk (bZ n) (.ref gl)))) wl) (putK gk (bZ n) (.ref gl)) (bx hh (G++[n])):=(by have eo:off (upd Gy gd (.dT (putK gk (bZ n) (.ref gl)))) wl=upd (off Gy wl) gd (.dT (putK gk (bZ n) (.ref gl))):=ip (ajC W8);rw[eo,iz ndg];unfold bx;rw[aiY];exact bC ⟨rfl,gl,rfl,a9.lock hgO Vk⟩ (lz.OV hgO Vh));have s3:aC H (upd Gy gd (.dT (putK gk (bZ n) (.ref gl)))):=aC.upd (aC.trans s1 b0) wV;have SS:upd Gy gd (.dT (putK gk (bZ n) (.ref gl))) wl=some (.lst (ws.map V.ref)):=(by rw[aB W8];exact b0 _ _ EU);have hn3:aI (upd Gy gd (.dT (putK gk (bZ n) (.ref gl)))) ws W:=aI.upd (Paired.a8 KO fun _ _ z=>b0 _ _ z) IH;have U3:TupAt (upd Gy gd (.dT (putK gk (bZ n) (.ref gl)))) a n:=(by show upd Gy gd _ a=_;rw[aB (ak (b0 _ _ G9) GO nofun)];exact b0 _ _ G9);have HE:upd Gy gd (.dT (putK gk (bZ n) (.ref gl))) gd=some (.dT (putK gk (bZ n) (.ref gl))):=aA;generalize upd Gy gd (.dT (putK gk (bZ n) (.ref gl)))=H3 at Q0 s3 SS hn3 U3 HE;have hk3:=Q0.on SS;obtain⟨gl3,hv3,uA⟩:=yG hk3 (ajI G (aiU.mpr rfl));refine⟨_,Z,.inl ⟨Z,_,ae.of SS⟩,_,Z,_,Z,gd,_,Z,(show ba H3 gd (V.ref a) (some (V.ref gl3)) by rw[<-hv3];exact ba.t HE U3),gl3,au hh n,Z,uA,(by rw[ai6];have:=(fD n).2.2;omega),fun H4 rl s4 yi ⟨rs,yB,Ob⟩=>?_⟩;have gu':=gu.new Qp XT;have ZQ:rs.length=(bG hh n).length:=Paired.length Ob;have M5:=s4 _ _ SS;refine⟨wl,rl,_,_,Z,Z,M5,yB,(by rw[aiQ,aiQ,Ea,ZQ,ai6];have:=AQ n;omega),?_⟩;have YN:m9 (H4 wl):=(by rw[M5];exact True.intro);refine⟨_,Z,_,_,Z,Z,⟨p+1,W++bG hh n,G++[n],ws++rs,putK gk (bZ n) (.ref gl),_,Z,aC.upd (aC.trans s3 s4) SR,?_,?_,?_,?_,gu'⟩,?_⟩
     .rw[aA,aiY]
     .exact aI.upd (jT (Paired.a8 hn3 fun _ _ z=>s4 _ _ z) Ob) YN
     .rw[aB (ak (s4 _ _ HE) M5 nofun)];exact s4 _ _ HE
     .rw[off,eX];exact Q0.same (aC.x (aC.put s4))
     .show 300001-((p:Int)+1).toNat<300001-(p:Int).toNat;omega
    .have XT:n∈G:=by
      cases q:decide (n∈G)with
      |true=>exact aja q
      |false=>rw[q]at wZ;exact absurd rfl wZ
     refine⟨_,Z,_,_,Z,Z,⟨p+1,W,G,ws,gk,_,Z,s1,EU,KO,NK,hkO,gu.old Qp XT⟩,?_⟩;show 300001-((p:Int)+1).toNat<300001-(p:Int).toNat;omega
   .have hp:W.length<=p:=(by have:¬((p:Int)<((ws.map V.ref).length:Int)):=fun z=>hc (ai8 z);rw[aiQ,Ea]at this;omega);exact⟨_,Z,hQ H' gd gk G s1 wV NK Xe (gu.end_ ok AQ yk hp)⟩
  .rintro σ H' Q1 Q2 hm ⟨v,e1,v2,e2,l2,ys,e3,e4,i1,i2,e5,e6,b,e7,q⟩;exact⟨v,e1,v2,e2,l2,ys,e3,e4,i1,i2,e5,e6,b,e7,hm _ _ q⟩
end
structure sF(h:Known)(ns:List Nd)(R:List (Nd×Nat)):Prop where
 rk:∀n∈ns,dw h n R
 nd:(R.map (·.1)).Nodup
 st:∀x∈R,Rk h x.1 x.2/\x.1.2∈lE h ns
theorem lookup_mem(nd:(R.map (·.1)).Nodup):∀{x:Nd×Nat},x∈R->R.lookup x.1=some x.2:=by
 induction R with
 |nil=>intro x hx;cases hx
 |cons y R ih=>
  intro x hx;rw[aji,ajP]at nd;rw[ajz];rcases aiZ.mp hx with e|e
  .rw[e,aka]
  .have:(x.1==y.1)=false:=ajt.mpr fun q=>nd.1 (by rw[<-q];exact ai7.mpr ⟨x,e,rfl⟩);rw[this];exact ih nd.2 e
abbrev Bo:=top 36
theorem gH:aM ["known","started","grounds","leaning","ranks","fresh","rank","pair"] ["known","started"] (aF Bo):=dc
def DU(C:Cs):Sp:=fun vs H Q _=>∃ka h l ns,vs=[.ref ka,.ref l]/\aq C H ka h/\fS h/\aT H l ns/\ns.length<=1000/\∀H' d R,aC H H'->H d=none->H' d=some (.dT (lj R))->sF h ns R->Q (.ref d) H'
section
variable{K:W.Frag}
theorem Jg(F:bL "ranks_under" Bo)(T:Txt K mg C)(dU:cO 5 "grounds_under" ["known","started"] (Tp C)) (dL:cO 5 "leaning_on" ["grounds"] Hz)(dF:iF 5)(dN:cO 5 "newly_standing" ["fresh","grounds","leaning","ranks"] OB):de 6 ["known","started"] (DU C):=by
 refine d9 gH
 .obtain⟨ka,h,b,n,rfl,_⟩:=h;rfl
 .obtain⟨ka,hh,l,ns,rfl,hK,ok,hl,yk,hQ⟩:=h;have hu:=bu hr;refine⟨_,aD (gT (i:=2) gH.nd rfl (Or.inr rfl) (aJ dU hr (cY (pv 0) (pv 1)))) (aD (zS 3 gH.nd (aJ dL hr (bM (pv 2)))) (aD (gT (i:=4) gH.nd rfl (Or.inr rfl) iB) (aD (gZ (kX (i:=5) (own:=[("pair",7)]) rfl gH.nd rfl rfl rfl (gc (pv 2)) (cV rfl) (fun _ _ _ _ _=>zG 7 gH.nd) (fun _ _ _ _ _=>gI (bF (aJ dF hr (cY (dq hu (pv 2) (pv 7)) (pv 4))))) (fun _ _ _ _ _=>pv 7))) (aD (zS 6 gH.nd aK) (aD (i0 ajm (aY wB (bA az (by rfl) T.dZ ajK (bM (pv 5))) aK) (aD (bU ajm rfl (ax (pv 5)) (zG 7 gH.nd) (aE (ee hu (pv 4) (pv 7) (pv 6) rfl))) (aD (zS 5 gH.nd (aJ dN hr (G5 (pv 5) (pv 2) (pv 3) (pv 4)))) (aE (xl (i:=6) gH.nd rfl (Or.inl rfl) aK yA))))) (aE (aH (pv 4)))))))),?_⟩;have fD:=fun m=>ja hK m;refine⟨_,Z,_,Z,ka,hh,l,ns,Z,hK,ok,hl,yk,fun H4 gd gk G s4 wV BF hk4 U=>?_⟩;have S:Small hh G:=⟨U.nd,by have:=U.fD;omega,U.cl,fun m _=>fD m⟩;refine⟨_,Z,gd,gk,bx hh G,Z,BF,hk4,(by rw[jX];exact U.nd),(by unfold bx;rw[aiQ];have:=U.fD;omega),?_,fun H5 ld lk ls s5 XZ hlk hL=>?_⟩
  .intro x hx;obtain⟨m,hm,rfl⟩:=ai7.mp hx;exact⟨(fD m).2.2,fun k hk=>by rw[jX];exact U.cl m hm k hk⟩
  rw[jX]at hL;have D5:fq H5 gd ld hh G gk lk ls:=⟨s5 _ _ BF,hk4.same (aC.x s5),hlk,hL⟩;have LZ:=aC.trans s4 s5;intro rd jm;have s6:aC H5 (upd H5 rd (.dT [])):=zU jm;have D6:=D5.same s6;have Q4:=D6.g;have XB:rd≠gd:=(fun q=>by rw[q,D5.g]at jm;cases jm);refine⟨gd,_,Q4,True.intro,fun od=>?_⟩;have aaX:gk.length=G.length:=(by have:=Paired.length hk4;unfold bx at this;rw[this,aiQ]);have hGF:=U.fD;have Zx:upd (upd H5 rd (.dT [])) gd (.br od (.dT gk)) rd=some (.dT (lj [])):=(by rw[aB XB,aA];rfl);have GL:lz (upd (upd H5 rd (.dT [])) gd (.br od (.dT gk))) gk (bx hh G):=lz.lock Q4 D6.gk;refine⟨_,Z,gd,od,Z,.inr ⟨gk,aA,fun fr uB=>oN (J:=DJ gd od gk) (n:=gk.length) (fun i H'=>∃qG,aC (upd (upd H5 rd (.dT [])) gd (.br od (.dT gk))) H'/\H' fr=some (.lst (qG.map V.ref))/\aI H' qG ((G.take i).filter fun m=>fQ [] (au hh m))) ⟨[],zU uB,aA,.nil⟩ (fun i H' hi ⟨_,s1,_⟩=>⟨s1 _ _ aA,hi⟩) ?_ ?_⟩⟩
  .rintro i x H7 H8 hi ⟨qG,s7,rB,EY⟩ ⟨eH,kk,v,q,jn,rfl,hq⟩;subst eH;obtain⟨gx,HD,ek,lg,el,pY⟩:=aR GL jn;obtain⟨m,hm,rfl⟩:∃m,G[i]?=some m/\gx=(m,au hh m):=by
    unfold bx at HD;rw[ajd]at HD;cases e:G[i]? with
    |none=>rw[e]at HD;cases HD
    |some m=>rw[e]at HD;exact⟨m,Z,(ajr HD).symm⟩
   have GX:kk=bZ m:=ek;subst GX;have XY:m∈G:=ai1 hm;obtain⟨gl,hgv,Q3⟩:=yG (GL.same (aC.x s7)) XY;have hF:=fD m;refine⟨Z,?_⟩;refine⟨_,Z,_,Z,gd,_,Z,(show ba H8 gd (V.ref q) (some (V.ref gl)) by rw[<-hgv];exact .inr ⟨gk,bZ m,q,.inr ⟨od,s7 _ _ aA⟩,Z,hq,Z⟩),_,Z,gl,au hh m,rd,[],Z,Q3,by omega,(fun g hg=>by have:=hF.2.1 g hg;omega),s7 _ _ Zx,fun H9 s9=>⟨_,Z,?_⟩⟩;have LY:(G.take (i+1)).filter (fun m=>fQ [] (au hh m))=(G.take i).filter (fun m=>fQ [] (au hh m))++(if fQ [] (au hh m)=true then [m]else []):=by
    rw[aa hm,aj8];congr 1;by_cases c:fQ [] (au hh m)=true
    .rw[ai5 c];simp[c]
    .rw[ai0 c];simp[c]
   have rA:=s9 _ _ rB;refine aO (fun h1=>?_) (fun h1=>?_)
   .refine⟨_,Z,_,rA,?_,qG++[q],aC.upd (aC.trans s7 s9) uB,?_,?_⟩
    .rw[aiQ,Paired.length EY,ai6];have:=ajk (fun m=>fQ [] (au hh m)) (G.take i);rw[ajb]at this;omega
    .rw[aA,aiY];rfl
    .rw[LY,ai5 h1];exact aI.upd (aI.snoc (s9 _ _ hq) (Paired.a8 EY fun _ _ z=>s9 _ _ z)) (by rw[rA];exact True.intro)
   .refine⟨qG,aC.trans s7 s9,rA,?_⟩;rw[LY,ai0 h1,ajs];exact Paired.a8 EY fun _ _ z=>s9 _ _ z
  rintro H7 ⟨qG,s7,rB,EY⟩;rw[aaX,ai9]at EY;refine⟨⟨s7 _ _ aA,ai2 _⟩,s7 _ _ aA,?_⟩;have Tx:aC (upd H5 rd (.dT [])) (upd H7 gd (.dT gk)):=aC.unlock Q4 s7;have D7:=D6.same Tx;have hgF:H7 gd=some (.br od (.dT gk)):=s7 _ _ aA;have ZJ:fr≠gd:=(fun q=>by rw[q,hgF]at rB;cases rB);have M9:upd H7 gd (.dT gk) rd=some (.dT (lj [])):=Tx _ _ aA;have R7:aT (upd H7 gd (.dT gk)) fr (G.filter fun m=>fQ [] (au hh m)):=⟨qG,by rw[aB ZJ];exact rB,aI.upd EY (by rw[hgF];exact True.intro)⟩;have VB:H rd=none:=aC.free LZ jm;have SF:ld≠rd:=(fun q=>by rw[<-q,D5.l]at jm;cases jm);refine⟨fun μ σ H'=>∃(k:Nat) (R:List (Nd×Nat)) (fresh:List Nd) (fr:Addr) (v3:Option V),μ=G.length+1-R.length/\σ=[some (.ref ka),some (.ref l),some (.ref gd),some (.ref ld),some (.ref rd),some (.ref fr),some (.int ((k+1:Nat):Int)),v3]/\aC H H'/\fq H' gd ld hh G gk lk ls/\H' rd=some (.dT (lj R))/\aT H' fr fresh/\gp hh G k R fresh,⟨_,0,[],_,fr,_,Z,Z,aC.trans LZ (aC.trans s6 Tx),D7,M9,R7,zN U.nd⟩,?_⟩;rintro μ σ H8 ⟨k,R,fresh,Sr,v8,rfl,rfl,sx8,D8,VC,⟨RV,Q5,Q6⟩,RO⟩;refine⟨_,Z,Sr,_,Z,.inl (ae.of Q5),_,_,Z,Z,_,Z,?_⟩;refine aO (fun hc=>?_) (fun hc=>?_)
  .have jZ:fresh≠[]:=(fun z=>by have:=aja hc;rw[aiQ,Paired.length Q6,z]at this;simp at this);have keysLt:∀j,(R++(fresh.take j).map fun m=>(m,k+1)).length<=G.length:=(fun j=>by have st:=sy S.cl RO;have:=(eR (l:=(rO R fresh (k+1)).map (·.1)) (m:=G) st.nd fun x hx=>by obtain⟨y,hy,rfl⟩:=ai7.mp hx;exact st.sub y hy);unfold rO at this;rw[aiQ,aiT,aiQ]at this;rw[aiT,aiQ,ajb];omega);refine⟨fun σ' H'=>∃m',m'<G.length+1-R.length/\∃(k':Nat) (R':List (Nd×Nat)) (Kw:List Nd) (fr':Addr) (v3:Option V),m'=G.length+1-R'.length/\σ'=[some (.ref ka),some (.ref l),some (.ref gd),some (.ref ld),some (.ref rd),some (.ref fr'),some (.int ((k'+1:Nat):Int)),v3]/\aC H H'/\fq H' gd ld hh G gk lk ls/\H' rd=some (.dT (lj R'))/\aT H' fr' Kw/\gp hh G k' R' Kw,fun σ' H' z=>z,?_⟩;refine⟨_,Z,Sr,Z,⟨_,ae.of Q5⟩,bO (K:=K) (a:=Sr) (xs:=RV.map V.ref) (fun j σ H'=>∃v3:Option V,σ=[some (.ref ka),some (.ref l),some (.ref gd),some (.ref ld),some (.ref rd),some (.ref Sr),some (.int ((k+1:Nat):Int)),v3]/\aC H H'/\fq H' gd ld hh G gk lk ls/\H' rd=some (.dT (lj (R++(fresh.take j).map fun m=>(m,k+1))))/\H' Sr=some (.lst (RV.map V.ref))/\aI H' RV fresh) ⟨v8,Z,sx8,D8,(by simpa using VC),Q5,Q6⟩ (fun j σ H' _ ⟨_,_,_,_,_,h6,_⟩=>ae.of h6) ?_ ?_⟩
   .rintro j y σ H9 hj ⟨v9,rfl,YK,D9,AD,rA,Ki⟩;obtain⟨a,ha,rfl⟩:=bT hj;obtain⟨m,hm,GH⟩:=Ki.lC ha;have lk0:(R++(fresh.take j).map fun m=>(m,k+1)).lookup m=none:=(by rw[lookup_append,RO.apart (ai1 hm),Option.none_or,oI];refine ai0 fun ly=>?_;obtain⟨t,ht,et⟩:=ajY ly;rw[ajb]at ht;have WJ:fresh[t]?=some m:=(by rw[alg]at et;rw[<-et];exact aiW _);have:=zg RO.Su WJ hm;omega);refine⟨_,Z,_,Z,_,Z,rd,_,Z,ji.t AD GH ?_,?_⟩
    .unfold lj;have:=keysLt j;rw[aiQ,ai6];omega
    .have IH:m9 (H9 rd):=(by rw[AD];exact True.intro);refine⟨_,Z,aC.upd YK VB,D9.put AD (ajC XB) SF,?_,?_,?_⟩
     .rw[aA,MA lk0,aa hm,aiY,ajE];rfl
     .rw[aB (ak rA AD nofun)];exact rA
     .exact aI.upd Ki IH
   .rintro σ H9 ⟨v9,rfl,YK,D9,AD,rA,Ki⟩;rw[aiQ,Paired.length Ki,ai9]at AD;refine⟨_,Z,_,Z,_,Z,_,Z,Sr,fresh,gd,ld,rd,hh,G,gk,lk,ls,rO R fresh (k+1),Z,⟨RV,rA,Ki⟩,D9,S,fun m hm=>((RO.fr m).mp hm).1,AD,fun H10 ZW W3 agu Z1=>?_⟩;have st:=sy S.cl RO;refine⟨_,Z,_,_,Z,Z,_,?_,k+1,rO R fresh (k+1),_,ZW,_,Z,Z,aC.trans YK W3,D9.same W3,W3 _ _ AD,Z1,st⟩;have l1:=keysLt fresh.length;rw[ai9]at l1;unfold rO;have l2:0<fresh.length:=List.length_pos_iff.mpr jZ;rw[aiT,aiQ]at l1⊢;omega
  .have hfe:fresh=[]:=(by have:¬((0:Int)<((RV.map V.ref).length:Int)):=fun z=>hc (ai8 z);rw[aiQ,Paired.length Q6]at this;exact alB.mp (by omega));subst hfe;have re:=FV S.cl RO;refine⟨_,Z,hQ H8 rd R sx8 VB VC ⟨fun n hn m hm=>re m (U.all hn m hm),RO.nd,fun x hx=>?_⟩⟩;have hxG:=RO.sub x hx;exact⟨(re x.1 hxG x.2).mp (lookup_mem RO.nd hx),U.day _ hxG⟩
end
abbrev xg:=top 48
theorem kT:aM ["known","pair","ranks","fallen","ground","rest"] ["known","pair","ranks"] (aF xg):=dc
def K2(h:Known)(R:List (Nd×Nat))(n:Nd):List Nd:=(au h n).filterMap fun g=>g.find? fun m=> !inR R m
def zE(C:Cs):Sp:=fun vs H Q _=>∃ka h b n rd R,vs=[.ref ka,.ref b,.ref rd]/\aq C H ka h/\TupAt H b n/\H rd=some (.dT (lj R))/\(∀g∈au h n,∃m∈g,inR R m=false)/\∀H' l,aC H H'->H l=none->aT H' l (K2 h R n)->Q (.ref l) H'
theorem wX{α:Type}{p:α->Bool}:∀{l:List α},(∃x∈l,p x=true)->∃x,(l.filter p)[0]?=some x/\l.find? p=some x
 | [],h=>by obtain⟨x,hx,_⟩:=h;cases hx
 |y::l,h=>by
  cases q:p y with
  |true=>exact⟨y,by rw[ajT q];rfl,by rw[ajG,q]⟩
  |false=>
   obtain⟨x,hx,hp⟩:=h;have Lg:x∈l:=by
    rcases aiZ.mp hx with e|e
    .rw[e,q]at hp;cases hp
    .exact e
   obtain⟨z,a,b⟩:=wX (l:=l) ⟨x,Lg,hp⟩;exact⟨z,by rw[akb (by rw[q];exact ajg)];exact a,by rw[ajG,q];exact b⟩
section
variable{K:W.Frag}{TT:List (Addr×List (Pos×Str))}
theorem Fk(F:bL "first_fallen" xg)(T:Txt K mg C)(dG:eD 4):de 5 ["known","pair","ranks"] (zE C):=by
 refine d9 kT
 .obtain⟨ka,h,b,n,rd,R,rfl,_⟩:=h;rfl
 .obtain⟨ka,hh,b,n,rd,R,rfl,hK,hb,jm,hex,hQ⟩:=h;have hu:=bu hr;have fD:=ja hK n;refine⟨_,aD (zS 3 kT.nd (aU cA)) (aD (bU ajm rfl (ax (aJ dG hr (cY (pv 0) (pv 1)))) (zG 4 kT.nd) (aE (bp (fN aju ajM ajL cN (pv 3) (bM (af aX (fw (own:=[("rest",5)]) rfl kT.nd (ax (pv 4)) (cV rfl) (fun _ _ _ _ _=>zG 5 kT.nd) (fun _ _ _ _ _=>gI (b9 (cJ hu (pv 5) (pv 2)))) (fun _ _ _ _ _=>pv 5)) aK)))))) (aE (aH (pv 3)))),?_⟩;refine⟨ajo _,fun r gO=>?_⟩;have s0:aC H (upd H r (.lst [])):=zU gO;refine⟨_,Z,_,Z,ka,hh,b,n,Z,hK.same (aC.x s0),s0 _ _ hb,fun H1 gl s1 pY ⟨ls,Cm,jz⟩=>?_⟩;have qy:=s1 _ _ aA;have La:=aC.trans s0 s1;have XB:gl≠r:=(fun q=>by rw[q,aA]at pY;cases pY);refine⟨gl,Z,⟨_,ae.of Cm⟩,bO (K:=K) (a:=gl) (xs:=ls.map V.ref) (fun i σ H'=>∃(as:List Addr) (v4 v5:Option V),σ=[some (.ref ka),some (.ref b),some (.ref rd),some (.ref r),v4,v5]/\aC H H'/\H' gl=some (.lst (ls.map V.ref))/\Paired (aT H') ls (au hh n)/\H' r=some (.lst (as.map V.ref))/\r∉ls/\aI H' as (((au hh n).take i).filterMap fun g=>g.find? fun m=> !inR R m)) ⟨[],none,none,Z,La,Cm,jz,qy,?_,.nil⟩ (fun i σ H' _ ⟨_,_,_,_,_,h3,_⟩=>ae.of h3) ?_ ?_⟩
  .intro hm;obtain⟨j,hj,ej⟩:=ajY hm;obtain⟨g,hg,as,ha,hn⟩:=aR jz (aiW hj);rw[ej,qy]at ha;obtain⟨m,EZ,_⟩:=hex g (ai1 hg);have:as=[]:=(by have:=akc (fun z=>match z with|some (HO.lst xs)=>xs.length|_=>0) ha;simp at this;exact alB.mp this.symm);have l0:=Paired.length hn;rw[this]at l0;have:g=[]:=alB.mp l0.symm;rw[this]at EZ;cases EZ
  .rintro i y σ H2 hi ⟨as,v4,v5,rfl,s2,Vn,yD,HB,SF,Cg⟩;obtain⟨l,hl,rfl⟩:=bT hi;obtain⟨g,hg,WA,AJ,Og⟩:=aR yD hl;have ly:g∈au hh n:=ai1 hg;have h4:=fD.2.1 g ly;have OP:l≠r:=fun q=>SF (by rw[<-q];exact ai1 hl);refine⟨_,Z,.inl ⟨Z,_,ae.of HB⟩,?_⟩;refine⟨_,Z,l,Z,⟨_,ae.of AJ⟩,fun D hD=>eG (K:=K) (a:=l) (xs:=WA.map V.ref) (fun j H'=>∃bs,aC H2 H'/\H' D=some (.lst (bs.map V.ref))/\aI H' bs ((g.take j).filter fun m=> !inR R m)) ⟨[],zU hD,aA,.nil⟩ (fun j H' _ ⟨_,s3,_⟩=>ae.of (s3 _ _ AJ)) ?_ ?_⟩
   .rintro j y H3 hj ⟨bs,s3,oQ,ro⟩;obtain⟨a,ha,rfl⟩:=bT hj;obtain⟨m,hm,GH⟩:=Og.lC ha;have VS:=s3 _ _ GH;refine⟨Z,?_⟩;refine⟨_,Z,_,Z,rd,_,Z,ba.t (s3 _ _ (s2 _ _ jm)) VS,_,Z,?_⟩;rw[dm,aj2];show(if(!inR R m)=true then _ else _);have LY:(g.take (j+1)).filter (fun m=> !inR R m)=(g.take j).filter (fun m=> !inR R m)++(if(!inR R m)=true then [m]else []):=by
     rw[aa hm,aj8];congr 1;by_cases c:(!inR R m)=true
     .rw[ai5 c,amL,ai5 c];rfl
     .rw[ai0 c,amL,ai0 c];rfl
    refine aO (fun h1=>?_) (fun h1=>?_)
    .refine⟨_,Z,_,oQ,?_,bs++[a],aC.upd s3 hD,?_,?_⟩
     .rw[aiQ,Paired.length ro,ai6];have:=ajk (fun m=> !inR R m) (g.take j);rw[ajb]at this;omega
     .rw[aA,aiY];rfl
     .rw[LY,ai5 h1];exact aI.upd (aI.snoc VS ro) (by rw[oQ];exact True.intro)
    .refine⟨bs,s3,oQ,?_⟩;rw[LY,ai0 h1,ajs];exact ro
   .rintro H3 ⟨bs,s3,oQ,ro⟩;rw[aiQ,Paired.length Og,ai9]at ro;obtain⟨m,hm,hmi⟩:=hex g ly;obtain⟨x,hx0,hxf⟩:=wX (l:=g) (p:=fun m=> !inR R m) ⟨m,hm,by simp[hmi]⟩;obtain⟨a,ha,Ut⟩:=ro.get hx0;have EV:=s3 _ _ HB;refine⟨D,_,_,V.ref a,Z,Z,ae.of oQ,aS (j:=0) (by rw[ajd,ha];rfl),r,_,_,Z,Z,EV,?_,?_⟩
    .rw[aiQ,Paired.length Cg,ai6];have:=alv (fun g:List Nd=>g.find? fun m=> !inR R m) ((au hh n).take i);rw[ajb]at this;have:=fD.1;omega
    .refine⟨as++[a],_,_,Z,aC.upd (aC.trans s2 s3) gO,?_,?_,?_,SF,?_⟩
     .rw[aB XB];exact s3 _ _ Vn
     .exact fM (by rw[EV];exact True.intro) SF (Paired.a8 yD fun _ _ z=>z.same (aC.x s3))
     .rw[aA,aiY];rfl
     .rw[aa hg,akN];have e1:([g]:List (List Nd)).filterMap (fun g=>g.find? fun m=> !inR R m)=[x]:=(by rw[ajZ,hxf];rfl);rw[e1];exact aI.upd (aI.snoc Ut (Paired.a8 Cg fun _ _ z=>s3 _ _ z)) (by rw[EV];exact True.intro)
  .rintro σ H2 ⟨as,v4,v5,rfl,s2,Vn,yD,HB,SF,Cg⟩;rw[aiQ,Paired.length yD,ai9]at Cg;exact⟨_,Z,hQ H2 r s2 gO ⟨as,HB,Cg⟩⟩
end
theorem dw.inR{a:Nd}(ok:fS h)(r:dw h a R)(hm:m∈under h a):inR R m=standsOn h m.1 m.2:=by
 unfold Pp.inR;rw[ajw,akZ,PM.aj ok];constructor
 .rintro⟨j,e⟩;exact⟨j,((r m hm j).mp e).at_⟩
 .intro s;exact⟨_,(r m hm _).mpr (PM.fG ok s).1⟩
theorem dj(ok:fS h)(a:Nd):bS (bG h) (under h a):=PM.gP ok (d:=a.2) (fun m k hm=>LJ hm) (by simp) (by simp)
theorem bq(h:Known)(a:Nd):a∈under h a:=PM.Ao a (by simp)
theorem Em(h:Known)(n:Nd):PM.fl h n=(au h n).filterMap fun g=>g.find? fun m=> !standsOn h m.1 m.2:=by
 unfold PM.fl au;cases hp:paperOf h n.1 with
 |none=>rfl
 |some p=>
  simp only;cases o:Vbkoac.own h p n.2 with
  |false=>rfl
  |true=>
   rw[ai0 (by decide),ai5 rfl,List.filterMap_map];rfl
theorem WE(hm:m∈PM.fl h n):m∈bG h n/\standsOn h m.1 m.2=false:=by rw[Em]at hm;obtain⟨g,hg,e⟩:=akL.mp hm;refine⟨akJ.mpr ⟨g,hg,akk e⟩,?_⟩;have:=ald e;simpa using this
theorem NT(ok:fS h){a:Nd}(ns:standsOn h a.1 a.2=false):∀m∈PM.my h a,m∈under h a/\standsOn h m.1 m.2=false:=by
 unfold PM.my;rw[PM.dJ];refine PM.jM (P:=fun m=>m∈under h a/\standsOn h m.1 m.2=false) (fun m hm k hk=>?_) _ _ fun m hm=>?_
 .obtain⟨b1,b2⟩:=WE hk;exact⟨dj ok a m hm.1 k b1,b2⟩
 .rw[aiU.mp hm];exact⟨bq h a,ns⟩
theorem Fq(ok:fS h)(ns:standsOn h n.1 n.2=false):∀g∈au h n,∃m∈g,standsOn h m.1 m.2=false:=fun g hg=>by
 refine alU fun no=>?_;have all:∀m∈g,PM.st h m:=fun m hm=>by
  cases e:standsOn h m.1 m.2 with
  |true=>exact(PM.aj ok).mp e
  |false=>exact absurd ⟨m,hm,e⟩ no
 have:PM.st h n:=(by refine⟨Vbkoac.MANY+1,?_⟩;rw[EJ,ajX];refine⟨g,hg,ajA.mpr fun m hm=>?_⟩;have rs:=PM.fG ok (all m hm);exact PM.iQ (aki rs.2) rs.1.at_);have:=(PM.aj ok (i:=n.1) (d:=n.2)).mpr this;rw[ns]at this;cases this
abbrev xj:=top 49
theorem IW:aM ["known","asked","ranks"] ["known","asked","ranks"] (aF xj):=dc
def zH(C:Cs)(TT:List (Addr×List (Pos×Str))):Sp:=fun vs H Q _=>∃ka h b n rd R,vs=[.ref ka,.ref b,.ref rd]/\aq C H ka h/\TupAt H b n/\fS h/\bY TT H/\H rd=some (.dT (lj R))/\dw h n R/\standsOn h n.1 n.2=false/\∀H' l,aw H H'->bY TT H'->H l=none->aT H' l (PM.my h n)->Q (.ref l) H'
def lW:Pos:=⟨172,26,172,69⟩
section
variable{K:W.Frag}{TT:List (Addr×List (Pos×Str))}
theorem Fn{c PT:Addr}(F:A6 K "closed_set" "closed_set" xj f fd c)(B:BM base mg)(hC:W.CodeHd base c PT)(Xm:(PT,[(lW,("closed_set.<locals>.<lambda>":Str))])∈TT)(Xl:∀x∈TT,x.1=PT->x.2=[(lW,("closed_set.<locals>.<lambda>":Str))]) (dC:ya P w K mg base 7 "come_to" ["start","following"] (xJ P w K mg base TT 6))(dA:cO 5 "first_fallen" ["known","pair","ranks"] (zE C)):de 8 ["known","asked","ranks"] (zH C TT):=by
 obtain⟨fc,fdc,FC,Sj,Xc,hbc⟩:=dC.ex;refine F.ok IW (fun vs H Q E h=>?_) (fun A outer s H vs Q E hr h=>?_)
 .obtain⟨ka,h,b,n,rd,R,rfl,_⟩:=h;rfl
 .obtain⟨ka,hh,b,n,rd,R,rfl,hK,hb,ok,hT,jm,hR,ns,hQ⟩:=h;refine⟨_,aE (aH (tH (P:=PT) (ls:=[(lW,("closed_set.<locals>.<lambda>":Str))]) (fs:=["known","ranks"]) (is:=[0,2]) FC hr rfl Sj Xc hbc (pv 1) B rfl hC (aiU.mpr rfl) (fun q hq _ _=>by rw[aiU.mp hq];rfl) rfl ?M)),?_⟩
  case M=>
   refine⟨Z,fun j i y h1 h2=>?_,fun y hy=>?_,fun y c' h1=>?_,fun y hy=>?_⟩
   .match j,h1,h2 with
    |0,h1,h2=>
     cases h1;cases h2;rfl
    |1,h1,h2=>
     cases h1;cases h2;rfl
    |j+2,h1,h2=>simp at h1
   .simp only[aiZ,ajW,ak3]at hy;rcases hy with e|e
    .rw[e];exact⟨Z,Z⟩
    .rw[e];exact⟨Z,Z⟩
   .rw[ajz]at h1;cases e:y==("ranks":Str)with
    |true=>
     rw[e]at h1;have ey:=eq_of_beq e;subst ey;exact⟨aiS _ (aiU.mpr rfl),h1⟩
    |false=>
     rw[e]at h1;simp only at h1;rw[ajz]at h1;cases e2:y==("known":Str)with
     |true=>
      rw[e2]at h1;have ey:=eq_of_beq e2;subst ey;exact⟨aiV ..,h1⟩
     |false=>rw[e2]at h1;cases h1
   .simp only[aiZ,ajW,ak3]at hy;rcases hy with e|e
    .rw[e];exact⟨_,Z⟩
    .rw[e];exact⟨_,Z⟩
  have fD:=fun m=>ja hK m;have RT:∀m,(PM.fl hh m).length<=12:=(fun m=>by rw[Em];have a:=alv (fun g:List Nd=>g.find? fun m=> !standsOn hh m.1 m.2) (au hh m);have:=(fD m).1;omega);have cl:bS (PM.fl hh) (PM.my hh n):=PM.AV ok;have II:(PM.my hh n).length<=100000:=iL ok (fun m k hm=>PM.oS hm) RT n;refine⟨_,Z,hT _ Xm,[.ref ka,.ref rd],Z,?_,fun fl c' pm r8 L H2 s2 P5 sx tk Y0 V0 Ks RC=>?_⟩
  .intro j i v h1 h2
   match j,h1,h2 with
   |0,h1,h2=>
    cases h1;cases h2;rfl
   |1,h1,h2=>
    cases h1;cases h2;rfl
   |j+2,h1,h2=>simp at h1
  have t2:bY TT H2:=sQ hT sx tk Y0 Xl;have Cq:aq C H2 ka hh:=hK.same sx;have vF:=sx.kp _ _ jm nofun;refine⟨b,n,fl,_,c',_,PM.fl hh,Z,sx.kp _ _ hb nofun,t2,V0,Ks,cl,(by rw[ai6];show(PM.my hh n).length<_;omega),?_,fun H3 l as YL t3 Kb hl hn=>?_⟩
  .refine C9 (k:=5) (x:="one") (fs:=["known","ranks"]) (fvs:=[.ref ka,.ref rd]) (pU (by rfl)) (Pp.CellsOk.cons _ RC) (aiV ..) (fun u=>rfl) (fun vs H Q E z=>?_) (fun A' Jb s' H' v Q' gO z=>?_)
   .obtain⟨a,m,rfl,_⟩:=z;rfl
   .obtain⟨a,m,ev,G9,hm,Ta,tt,q⟩:=z;cases ev;obtain⟨NI,Qr⟩:=NT ok ns m hm;have agree:∀g∈au hh m,∀k∈g,inR R k=standsOn hh k.1 k.2:=fun g hg k hk=>hR.inR ok (dj ok n m NI k (akJ.mpr ⟨g,hg,hk⟩));refine⟨_,aJ dA gO (ny (pv 1) (pv 0) (pv 2)),?_⟩;refine⟨_,Z,_,Z,_,Z,ka,hh,a,m,rd,R,Z,Cq.same Ta,G9,Ta.kp _ _ vF nofun,?_,fun H4 l4 s4 BE ⟨as4,Qy,XU⟩=>?_⟩
    .intro g hg;obtain⟨k,hk,e⟩:=Fq ok Qr g hg;exact⟨k,hk,by rw[agree g hg k hk];exact e⟩
    .have ef:K2 hh R m=PM.fl hh m:=(by rw[Em];unfold K2;exact PM.jC fun g hg=>PM.jc fun k hk=>by rw[agree g hg k hk]);rw[ef]at XU;exact q H4 l4 as4 (aC.x s4) (aC.tabs s4 tt) BE Qy XU
  .have:H l=none:=sx.free Kb;exact hQ H3 l (sx.trans YL) t3 this ⟨as,hl,hn⟩
end
def m8(H:Hp)(a:Addr)(s:Vbkoac.Step):Prop:=H a=some (.tup [V.int (s.id:Nat),V.int (s.day:Nat),V.int (s.ground:Nat)])
abbrev Bk:=top 50
theorem jJ:aM ["known","asked","steps","before","step","pair","grounds","rest"] ["known","asked","steps"] (aF Bk):=dc
def DR(C:Cs):Sp:=fun vs H Q _=>∃ka h b n sl as ss,vs=[.ref ka,.ref b,.ref sl]/\aq C H ka h/\TupAt H b n/\H sl=some (.lst (as.map V.ref))/\Paired (m8 H) as ss/\ss.length<=1000/\∀H',aC H H'->Q (.bl (checkedProof h n.1 n.2 ss)) H'
theorem yR(h:Known)(l:List Nd)(s:Vbkoac.Step)(r:List Vbkoac.Step):checkedFrom h l (s::r)= if 1<=s.ground/\s.ground<=(au h (s.id,s.day)).length/\(((au h (s.id,s.day)).getD (s.ground-1) []).all l.contains)=true then checkedFrom h (l++[(s.id,s.day)]) r else none:=by
 rw[checkedFrom];unfold au groundRests;cases hp:paperOf h s.id with
 |none=>
  simp only;rw[ai0];rintro⟨a,b,_⟩;simp at b;omega
 |some p=>
  simp only;cases o:Vbkoac.own h p s.day with
  |false=>
   rw[ai0 (by simp),ai0];rintro⟨a,b,_⟩;simp at b;omega
  |true=>
   rw[ai5 rfl,aiQ];by_cases lt:s.ground-1<p.grounds.length
   .have e:(p.grounds.map fun g=>g.map (nodeOf p s.day)).getD (s.ground-1) []=(p.grounds.getD (s.ground-1) []).map (nodeOf p s.day):=(by simp[List.getD,lt]);rw[e];by_cases c:1<=s.ground/\s.ground<=p.grounds.length
    .rw[ai8 c,akv,akv];by_cases al:(((p.grounds.getD (s.ground-1) []).map (nodeOf p s.day)).all l.contains)=true
     .rw[ai5 al,ai5 ⟨c.1,c.2,al⟩]
     .rw[ai0 al,ai0 (fun z=>al z.2.2)]
    .rw[ai0 (by rw[ajl c,akB,akp];exact ajg),ai0 (fun z=>c ⟨z.1,z.2.1⟩)]
   .have c:¬(1<=s.ground/\s.ground<=p.grounds.length):=(by omega);rw[ai0 (by simp[c]),ai0 (fun z=>c ⟨z.1,z.2.1⟩)]
section
variable{K:W.Frag}
theorem Jd(F:bL "steps_are_right" Bk)(T:Txt K mg C)(dG:eD 4):de 5 ["known","asked","steps"] (DR C):=by
 refine d9 jJ
 .obtain⟨ka,h,b,n,sl,as,ss,rfl,_⟩:=h;rfl
 .obtain⟨ka,hh,b,n,sl,as,ss,rfl,hK,hb,XM,hss,hlen,hQ⟩:=h;have hu:=bu hr;refine⟨_,aD (gT (i:=3) jJ.nd rfl (Or.inr rfl) iB) (aD (bU ajm rfl (ax (pv 2)) (zG 4 jJ.nd) (aD (zS 5 jJ.nd (cZ (cY (af cU (pv 4) aK) (af cU (pv 4) aK)))) (aD (zS 6 jJ.nd (aJ dG hr (cY (pv 0) (pv 5)))) (aD (aZ (cn (zQ iM iM aK (af cU (pv 4) aK) (bA az (by rfl) T.dZ ajK (bM (pv 6))))) (aE (aH gN)) aN) (aD (aZ (cn (bF (bA lJ (by rfl) T.dZ PyProof.Rows.Boot.«all» (bb (fw (own:=[("rest",7)]) rfl jJ.nd (ax (af aX (pv 6) (cE xq (af cU (pv 4) aK) aK))) (cV rfl) (fun _ _ _ _ _=>zG 7 jJ.nd) (fun _ _ _ _ _=>eZ) (fun _ _ _ _ _=>kZ (fB hu (pv 7) (pv 3)))) cA)))) (aE (aH gN)) aN) (aE (ee hu (pv 3) (pv 5) gN rfl))))))) (aE (aH (kZ (fB hu (pv 1) (pv 3)))))),?_⟩;intro e he;have s0:aC H (upd H e (.dT [])):=zU he;refine⟨_,Z,sl,Z,⟨_,ae.of (s0 _ _ XM)⟩,bO (K:=K) (a:=sl) (xs:=as.map V.ref) (fun i σ H'=>∃(v4 v5 v6:Option V) (B l:List Nd),σ=[some (.ref ka),some (.ref b),some (.ref sl),some (.ref e),v4,v5,v6,none]/\aC H H'/\H' e=some (.dT (seenOf B))/\B.length<=i/\(∀x,B.contains x=l.contains x)/\checkedFrom hh [] ss=checkedFrom hh l (ss.drop i)) ⟨none,none,none,[],[],Z,s0,aA,ai2 _,fun _=>rfl,Z⟩ (fun i σ H' _ ⟨_,_,_,_,_,_,s1,_⟩=>ae.of (s1 _ _ XM)) ?_ ?_⟩
  .rintro i y σ H1 hi ⟨v4,v5,v6,B,l,rfl,s1,uC,hB,Xu,yn⟩;obtain⟨a,ha,rfl⟩:=bT hi;obtain⟨st,lx,hsa⟩:=aR hss ha;have aas:i<ss.length:=(ai3.mp lx).1;have Ef:ss.drop i=st::ss.drop (i+1):=(by rw[alT aas,(ai3.mp lx).2]);rw[Ef,yR]at yn;have hT1:gF K H1 a [V.int (st.id:Nat),V.int (st.day:Nat),V.int (st.ground:Nat)]:=gF.of (s1 _ _ hsa);have bad:checkedFrom hh [] ss=none->∀H',aC H H'->Q (.bl false) H':=(fun z H' sH=>by have:=hQ H' sH;unfold checkedProof at this;rw[z]at this;exact this);refine⟨_,Z,a,_,_,_,Z,Z,hT1,aS (j:=0) rfl,_,Z,a,_,_,_,Z,Z,hT1,aS (j:=1) rfl,(zL rfl),fun p hp=>?_⟩;have s2:aC H1 (upd H1 p (.tup [V.int (st.id:Nat),V.int (st.day:Nat)])):=zU hp;have b0:=aC.trans s1 s2;have XS:TupAt (upd H1 p (.tup [V.int (st.id:Nat),V.int (st.day:Nat)])) p (st.id,st.day):=aA;refine⟨_,Z,_,Z,ka,hh,p,(st.id,st.day),Z,hK.same (aC.x b0),XS,fun H3 gl s3 pY ⟨ls,uA,jz⟩=>?_⟩;have fD:=ja hK (st.id,st.day);have eJ:=aC.trans b0 s3;have RG:gF K H3 a [V.int (st.id:Nat),V.int (st.day:Nat),V.int (st.ground:Nat)]:=gF.of (eJ _ _ hsa);have Xj:=s3 _ _ (s2 _ _ uC);have Uh:ls.length=(au hh (st.id,st.day)).length:=Paired.length jz;refine⟨_,Z,a,_,_,_,Z,Z,RG,aS (j:=2) rfl,_,_,Z,Z,_,Z,aO (fun h1=>?_) (fun h1=>?_)⟩
   .have g1:1<=st.ground:=(by have:=aja h1;omega);refine⟨_,Z,gl,_,Z,.inl (ae.of uA),_,_,Z,Z,_,Z,?_⟩;refine aO (fun h2=>?_) (fun h2=>?_)
    .have g2:¬st.ground<=(au hh (st.id,st.day)).length:=(fun z=>by have:decide (((st.ground:Nat):Int)<=((ls.map V.ref).length:Int))=true:=ai8 (by rw[aiQ,Uh];omega);rw[this]at h2;cases h2);exact bad (by rw[yn,ai0 fun z=>g2 z.2.1]) H3 eJ
    .have g2:st.ground<=(au hh (st.id,st.day)).length:=by
      by_cases z:((st.ground:Nat):Int)<=((ls.map V.ref).length:Int)
      .rw[aiQ,Uh]at z;omega
      .rw[ajl z]at h2;exact absurd rfl h2
     have gi:st.ground-1<ls.length:=(by omega);obtain⟨g,hg,WA,AJ,Og⟩:=aR jz (aiW gi);have g4:=fD.2.1 g (ai1 hg);have wV:(au hh (st.id,st.day)).getD (st.ground-1) []=g:=(by rw[ajN,hg];rfl);rw[wV]at yn;refine⟨_,Z,_,Z,a,_,_,_,Z,Z,RG,aS (j:=2) rfl,_,_,Z,Z,gl,_,_,V.ref ls[st.ground-1],Z,Z,ae.of uA,at_of (j:=st.ground-1) (by omega) (by rw[ajd,aiW gi];rfl),_,Z,⟨_,ae.of AJ⟩,fun D hD=>eG (K:=K) (a:=ls[st.ground-1]) (xs:=WA.map V.ref) (fun j H'=>aC H3 H'/\H' D=some (.lst (((g.take j).map fun m=>B.contains m).map V.bl))) ⟨zU hD,aA⟩ (fun j H' _ ⟨s4,_⟩=>ae.of (s4 _ _ AJ)) ?_ ?_⟩
     .rintro j y H4 hj ⟨s4,nF⟩;obtain⟨q,hq,rfl⟩:=bT hj;obtain⟨m,hm,hmq⟩:=Og.lC hq;refine⟨Z,?_⟩;dsimp only[nQ];rw[ai5 rfl];refine⟨_,Z,_,Z,e,_,Z,ba.t (s4 _ _ Xj) (s4 _ _ hmq),?_⟩;refine⟨_,nF,?_,aC.upd s4 hD,?_⟩
      .rw[aiQ,aiQ,ajb,ai6];omega
      .rw[aA,aa hm,aiY,aiY,fE];rfl
     .rintro H4 ⟨s4,nF⟩;rw[aiQ,Paired.length Og,ai9]at nF;refine⟨D,_,Z,ae.of nF,_,Z,?_⟩;have aa9:((g.map fun m=>B.contains m).all id)=g.all l.contains:=(by rw[alH];congr 1;funext m;exact Xu m);rw[aa9];have nE:=aC.trans eJ s4;refine aO (fun h3=>?_) (fun h3=>?_)
      .have:(g.all l.contains)=false:=(by simpa using h3);exact bad (by rw[yn,ai0 fun z=>by rw[this]at z;exact ajg z.2.2]) H4 nE
      .have al:(g.all l.contains)=true:=by
        cases z:g.all l.contains with
        |true=>rfl
        |false=>rw[z]at h3;exact absurd rfl h3
       rw[ai5 ⟨g1,g2,al⟩]at yn;have Ed:=s4 _ _ Xj;refine⟨_,Z,_,Z,e,_,Z,ji.t (k:=bZ (st.id,st.day)) Ed (s4 _ _ (s3 _ _ XS)) ?_,?_⟩
       .unfold seenOf;rw[aiQ,ai6];omega
       .refine⟨_,_,_,Vbkoac.union B [(st.id,st.day)],l++[(st.id,st.day)],Z,aC.upd nE he,?_,?_,?_,yn⟩
        .rw[aA,mU]
        .show(if B.contains (st.id,st.day)=true then B else B++[(st.id,st.day)]).length<=i+1;split
         .omega
         .rw[aiT];simp;omega
        .intro x;rw[ajw,ajp,ajp,PM.bg,ajh];have:=Xu x;rw[ajw,ajp,ajp]at this;rw[this]
   .have g1:¬1<=st.ground:=fun z=>h1 (ai8 (by omega));refine⟨_,Z,aO (fun _=>bad (by rw[yn,ai0 fun z=>g1 z.1]) H3 eJ) (fun z=>absurd rfl z)⟩
  .rintro σ H1 ⟨v4,v5,v6,B,l,rfl,s1,uC,hB,Xu,yn⟩;rw[aiQ,Paired.length hss,List.drop_length]at yn;refine⟨_,Z,_,Z,e,_,Z,ba.t uC (s1 _ _ hb),?_⟩;have:=hQ H1 s1;unfold checkedProof at this;rw[yn,checkedFrom]at this;rw[fE,Xu n];exact this
abbrev Pq:=top 51
theorem sZ:aM ["known","asked","pairs","members","pair","ground","rest"] ["known","asked","pairs"] (aF Pq):=dc
def N9(C:Cs):Sp:=fun vs H Q _=>∃ka h b n pl l,vs=[.ref ka,.ref b,.ref pl]/\aq C H ka h/\TupAt H b n/\aT H pl l/\l.length<=1000/\∀H',aC H H'->Q (.bl (checkedSet h n.1 n.2 l)) H'
theorem qe(h:Known)(n:Nd)(l:List Nd):checkedSet h n.1 n.2 l=(l.contains n&&l.all fun m=>(au h m).all fun g=>g.any l.contains):=by
 unfold checkedSet;congr 1;congr 1;funext m;unfold au;cases hp:paperOf h m.1 with
 |none=>rfl
 |some p=>
  simp only;cases o:Vbkoac.own h p m.2 with
  |false=>simp
  |true=>
   rw[ai5 rfl,ana,anb,alH];congr 1;funext g;simp[amD,amF]
theorem QC(F:bL "set_is_right" Pq)(T:Txt K mg C)(dG:eD 4):de 5 ["known","asked","pairs"] (N9 C):=by
 refine d9 sZ
 .obtain⟨ka,h,b,n,pl,l,rfl,_⟩:=h;rfl
 .obtain⟨ka,hh,b,n,pl,l,rfl,hK,hb,⟨as,mI,hn⟩,hlen,hQ⟩:=h;have hu:=bu hr;refine⟨_,aD (gT (i:=3) sZ.nd rfl (Or.inr rfl) iB) (aD (bU ajm rfl (ax (pv 2)) (zG 4 sZ.nd) (aE (ee hu (pv 3) (pv 4) gN rfl))) (aD (bU ajm rfl (ax (pv 2)) (zG 4 sZ.nd) (aE (bU ajm rfl (ax (aJ dG hr (cY (pv 0) (pv 4)))) (zG 5 sZ.nd) (aE (aZ (cn (bF (bA qf (by rfl) T.dZ PyProof.Rows.Boot.«any» (bM (fw (own:=[("rest",6)]) rfl sZ.nd (ax (pv 5)) (cV rfl) (fun _ _ _ _ _=>zG 6 sZ.nd) (fun _ _ _ _ _=>eZ) (fun _ _ _ _ _=>kZ (fB hu (pv 6) (pv 3)))))))) (aE (aH gN)) aN))))) (aE (aH (kZ (fB hu (pv 1) (pv 3))))))),?_⟩;intro e he;have s0:aC H (upd H e (.dT [])):=zU he;have Ug:∀x,(Vbkoac.union [] l).contains x=l.contains x:=(fun x=>by rw[ajw,ajp,ajp,PM.bg];simp);have PR:∀j,(Vbkoac.union [] (l.take j)).length<=j:=fun j=>by
   have:=eR (l:=Vbkoac.union [] (l.take j)) (m:=l.take j) (PM.eN ako) fun x hx=>by
    rcases PM.bg.mp hx with z|z
    .cases z
    .exact z
   rw[ajb]at this;omega
  refine⟨_,Z,pl,Z,⟨_,ae.of (s0 _ _ mI)⟩,bO (K:=K) (a:=pl) (xs:=as.map V.ref) (fun i σ H'=>∃v4:Option V,σ=[some (.ref ka),some (.ref b),some (.ref pl),some (.ref e),v4,none,none]/\aC H H'/\H' e=some (.dT (seenOf (Vbkoac.union [] (l.take i))))) ⟨none,Z,s0,aA⟩ (fun i σ H' _ ⟨_,_,s1,_⟩=>ae.of (s1 _ _ mI)) ?_ ?_⟩
  .rintro i y σ H1 hi ⟨v4,rfl,s1,uC⟩;obtain⟨a,ha,rfl⟩:=bT hi;obtain⟨m,hm,GH⟩:=hn.lC ha;have hil:i<l.length:=(ai3.mp hm).1;refine⟨_,Z,_,Z,e,_,Z,ji.t uC (s1 _ _ GH) ?_,?_⟩
   .unfold seenOf;rw[aiQ,ai6];have:=PR i;omega
   .refine⟨_,Z,aC.upd s1 he,?_⟩;rw[aA,mU,aa hm,PM.cg]
  rintro σ H1 ⟨v4,rfl,s1,uC⟩;rw[aiQ,Paired.length hn,ai9]at uC;refine⟨_,Z,pl,Z,⟨_,ae.of (s1 _ _ mI)⟩,bO (K:=K) (a:=pl) (xs:=as.map V.ref) (fun i σ H'=>∃v4 v5:Option V,σ=[some (.ref ka),some (.ref b),some (.ref pl),some (.ref e),v4,v5,none]/\aC H H'/\H' e=some (.dT (seenOf (Vbkoac.union [] l)))/\∀m∈l.take i,((au hh m).all fun g=>g.any l.contains)=true) ⟨v4,none,Z,s1,uC,fun m hm=>(by simp at hm)⟩ (fun i σ H' _ ⟨_,_,_,s2,_⟩=>ae.of (s2 _ _ mI)) ?_ ?_⟩
  .rintro i y σ H2 hi ⟨v4',v5,rfl,s2,Ee,fF⟩;obtain⟨a,ha,rfl⟩:=bT hi;obtain⟨m,hm,GH⟩:=hn.lC ha;have fD:=ja hK m;have hml:m∈l:=ai1 hm;refine⟨_,Z,_,Z,ka,hh,a,m,Z,hK.same (aC.x s2),s2 _ _ GH,fun H3 gl s3 pY ⟨ls,uA,jz⟩=>?_⟩;have Bz:=aC.trans s2 s3;have Xj:=s3 _ _ Ee;refine⟨gl,Z,⟨_,ae.of uA⟩,bO (K:=K) (a:=gl) (xs:=ls.map V.ref) (fun j σ H'=>∃v5:Option V,σ=[some (.ref ka),some (.ref b),some (.ref pl),some (.ref e),some (.ref a),v5,none]/\aC H H'/\H' gl=some (.lst (ls.map V.ref))/\Paired (aT H') ls (au hh m)/\H' e=some (.dT (seenOf (Vbkoac.union [] l)))/\∀g∈(au hh m).take j,(g.any l.contains)=true) ⟨v5,Z,Bz,uA,jz,Xj,fun g hg=>(by simp at hg)⟩ (fun j σ H' _ ⟨_,_,_,h3,_⟩=>ae.of h3) ?_ ?_⟩
   .rintro j y σ H4 hj ⟨YA,rfl,s4,Vm,mr,Ed,BF⟩;obtain⟨q,hq,rfl⟩:=bT hj;obtain⟨g,hg,WA,AJ,Og⟩:=aR mr hq;have g4:=fD.2.1 g (ai1 hg);refine⟨_,Z,q,Z,⟨_,ae.of AJ⟩,fun D hD=>eG (K:=K) (a:=q) (xs:=WA.map V.ref) (fun t H'=>aC H4 H'/\H' D=some (.lst (((g.take t).map fun m=>l.contains m).map V.bl))) ⟨zU hD,aA⟩ (fun t H' _ ⟨s5,_⟩=>ae.of (s5 _ _ AJ)) ?_ ?_⟩
    .rintro t y H5 ht ⟨s5,Oi⟩;obtain⟨r,gO,rfl⟩:=bT ht;obtain⟨k,hk,hkr⟩:=Og.lC gO;refine⟨Z,?_⟩;dsimp only[nQ];rw[ai5 rfl];refine⟨_,Z,_,Z,e,_,Z,ba.t (s5 _ _ Ed) (s5 _ _ hkr),?_⟩;refine⟨_,Oi,?_,aC.upd s5 hD,?_⟩
     .rw[aiQ,aiQ,ajb,ai6];omega
     .rw[aA,aa hk,aiY,aiY,fE,Ug];rfl
    .rintro H5 ⟨s5,Oi⟩;rw[aiQ,Paired.length Og,ai9]at Oi;refine⟨D,_,Z,ae.of Oi,_,Z,?_⟩;have aa8:((g.map fun m=>l.contains m).any id)=g.any l.contains:=(by rw[amD];rfl);rw[aa8];have s45:=aC.trans s4 s5;refine aO (fun h1=>?_) (fun h1=>?_)
     .have gf:(g.any l.contains)=false:=(by simpa using h1);have:=hQ H5 s45;have bad:(l.all fun m=>(au hh m).all fun g=>g.any l.contains)=false:=(by rw[amE];refine⟨m,hml,fun z=>?_⟩;rw[ajA]at z;have:=z g (ai1 hg);rw[gf]at this;cases this);rw[qe,bad,akp]at this;exact this
     .have gt:(g.any l.contains)=true:=by
       cases z:g.any l.contains with
       |true=>rfl
       |false=>rw[z]at h1;exact absurd rfl h1
      refine⟨_,Z,s45,s5 _ _ Vm,Paired.a8 mr fun _ _ z=>z.same (aC.x s5),s5 _ _ Ed,fun g' hg'=>?_⟩;rw[aa hg]at hg';rcases ajh.mp hg' with z|z
      .exact BF g' z
      .rw[aiU.mp z];exact gt
   .rintro σ H4 ⟨YA,rfl,s4,Vm,mr,Ed,BF⟩;rw[aiQ,Paired.length mr,ai9]at BF;refine⟨_,_,Z,s4,Ed,fun m' EZ=>?_⟩;rw[aa hm]at EZ;rcases ajh.mp EZ with z|z
    .exact fF m' z
    .rw[aiU.mp z];exact ajA.mpr BF
  .rintro σ H2 ⟨v4',v5,rfl,s2,Ee,fF⟩;rw[aiQ,Paired.length hn,ai9]at fF;refine⟨_,Z,_,Z,e,_,Z,ba.t Ee (s2 _ _ hb),?_⟩;rw[fE,Ug];have:=hQ H2 s2;rw[qe,ajA.mpr fF,Bool.and_true]at this;exact this
end
def Num(mg:Str->Option Value)(x:Str)(z:Int):Prop:=∃t,mg x=some (.int z t)
section
variable{K:W.Frag}
theorem aQ{X:Cx}{x:Str}{z:Int}{pos:Pos}(h:Num X.mg x z)(hg:Gl X x:=by rfl)(hd:(x==("__debug__":Str))=false:=by decide):PE X (.Name x pos) (tC (.int z)):=by obtain⟨t,e⟩:=h;exact D3 hg e ⟨t,Z⟩ hd
abbrev Bt:=top 60
theorem L6:aM ["value"] ["value"] (aF Bt):=dc
def DZ:Sp:=fun vs H Q _=>∃z:Int,vs=[.int z]/\Q (.bl (isId z)) H
theorem Jl(F:bL "is_number" Bt)(c:Num mg "LAST_NUMBER" 999):de 1 ["value"] DZ:=by
 refine d9 L6
 .obtain⟨z,rfl,_⟩:=h;rfl
 .obtain⟨z,rfl,hQ⟩:=h;refine⟨_,aE (aH (nu iM iM aK (pv 0) (aQ c))),?_⟩;refine⟨_,Z,_,_,Z,Z,_,Z,aO (fun h1=>?_) (fun h1=>?_)⟩
  .refine⟨_,_,Z,Z,?_⟩;have e:isId z=decide (z<=999):=(by unfold isId;have:=aja h1;exact aks.mpr ⟨fun q=>q.2,fun q=>⟨this,q⟩⟩);rw[e]at hQ;exact hQ
  .have e:isId z=false:=(by unfold isId;exact ajl fun q=>h1 (ai8 q.1));rw[e]at hQ;exact hQ
abbrev Bu:=top 61
theorem L7:aM ["value"] ["value"] (aF Bu):=dc
def Dc:Sp:=fun vs H Q _=>∃z:Int,vs=[.int z]/\Q (.bl (isDay z)) H
theorem Jm(F:bL "is_day" Bu)(c:Num mg "LAST_DAY" 9999):de 1 ["value"] Dc:=by
 refine d9 L7
 .obtain⟨z,rfl,_⟩:=h;rfl
 .obtain⟨z,rfl,hQ⟩:=h;refine⟨_,aE (aH (nu iM iM aK (pv 0) (aQ c))),?_⟩;refine⟨_,Z,_,_,Z,Z,_,Z,aO (fun h1=>?_) (fun h1=>?_)⟩
  .refine⟨_,_,Z,Z,?_⟩;have e:isDay z=decide (z<=9999):=(by unfold isDay;have:=aja h1;exact aks.mpr ⟨fun q=>q.2,fun q=>⟨this,q⟩⟩);rw[e]at hQ;exact hQ
  .have e:isDay z=false:=(by unfold isDay;exact ajl fun q=>h1 (ai8 q.1));rw[e]at hQ;exact hQ
abbrev Io:=top 75
theorem Bg:aM ["row","size","number"] ["row","size"] (aF Io):=dc
def eS(l:List Int)(k:Nat):Bool:=decide (l.length%k=0)&&l.all fun z=>decide (0<=z)
def Hy(K:W.Frag):Sp:=fun vs H Q _=>∃a l k,vs=[.ref a,.int (k:Nat)]/\ae K H a (l.map V.int)/\l.length<=200/\0<k/\∀H',aC H H'->Q (.bl (eS l k)) H'
theorem MY(F:bL "is_made_of" Io)(T:Txt K mg C):de 1 ["row","size"] (Hy K):=by
 refine d9 Bg
 .obtain⟨a,l,k,rfl,_⟩:=h;rfl
 .obtain⟨a,l,k,rfl,hl,ic,hk,hQ⟩:=h;refine⟨_,aE (aH (tI (fe eO (cE P8 (bA az (by rfl) T.dZ ajK (bM (pv 0))) (pv 1)) aK) (pO (bA lJ (by rfl) T.dZ PyProof.Rows.Boot.«all» (bb (fw (own:=[("number",2)]) rfl Bg.nd (ax (pv 0)) (cV rfl) (fun _ _ _ _ _=>zG 2 Bg.nd) (fun _ _ _ _ _=>eZ) (fun _ _ _ _ _=>fe UB (pv 2) aK)) cA))))),?_⟩;refine⟨_,Z,a,_,Z,.inl hl,_,Z,_,_,Z,Z,(by show(0:Int)<(k:Int);omega),Z,_,Z,aO (fun h1=>?_) (fun h1=>?_)⟩
  .have e1:l.length%k=0:=(by have:=aja h1;injection this with this;rw[aiQ]at this;omega);refine⟨_,Z,a,Z,⟨_,hl⟩,fun D hD=>eG (K:=K) (a:=a) (xs:=l.map V.int) (fun i H'=>aC H H'/\H' D=some (.lst (((l.take i).map fun z=>decide (0<=z)).map V.bl))) ⟨zU hD,aA⟩ (fun i H' _ ⟨s1,_⟩=>aC.seq s1 hl) ?_ ?_⟩
   .rintro i y H' hi ⟨s1,ur⟩;obtain⟨z,hz,rfl⟩:∃z,l[i]?=some z/\y=V.int z:=by
     rw[ajd]at hi;cases e:l[i]? with
     |none=>rw[e]at hi;cases hi
     |some z=>rw[e]at hi;exact⟨z,Z,(ajr hi).symm⟩
    refine⟨Z,?_⟩;dsimp only[nQ];rw[ai5 rfl];refine⟨_,Z,_,_,Z,Z,?_⟩;refine⟨_,ur,?_,aC.upd s1 hD,?_⟩
    .rw[aiQ,aiQ,ajb,ai6];omega
    .rw[aA,aa hz,aiY,aiY];rfl
   .rintro H' ⟨s1,ur⟩;rw[aiQ,ai9]at ur;refine⟨D,_,Z,ae.of ur,?_⟩;have:=hQ H' s1;unfold eS at this;rw[ai8 e1,akv]at this;have e:((l.map fun z=>decide (0<=z)).all id)=l.all fun z=>decide (0<=z):=(by rw[alH];rfl);rw[e];exact this
  .have e1:¬l.length%k=0:=fun z=>h1 (ai8 (by rw[aiQ];have z2:((l.length%k:Nat):Int)=0:=(by rw[z];rfl);rw[Int.natCast_emod]at z2;exact akc V.int z2));have:=hQ H (aC.refl H);unfold eS at this;rw[ajl e1,akB]at this;exact this
end
def qh(H:Hp)(a:Addr)(zs:List Int):Prop:=H a=some (.tup (zs.map V.int))
section
variable{K:W.Frag}
abbrev Iy:=top 77
theorem Bh:aM ["tuples","row","one"] ["tuples"] (aF Iy):=dc
def ID:Sp:=fun vs H Q _=>∃l as Lp,vs=[.ref l]/\H l=some (.lst (as.map V.ref))/\Paired (qh H) as Lp/\Lp.flatten.length<=sizeLine/\∀H' l',aC H H'->H l'=none->H' l'=some (.lst (Lp.flatten.map V.int))->Q (.ref l') H'
theorem Md(F:bL "flat" Iy):de 1 ["tuples"] ID:=by
 refine d9 Bh
 .obtain⟨l,as,Lp,rfl,_⟩:=h;rfl
 .obtain⟨l,as,Lp,rfl,hl,hz,hsz,hQ⟩:=h;refine⟨_,aD (zS 1 Bh.nd (aU cA)) (aD (bU ajm rfl (ax (pv 0)) (zG 2 Bh.nd) (aE (bp (fN aju akn akm CM (pv 1) (bM (pv 2)))))) (aE (aH (pv 1)))),?_⟩;refine⟨ajo _,fun r gO=>?_⟩;refine⟨_,Z,l,Z,⟨_,ae.of (zU gO _ _ hl)⟩,bO (K:=K) (a:=l) (xs:=as.map V.ref) (fun i σ H'=>∃v:Option V,σ=[some (.ref l),some (.ref r),v]/\aC H H'/\H' r=some (.lst ((Lp.take i).flatten.map V.int))) ⟨none,Z,zU gO,aA⟩ (fun i σ H' _ ⟨_,_,s1,_⟩=>ae.of (s1 _ _ hl)) ?_ ?_⟩
  .rintro i y σ H' hi ⟨v,rfl,s1,qy⟩;obtain⟨a,ha,rfl⟩:=bT hi;obtain⟨zs,Ur,hza⟩:=aR hz ha;have len:(Lp.take (i+1)).flatten.length<=Lp.flatten.length:=(by rw[<-aj3 (i+1) Lp,ak1,aiT,aj3];omega);rw[aa Ur,ak1,aiT]at len;simp only[akV,amK,ajs]at len;refine⟨_,Z,.inl ⟨Z,_,ae.of qy⟩,_,Z,r,a,_,_,Z,Z,qy,gF.of (s1 _ _ hza),?_,?_⟩
   .rw[aiQ,aiQ];omega
   .refine⟨_,Z,aC.upd s1 gO,?_⟩;rw[aA,aa Ur,ak1,aiY];simp
  .rintro σ H' ⟨v,rfl,s1,qy⟩;rw[aiQ,Paired.length hz,ai9]at qy;exact⟨_,Z,hQ H' r s1 gO qy⟩
end
end Pp
namespace L2
open PySem PySem.Spec PyProof.Rows
variable{C:Addr}{X:Cx}{ps:List Str}{sp:Sp}{p:Pos}
structure jt(P:Program)(w:World)(K:W.Frag)(mg:Str->Option Value)(base:Heap)(k:Nat)(x:Str)(C:Addr)(ps:List Str)(sp:Sp):Prop where
 ex:∃f fd,Mk K C f/\gU P w K mg base vT k f fd ps sp/\mg x=some (.ref C)/\Binds K fd ps []
theorem mZ{k:Nat}{x:Str}{pos:Pos}{e:Expr}{es:List Expr}{t:TA}(D:jt X.prog X.w X.K X.mg X.base k x C ps sp)(hr:cu (k+1) X.A)(ha:PA X (e::es) t)(hg:Gl X x:=by rfl)(AL:(x==("__debug__":Str))=false:=by decide) (he:starEach (e::es) X.env=(false,eval e X.env)::starEach es X.env:=by rfl)(mI:(backTo pos (starEach es X.env)).any (·.1)=false:=by rfl):PE X (.Call (.Name x p) (e::es) [] pos) (DO C sp [] E0 t):=by obtain⟨f,fd,M,F,hm,hb⟩:=D.ex;exact MG M F hr hg hm hb .nil JZ ha AL he mI
theorem MH{k:Nat}{x:Str}{pos:Pos}(D:jt X.prog X.w X.K X.mg X.base k x C ps sp)(hr:cu (k+1) X.A)(hg:Gl X x:=by rfl)(AL:(x==("__debug__":Str))=false:=by decide):PE X (.Call (.Name x p) [] [] pos) (DO C sp [] E0 uy):=by obtain⟨f,fd,M,F,hm,hb⟩:=D.ex;exact JW M F hr hg hm hb .nil JZ AL
def fY(C:Addr)(fs:List V->List (Str×V))(n:Nat):Sp:=fun vs H Q _=>∃x dx us,vs= .ref x::us/\us.length=n/\H x=some (.ins C dx [])/\∀H',H' x=some (.ins C dx (fs us))->(∀b,b≠x->H' b=H b)->Q .cW H'
theorem made{fs:List V->List (Str×V)}{n:Nat}{vs:List V}{H1:Hp}{Q:VK}{E:XK}(hl:vs.length=n)(h:∀x dx H2,H1 x=none->H1 dx=none->dx≠x->aC H1 H2->H2 x=some (.ins C dx (fs vs))->H2 dx=some (.own x)->(∀b,b≠x->b≠dx->H2 b=H1 b)->Q (.ref x) H2):∀x dx,H1 x=none->H1 dx=none->dx≠x->fY C fs n (.ref x::(vs++[])) (upd (upd H1 dx (.own x)) x (.ins C dx [])) (fun v H2=>v= .cW/\Q (.ref x) H2) E:=fun x dx hx hd ne=>by
 refine⟨x,dx,vs++[],Z,by rw[ajs];exact hl,aA,fun H' h1 h2=>⟨Z,?_⟩⟩;rw[ajs]at h1;refine h x dx H' hx hd ne (fun b o e=>?_) h1 ?_ (fun b b1 b2=>?_)
 .rw[h2 b (aG e hx),aB (aG e hx),aB (aG e hd)];exact e
 .rw[h2 dx ne,aB ne,aA]
 .rw[h2 b b1,aB b1,aB b2]
end L2
namespace Pp
open PySem PySem.Spec PyProof.Rows L2
variable{C:Cs}{a f:Addr}{fd:FuncData}{P:Program}{w:World}{mg:Str->Option Value}{base:Heap}{H:Hp}{o:HO}{p:Paper}{kv:Key×V}{s:State}{r:Revoke}{fp:List Addr}{v:V}{i:Nat}
section
variable{K:W.Frag}
abbrev xZ:Stmt:=inClass (top 22) 0
theorem IP:aM ["self","papers","revocations"] ["self","papers","revocations"] (aF xZ):=dc
def Cw(us:List V):List (Str×V):=be "revocations" (us.getD 1 .cW) (be "papers" (us.getD 0 .cW) [])
theorem Fg(F:o3 K "__init__" "Known.__init__" xZ f fd)(T:Txt K mg C):de 1 ["self","papers","revocations"] (fY C.known Cw 2):=by
 refine d9 IP
 .obtain⟨x,dx,us,rfl,hl,_⟩:=h;show us.length+1=3;omega
 .obtain⟨x,dx,us,rfl,hl,hx,hQ⟩:=h
  match us,hl with
  | [u0,u1],_=>
   refine⟨_,aD (bf (pv 0) (pv 1) rfl) (aE (bf (pv 0) (pv 2) rfl)),?_⟩;refine⟨_,Z,_,Z,x,C.known,dx,_,Z,hx,T.cK,T.anK,(by show 0<1000;decide),?_⟩;refine⟨_,Z,_,Z,x,C.known,dx,_,Z,aA,T.cK,T.anK,(ajR (bD _ _ _) (by decide)),?_⟩;exact hQ _ aA fun b hb=>by rw[aB hb,aB hb]
abbrev By:Stmt:=inClass (top 19) 0
theorem L8:aM ["self","number","numbers","row","end"] ["self","number","numbers","row","end"] (aF By):=dc
def En(us:List V):List (Str×V):=be "end" (us.getD 3 .cW) (be "row" (us.getD 2 .cW) (be "numbers" (us.getD 1 .cW) (be "number" (us.getD 0 .cW) [])))
theorem CS(a b:Str)(u v:V):(be a u (be b v [])).length<1000:=ajR (ajq (bD _ _ _) (ak4 (bD _ _ _))) (by decide)
theorem J3(a b c:Str)(u v x:V):(be a u (be b v (be c x []))).length<1000:=ajR (ajq (bD _ _ _) (ak4 (ajq (bD _ _ _) (ak4 (bD _ _ _))))) (by decide)
theorem QR(a b c d:Str)(u v x y:V):(be a u (be b v (be c x (be d y [])))).length<1000:=ajR (ajq (bD _ _ _) (ak4 (ajq (bD _ _ _) (ak4 (ajq (bD _ _ _) (ak4 (bD _ _ _))))))) (by decide)
theorem Jq(F:o3 K "__init__" "Call.__init__" By f fd)(T:Txt K mg C):de 1 ["self","number","numbers","row","end"] (fY C.call En 4):=by
 refine d9 L8
 .obtain⟨x,dx,us,rfl,hl,_⟩:=h;show us.length+1=5;omega
 .obtain⟨x,dx,us,rfl,hl,hx,hQ⟩:=h
  match us,hl with
  | [u0,u1,u2,u3],_=>
   refine⟨_,aD (bf (pv 0) (pv 1) rfl) (aD (bf (pv 0) (pv 2) rfl) (aD (bf (pv 0) (pv 3) rfl) (aE (bf (pv 0) (pv 4) rfl)))),?_⟩;refine⟨_,Z,_,Z,x,C.call,dx,_,Z,hx,T.cC,T.WZ,(by show 0<1000;decide),?_⟩;refine⟨_,Z,_,Z,x,C.call,dx,_,Z,aA,T.cC,T.WZ,(ajR (bD _ _ _) (by decide)),?_⟩;refine⟨_,Z,_,Z,x,C.call,dx,_,Z,aA,T.cC,T.WZ,CS _ _ _ _,?_⟩;refine⟨_,Z,_,Z,x,C.call,dx,_,Z,aA,T.cC,T.WZ,J3 _ _ _ _ _ _,?_⟩;exact hQ _ aA fun b hb=>by rw[aB hb,aB hb,aB hb,aB hb]
abbrev xY:Stmt:=inClass (top 91) 0
theorem IM:aM ["self","number","first","last","grounds","heard"] ["self","number","first","last","grounds","heard"] (aF xY):=dc
def pz(us:List V):List (Str×V):=be "heard" (us.getD 4 .cW) (be "grounds" (us.getD 3 .cW) (be "last" (us.getD 2 .cW) (be "first" (us.getD 1 .cW) (be "number" (us.getD 0 .cW) []))))
theorem Ff(F:o3 K "__init__" "Paper.__init__" xY f fd)(T:Txt K mg C):de 1 ["self","number","first","last","grounds","heard"] (fY C.paper pz 5):=by
 refine d9 IM
 .obtain⟨x,dx,us,rfl,hl,_⟩:=h;show us.length+1=6;omega
 .obtain⟨x,dx,us,rfl,hl,hx,hQ⟩:=h
  match us,hl with
  | [u0,u1,u2,u3,u4],_=>
   refine⟨_,aD (bf (pv 0) (pv 1) rfl) (aD (bf (pv 0) (pv 2) rfl) (aD (bf (pv 0) (pv 3) rfl) (aD (bf (pv 0) (pv 4) rfl) (aE (bf (pv 0) (pv 5) rfl))))),?_⟩;refine⟨_,Z,_,Z,x,C.paper,dx,_,Z,hx,T.cP,T.E1,(by show 0<1000;decide),?_⟩;refine⟨_,Z,_,Z,x,C.paper,dx,_,Z,aA,T.cP,T.E1,(ajR (bD _ _ _) (by decide)),?_⟩;refine⟨_,Z,_,Z,x,C.paper,dx,_,Z,aA,T.cP,T.E1,CS _ _ _ _,?_⟩;refine⟨_,Z,_,Z,x,C.paper,dx,_,Z,aA,T.cP,T.E1,J3 _ _ _ _ _ _,?_⟩;refine⟨_,Z,_,Z,x,C.paper,dx,_,Z,aA,T.cP,T.E1,QR _ _ _ _ _ _ _ _,?_⟩;exact hQ _ aA fun b hb=>by rw[aB hb,aB hb,aB hb,aB hb,aB hb]
abbrev Ig:Stmt:=inClass (top 92) 0
theorem PX:aM ["self","number","paper","since","heard"] ["self","number","paper","since","heard"] (aF Ig):=dc
def GV(us:List V):List (Str×V):=be "taken_back" .cW (be "heard" (us.getD 3 .cW) (be "since" (us.getD 2 .cW) (be "paper" (us.getD 1 .cW) (be "number" (us.getD 0 .cW) []))))
theorem MR(F:o3 K "__init__" "Revocation.__init__" Ig f fd)(T:Txt K mg C):de 1 ["self","number","paper","since","heard"] (fY C.rev GV 4):=by
 refine d9 PX
 .obtain⟨x,dx,us,rfl,hl,_⟩:=h;show us.length+1=5;omega
 .obtain⟨x,dx,us,rfl,hl,hx,hQ⟩:=h
  match us,hl with
  | [u0,u1,u2,u3],_=>
   refine⟨_,aD (bf (pv 0) (pv 1) rfl) (aD (bf (pv 0) (pv 2) rfl) (aD (bf (pv 0) (pv 3) rfl) (aD (bf (pv 0) (pv 4) rfl) (aE (bf (pv 0) iA rfl))))),?_⟩;refine⟨_,Z,_,Z,x,C.rev,dx,_,Z,hx,T.cR,T.HM,(by show 0<1000;decide),?_⟩;refine⟨_,Z,_,Z,x,C.rev,dx,_,Z,aA,T.cR,T.HM,(ajR (bD _ _ _) (by decide)),?_⟩;refine⟨_,Z,_,Z,x,C.rev,dx,_,Z,aA,T.cR,T.HM,CS _ _ _ _,?_⟩;refine⟨_,Z,_,Z,x,C.rev,dx,_,Z,aA,T.cR,T.HM,J3 _ _ _ _ _ _,?_⟩;refine⟨_,Z,x,C.rev,dx,_,Z,aA,T.cR,T.HM,QR _ _ _ _ _ _ _ _,?_⟩;exact hQ _ aA fun b hb=>by rw[aB hb,aB hb,aB hb,aB hb,aB hb]
abbrev I0:Stmt:=inClass (top 93) 0
theorem Pd:aM ["self","number","paper","day","stood","made"] ["self","number","paper","day","stood","made"] (aF I0):=dc
def Cy(us:List V):List (Str×V):=be "made" (us.getD 4 .cW) (be "stood" (us.getD 3 .cW) (be "day" (us.getD 2 .cW) (be "paper" (us.getD 1 .cW) (be "number" (us.getD 0 .cW) []))))
theorem Mf(F:o3 K "__init__" "Decision.__init__" I0 f fd)(T:Txt K mg C):de 1 ["self","number","paper","day","stood","made"] (fY C.dec Cy 5):=by
 refine d9 Pd
 .obtain⟨x,dx,us,rfl,hl,_⟩:=h;show us.length+1=6;omega
 .obtain⟨x,dx,us,rfl,hl,hx,hQ⟩:=h
  match us,hl with
  | [u0,u1,u2,u3,u4],_=>
   refine⟨_,aD (bf (pv 0) (pv 1) rfl) (aD (bf (pv 0) (pv 2) rfl) (aD (bf (pv 0) (pv 3) rfl) (aD (bf (pv 0) (pv 4) rfl) (aE (bf (pv 0) (pv 5) rfl))))),?_⟩;refine⟨_,Z,_,Z,x,C.dec,dx,_,Z,hx,T.cD,T.yY,(by show 0<1000;decide),?_⟩;refine⟨_,Z,_,Z,x,C.dec,dx,_,Z,aA,T.cD,T.yY,(ajR (bD _ _ _) (by decide)),?_⟩;refine⟨_,Z,_,Z,x,C.dec,dx,_,Z,aA,T.cD,T.yY,CS _ _ _ _,?_⟩;refine⟨_,Z,_,Z,x,C.dec,dx,_,Z,aA,T.cD,T.yY,J3 _ _ _ _ _ _,?_⟩;refine⟨_,Z,_,Z,x,C.dec,dx,_,Z,aA,T.cD,T.yY,QR _ _ _ _ _ _ _ _,?_⟩;exact hQ _ aA fun b hb=>by rw[aB hb,aB hb,aB hb,aB hb,aB hb]
abbrev xf:Stmt:=inClass (top 94) 0
theorem IS:aM ["self"] ["self"] (aF xf):=dc
def zD(C:Cs):Sp:=fun vs H Q _=>∃x dx,vs=[.ref x]/\H x=some (.ins C.cw dx [])/\∀H' pd rd dl fs,H' x=some (.ins C.cw dx fs)->Fd fs "today" (.int 0)->Fd fs "papers" (.ref pd)->Fd fs "revocations" (.ref rd)->Fd fs "decisions" (.ref dl)->fs.length<=10->H' pd=some (.dK [])->H' rd=some (.dK [])->H' dl=some (.lst [])->pd≠rd->H pd=none->H rd=none->H dl=none->(∀b o,b≠x->H b=some o->H' b=some o)->Q .cW H'
theorem Fj(F:o3 K "__init__" "House.__init__" xf f fd)(T:Txt K mg C):de 1 ["self"] (zD C):=by
 refine d9 IS
 .obtain⟨x,dx,rfl,_⟩:=h;rfl
 .obtain⟨x,dx,rfl,hx,hQ⟩:=h;refine⟨_,aD (bf (pv 0) aK rfl) (aD (bf (pv 0) nq rfl) (aD (bf (pv 0) nq rfl) (aE (bf (pv 0) (aU cA) rfl)))),?_⟩;refine⟨_,Z,x,C.cw,dx,_,Z,hx,T.cH,T.Gq,(by show 0<1000;decide),?_⟩;intro pd yC;have n1:pd≠x:=(fun q=>by rw[q,aA]at yC;cases yC);refine⟨_,Z,x,C.cw,dx,_,Z,(by rw[aB (ajC n1)];exact aA),T.cH,T.Gq,(ajR (bD _ _ _) (by decide)),?_⟩;intro rd jm;have n2:rd≠x:=(fun q=>by rw[q,aA]at jm;cases jm);have n3:rd≠pd:=(fun q=>by rw[q,aB n1,aA]at jm;cases jm);refine⟨_,Z,x,C.cw,dx,_,Z,(by rw[aB (ajC n2)];exact aA),T.cH,T.Gq,CS _ _ _ _,?_⟩;refine⟨ajo _,fun dl uq=>?_⟩;have n4:dl≠x:=(fun q=>by rw[q,aA]at uq;cases uq);have n5:dl≠rd:=(fun q=>by rw[q,aB n2,aA]at uq;cases uq);have n6:dl≠pd:=(fun q=>by rw[q,aB n1,aB (ajC n3),aB n1,aA]at uq;cases uq);refine⟨_,Z,x,C.cw,dx,_,Z,(by rw[aB (ajC n4)];exact aA),T.cH,T.Gq,J3 _ _ _ _ _ _,?_⟩;refine hQ _ pd rd dl _ aA ?_ ?_ ?_ ?_ ?_ ?_ ?_ ?_ (ajC n3) ?_ ?_ ?_ ?_
  .rfl
  .rfl
  .rfl
  .rfl
  .show 4<=10;decide
  .rw[aB n1,aB (ajC n6),aB n1,aB (ajC n3),aB n1,aA]
  .rw[aB n2,aB (ajC n5),aB n2,aA]
  .rw[aB n4,aA]
  .rw[aB n1]at yC;exact yC
  .rw[aB n2,aB n3,aB n2]at jm;exact jm
  .rw[aB n4,aB n5,aB n4,aB n6,aB n4]at uq;exact uq
  .intro b o nb e;have p1:H pd=none:=(by rw[aB n1]at yC;exact yC);have p2:H rd=none:=(by rw[aB n2,aB n3,aB n2]at jm;exact jm);have p3:H dl=none:=(by rw[aB n4,aB n5,aB n4,aB n6,aB n4]at uq;exact uq);rw[aB nb,aB (aG e p3),aB nb,aB (aG e p2),aB nb,aB (aG e p1),aB nb];exact e
end
open PM (fS)
structure jh(s:State):Prop where
 pf:s.papers.length<=24
 pn:(s.papers.map fun p=>p.id).Nodup
 rf:s.revokes.length<=20
 rn:(s.revokes.map fun r=>r.num).Nodup
 df:s.decisions.length<=30
 cl:s.closed=s.decisions.any fun x=>x.known==s.today
 da:∀x∈s.decisions,x.answer=0\/x.answer=1
 dk:∀x∈s.decisions,x.known<=s.today
 td:isDay (s.today:Int)=true
def fI(c:Addr):Option HO->Prop
 |some (.lst _)=>False
 |some (.tup _)=>False
 |some (.ins D _ _)=>D≠c
 |_=>True
def E2(c:Addr):Option HO->Prop
 |some (.ins D _ _)=>D≠c
 |_=>True
theorem fI.ns{c:Addr}:∀{o:Option HO},fI c o->lL o
 |none,_=>True.intro
 |some (.lst _),h=>h
 |some (.tup _),h=>h
 |some (.ins _ _ _),_=>True.intro
 |some (.dK _),_=>True.intro
 |some (.dT _),_=>True.intro
 |some (.set _ _),_=>True.intro
 |some (.own _),_=>True.intro
 |some (.xd _),_=>True.intro
 |some (.met _ _),_=>True.intro
 |some (.Lc _ _),_=>True.intro
 |some (.br _ _),_=>True.intro
 |some (.hU _),_=>True.intro
 |some (.ext _),_=>True.intro
theorem fH.put{x:Addr}(h:fH C H x p)(n:fI C.paper (H a)):fH C (upd H a o) x p:=by obtain⟨dx,fs,gl,e,q1,q2,q3,q4,q5,g⟩:=h.ex;refine⟨⟨dx,fs,gl,?_,q1,q2,q3,q4,q5,g.put n.ns⟩,h.bits,h.fD⟩;rw[aB (fun q=>by rw[<-q,e]at n;exact n rfl)];exact e
theorem fR.put(h:fR C H kv p)(n:fI C.paper (H a)):fR C (upd H a o) kv p:=let⟨e,b,e2,q⟩:=h;⟨e,b,e2,q.put n⟩
theorem dX.put{x:Addr}(h:dX C H x r)(n:E2 C.rev (H a)):dX C (upd H a o) x r:=by obtain⟨dx,fs,e,q⟩:=h.ex;refine⟨dx,fs,?_,q⟩;rw[aB (fun q=>by rw[<-q,e]at n;exact n rfl)];exact e
theorem iW.put(h:iW C H kv r)(n:E2 C.rev (H a)):iW C (upd H a o) kv r:=let⟨e,b,e2,q⟩:=h;⟨e,b,e2,q.put n⟩
theorem fT.put{x:Addr}{r:Nat×Decision}(h:fT C H x r)(n:E2 C.dec (H a)):fT C (upd H a o) x r:=by obtain⟨dx,fs,e,q⟩:=h.ex;refine⟨dx,fs,?_,q⟩;rw[aB (fun q=>by rw[<-q,e]at n;exact n rfl)];exact e
def S9:V->Addr
 | .ref a=>a
 |_=>0
structure aW(C:Cs)(H:Hp)(a:Addr)(s:State)(fp:List Addr):Prop where
 ex:∃dx fs pd rd dl pk rk ds,H a=some (.ins C.cw dx fs)/\fs.length<=10/\Fd fs "today" (.int s.today)/\Fd fs "papers" (.ref pd)/\Fd fs "revocations" (.ref rd)/\Fd fs "decisions" (.ref dl)/\
  H pd=some (.dK pk)/\Paired (fR C (off H dl)) pk s.papers/\H rd=some (.dK rk)/\Paired (iW C H) rk s.revokes/\H dl=some (.lst (ds.map V.ref))/\Paired (fT C H) ds (numbered s.decisions)/\pd≠rd/\fp=a::pd::rd::dl::rk.map fun kv=>S9 kv.2
 ok:jh s
theorem aW.same{H':Hp}(h:aW C H a s fp)(sx:aw H H'):aW C H' a s fp:=by
 obtain⟨dx,fs,pd,rd,dl,pk,rk,ds,e1,e2,e3,e4,e5,e6,e7,e8,e9,o9,iU,iT,wo,r6⟩:=h.ex;have k:∀{b o},H b=some o->(∀ps,o≠ .hU ps)->H' b=some o:=fun{b o} x n=>sx.kp b o x n;refine⟨⟨dx,fs,pd,rd,dl,pk,rk,ds,k e1 nofun,e2,e3,e4,e5,e6,k e7 nofun,Paired.a8 e8 fun _ _ z=>z.same ?_,k e9 nofun,Paired.a8 o9 fun _ _ z=>z.same sx,k iU nofun,Paired.a8 iT fun _ _ z=>z.same sx,wo,r6⟩,h.ok⟩;refine⟨fun b o e n=>?_,fun b ps e=>?_⟩
 .by_cases q:b=dl
  .rw[q]at e⊢;rw[show off H dl dl=_ from aA]at e;rw[show off H' dl dl=_ from aA];exact e
  .rw[show off H dl b=_ from aB q]at e;rw[show off H' dl b=_ from aB q];exact sx.kp _ _ e n
 .have q:b≠dl:=(fun q=>by rw[q,show off H dl dl=_ from aA]at e;cases e);rw[show off H dl b=_ from aB q]at e;rw[show off H' dl b=_ from aB q];exact sx.tb _ _ e
theorem fR.on{dl:Addr}(h:fR C (off H dl) kv p)(e:H dl=some o):fR C H kv p:=by have n:fI C.paper (off H dl dl):=(by rw[show off H dl dl=_ from aA];exact True.intro);have:=fR.put (o:=o) h n;rw[eX,xF e]at this;exact this
theorem aW.there(h:aW C H a s fp){b:Addr}(hb:b∈fp):∃o,H b=some o:=by
 obtain⟨dx,fs,pd,rd,dl,pk,rk,ds,e1,e2,e3,e4,e5,e6,e7,e8,e9,o9,iU,iT,wo,r6⟩:=h.ex;rw[r6]at hb;rcases aiZ.mp hb with z|hb
 .rw[z];exact⟨_,e1⟩
 rcases aiZ.mp hb with z|hb
 .rw[z];exact⟨_,e7⟩
 rcases aiZ.mp hb with z|hb
 .rw[z];exact⟨_,e9⟩
 rcases aiZ.mp hb with z|hb
 .rw[z];exact⟨_,iU⟩
 obtain⟨kv,lX,rfl⟩:=ai7.mp hb;obtain⟨i,hi,ei⟩:=ajY lX;obtain⟨r,_,_,c,ec,hc⟩:=aR o9 (aiW hi);rw[ei]at ec;obtain⟨dy,gs,jo,_⟩:=hc.ex;rw[ec];exact⟨_,jo⟩
theorem fg(ok:jh s)(k:Nat):fS (knownAt s k):=by refine⟨ajq (ajk _ _) ok.pf,?_⟩;exact alz (List.Sublist.map _ alr) ok.pn
section
variable{K:W.Frag}
theorem kq{a b:Str}{fs:List (Str×V)}(h:¬b=a):(be a v fs).lookup b=fs.lookup b:=by rw[iR,ai0 h]
theorem zu{a:Str}{fs:List (Str×V)}:(be a v fs).lookup a=some v:=by rw[iR,ai5 rfl]
abbrev sr:=top 23
theorem iw:aM ["house","day","papers","paper","revocations","revocation"] ["house","day"] (aF sr):=dc
def vg(C:Cs):Sp:=fun vs H Q _=>∃a s fp k,vs=[.ref a,.int (k:Nat)]/\aW C H a s fp/\∀H' ka,aC H H'->H ka=none->aq C H' ka (knownAt s k)->Q (.ref ka) H'
theorem HY{aP:List (Key×V)}{k:Key}(h:∀kv∈aP,kv.1≠k):putK aP k=fun v=>aP++[(k,v)]:=by funext v;unfold putK;have:(aP.any fun kv=>decide (kv.1=k))=false:=(akW.mpr fun kv lX=>by simpa using h kv lX);rw[this];simp
theorem Jv{l:List Nat}(nd:l.Nodup){j:Nat}{x:Nat}(hi:l[i]?=some x)(hj:l[j]?=some x):i=j:=zg nd hi hj
theorem B9(F:bL "known_at" sr)(T:Txt K mg C)(dC:cO 2 "counts_at" ["revocation","day"] (zF C))(cK:jt P w K mg base 1 "Known" C.known ["self","papers","revocations"] (fY C.known Cw 2)):de 3 ["house","day"] (vg C):=by
 refine d9 iw
 .obtain⟨a,s,fp,k,rfl,_⟩:=h;rfl
 .obtain⟨a,st,fp,k,rfl,hH,hQ⟩:=h;obtain⟨dx,fs,pd,rd,dl,pk,rk,ds,e1,e2,e3,e4,e5,e6,e7,e8,e9,o9,iU,iT,wo,r6⟩:=hH.ex;have ok:=hH.ok;have hu:=bu hr;have n1:=T.nH "papers" (by decide);have n2:=T.nH "revocations" (by decide);have m1:=T.nP "heard" (by decide);have m2:=T.nP "number" (by decide);refine⟨_,aD (zS 2 iw.nd nq) (aD (gZ (bU ajm rfl (i3 (aL (pv 0) rfl)) (zG 3 iw.nd) (aE (aZ (aY iM (aL (pv 3) rfl) (pv 1)) (aE (ee hu (pv 2) (aL (pv 3) rfl) (pv 3) rfl)) aN)))) (aD (gZ (kX (i:=4) (own:=[("revocation",5)]) rfl iw.nd rfl rfl rfl (i3 (aL (pv 0) rfl)) (cV rfl) (fun _ _ _ _ _=>zG 5 iw.nd) (fun _ _ _ _ _=>gI (bF (aJ dC hr (cY (pv 5) (pv 1))))) (fun _ _ _ _ _=>pv 5))) (aE (aH (mZ cK hr (cY (pv 2) (pv 4))))))),?_⟩;intro d hd;have SG:pd≠d:=aG e7 hd;have nrd:rd≠d:=aG e9 hd;have s0:aC H (upd H d (.dK [])):=zU hd;refine⟨pd,_,s0 _ _ e7,True.intro,fun od=>?_⟩;have hda:H a≠none:=(by rw[e1];exact fun z=>nomatch z);have CD:a≠pd:=ak e1 e7 nofun;have Mu:a≠rd:=ak e1 e9 nofun;have eaL:upd (upd H d (.dK [])) pd (.br od (.dK pk)) a=some (.ins C.cw dx fs):=(by rw[aB CD];exact s0 _ _ e1);have hP:Paired (fR C H) pk st.papers:=Paired.a8 e8 fun _ _ z=>z.on iU;have hlen:pk.length=st.papers.length:=Paired.length hP;have hPL:∀od,Paired (fR C (upd (upd H d (.dK [])) pd (.br od (.dK pk)))) pk st.papers:=fun od=>Paired.a8 hP fun _ _ z=>(z.same (aC.x s0)).put (by rw[aB SG,e7];exact True.intro);refine⟨_,Z,a,_,dx,fs,_,Z,eaL,T.cH,n1,e4,pd,od,pk,Z,aA,lD (J:=Ry pd od pk) (n:=pk.length) (fun i σ H'=>∃(v3:Option V) (kv:List (Key×V)),σ=[some (.ref a),some (.int (k:Nat)),some (.ref d),v3,none,none]/\H'=upd (upd (upd H d (.dK [])) pd (.br od (.dK pk))) d (.dK kv)/\Paired (fR C H) kv ((st.papers.take i).filter fun p=>decide (p.heard<=k))/\kv.length<=i) ⟨none,[],Z,(xF (by rw[aB (ajC SG),aA])).symm,.nil,ai2 _⟩ ?_ ?_ ?_⟩
  .rintro i σ H' hi ⟨v3,kv,rfl,rfl,_⟩;exact⟨by rw[aB SG,aA],hi⟩
  .rintro i x σ H1 H2 hi ⟨v3,kv,rfl,eH,lX,hkl⟩ ⟨rfl,kk,jn⟩;obtain⟨p,hp,ekk,c,ec,wU⟩:=aR (hPL od) jn;have K6:x= .ref c:=ec;subst K6;have Z7:fH C H2 c p:=(by rw[eH];exact wU.put (by rw[aB (ajC SG),aA];exact True.intro));obtain⟨dy,gs,gl,jo,g1,g2,g3,g4,g5,gg⟩:=Z7.ex;have tk:(st.papers.take (i+1)).filter (fun p=>decide (p.heard<=k))=(st.papers.take i).filter (fun p=>decide (p.heard<=k))++(if p.heard<=k then [p]else []):=by
    rw[aa hp,aj8];congr 1;by_cases q:p.heard<=k
    .rw[ai5 q];simp[q]
    .rw[ai0 q];simp[q]
   refine⟨_,Z,c,_,dy,gs,_,Z,jo,T.cP,m1,g4,_,Z,_,_,Z,Z,_,Z,aO (fun h1=>?_) (fun h1=>?_)⟩
   .have le:p.heard<=k:=(by have:=aja h1;omega);refine⟨_,Z,_,Z,_,Z,c,_,dy,gs,_,Z,jo,T.cP,m2,g1,d,_,Z,ji.k (k:=Sum.inl (p.id:Int)) (by rw[eH];exact aA) ?_,?_⟩
    .have:=ok.pf;rw[ai6];omega
    .have hpH:fH C H c p:=(by obtain⟨p',Qn,_,c',K6,Z8⟩:=aR hP jn;rw[hp]at Qn;cases Qn;cases K6;exact Z8);have nk:∀kv0∈kv,kv0.1≠Sum.inl (p.id:Int):=(fun kv0 h0 e0=>by obtain⟨j,hj,ej⟩:=ajY h0;obtain⟨q,hq,ek,_⟩:=aR lX (aiW hj);rw[ej,e0]at ek;injection ek with ek;have hm:=(ajy.mp (ai1 hq)).1;obtain⟨t,ht,et⟩:=ajY hm;rw[ajb]at ht;have z1:(st.papers.map fun p=>p.id)[t]?=some p.id:=(by rw[ajd];rw[alg]at et;rw[aiW (by omega),et];show some q.id=some p.id;congr 1;omega);have z2:(st.papers.map fun p=>p.id)[i]?=some p.id:=(by rw[ajd,hp];rfl);have:=Jv ok.pn z1 z2;omega);refine⟨_,kv++[(Sum.inl (p.id:Int),V.ref c)],Z,?_,?_,?_⟩
     .rw[eH,eX,HY nk]
     .rw[tk,ai5 le];exact bC ⟨Z,c,Z,hpH⟩ lX
     .rw[aiT];simp;omega
   .have le:¬p.heard<=k:=fun z=>h1 (ai8 (by omega));refine⟨_,kv,Z,eH,?_,by omega⟩;rw[tk,ai0 le,ajs];exact lX
  .rintro σ H1 ⟨v3,kv,rfl,eH,lX,hkl⟩;rw[hlen,ai9]at lX;have qb:H1 pd=some (.br od (.dK pk)):=(by rw[eH,aB SG,aA]);refine⟨⟨qb,ai2 _⟩,qb,?_⟩;have eU:upd H1 pd (.dK pk)=upd H d (.dK kv):=by
    rw[eH];funext b;by_cases q:b=pd
    .rw[q,aA,aB SG,e7]
    .rw[aB q];by_cases q2:b=d
     .rw[q2,aA,aA]
     .rw[aB q2,aB q,aB q2,aB q2]
   rw[eU];have s1:aC H (upd H d (.dK kv)):=zU hd;refine⟨rd,_,s1 _ _ e9,True.intro,fun rZ=>?_⟩;have aba:upd (upd H d (.dK kv)) rd (.br rZ (.dK rk)) a=some (.ins C.cw dx fs):=(by rw[aB Mu];exact s1 _ _ e1);have hRL:Paired (iW C (upd (upd H d (.dK kv)) rd (.br rZ (.dK rk)))) rk st.revokes:=Paired.a8 o9 fun _ _ z=>(z.same (aC.x s1)).put (by rw[aB nrd,e9];exact True.intro);have VU:rk.length=st.revokes.length:=Paired.length o9;refine⟨_,Z,a,_,dx,fs,_,Z,aba,T.cH,n2,e5,rd,rZ,rk,Z,aA,fun l hl=>oN (J:=Ry rd rZ rk) (n:=rk.length) (fun i H'=>∃as,aC (upd (upd H d (.dK kv)) rd (.br rZ (.dK rk))) H'/\H' l=some (.lst (as.map V.ref))/\Paired (dX C H') as ((st.revokes.take i).filter fun r=>eI r k)) ⟨[],zU hl,aA,.nil⟩ (fun i H' hi ⟨_,s2,_⟩=>⟨s2 _ _ aA,hi⟩) ?_ ?_⟩
   .rintro i x H2 H3 hi ⟨as,s2,ky,has⟩ ⟨eH2,kk,jn⟩;subst eH2;obtain⟨r,hr0,ekk,c,ec,Cb⟩:=aR hRL jn;have K6:x= .ref c:=ec;subst K6;have tk:(st.revokes.take (i+1)).filter (fun r=>eI r k)=(st.revokes.take i).filter (fun r=>eI r k)++(if eI r k=true then [r]else []):=by
     rw[aa hr0,aj8];congr 1;by_cases q:eI r k=true
     .rw[ai5 q];simp[q]
     .rw[ai0 q];simp[q]
    have VD:=Cb.same (aC.x s2);refine⟨Z,?_⟩;refine⟨_,Z,_,Z,c,r,k,Z,VD,_,Z,aO (fun h1=>?_) (fun h1=>?_)⟩
    .refine⟨_,Z,_,ky,?_,as++[c],aC.upd s2 hl,?_,?_⟩
     .rw[aiQ,Paired.length has,ai6];have q1:=ajk (fun r=>eI r k) (st.revokes.take i);rw[ajb]at q1;have:=ok.rf;omega
     .rw[aA,aiY];rfl
     .rw[tk,ai5 h1];exact Paired.a8 (bC VD has) fun _ _ z=>z.put (by rw[ky];exact True.intro)
    .refine⟨as,s2,ky,?_⟩;rw[tk,ai0 h1,ajs];exact has
   .rintro H2 ⟨as,s2,ky,has⟩;rw[VU,ai9]at has;have RW:H2 rd=some (.br rZ (.dK rk)):=s2 _ _ aA;refine⟨⟨RW,ai2 _⟩,RW,?_⟩;have s3:aC (upd H d (.dK kv)) (upd H2 rd (.dK rk)):=aC.unlock (s1 _ _ e9) s2;have ym:upd H2 rd (.dK rk) l=some (.lst (as.map V.ref)):=(by rw[aB (ak ky RW nofun)];exact ky);have V3:Paired (dX C (upd H2 rd (.dK rk))) as (st.revokes.filter fun r=>eI r k):=Paired.a8 has fun _ _ z=>z.put (by rw[RW];exact True.intro);have hd3:upd H2 rd (.dK rk) d=some (.dK kv):=s3 _ _ aA;have Vc:Paired (fR C (upd H2 rd (.dK rk))) kv (st.papers.filter fun p=>decide (p.heard<=k)):=Paired.a8 lX fun _ _ z=>z.same (aC.x (aC.trans s1 s3));generalize upd H2 rd (.dK rk)=H3 at s3 ym V3 hd3 Vc;refine⟨_,Z,_,Z,made rfl fun x NW H4 hx HG jZ s4 G8 _ _=>?_⟩;refine hQ H4 x (aC.trans s1 (aC.trans s3 s4)) (aC.free (aC.trans s1 s3) hx) ⟨NW,_,d,l,kv,as,G8,Z,Z,s4 _ _ hd3,Paired.a8 Vc fun _ _ z=>z.same (aC.x s4),s4 _ _ ym,Paired.a8 V3 fun _ _ z=>z.same (aC.x s4)⟩
end
theorem bX{α:Type}{l:List α}{x:α}(f:α->Bool)(h:l[i]?=some x):(l.take (i+1)).filter f=(l.take i).filter f++(if f x=true then [x]else []):=by
 rw[aa h,aj8];congr 1;by_cases q:f x=true
 .rw[ai5 q];simp[q]
 .rw[ai0 q];simp[q]
section
variable{K:W.Frag}
abbrev sk:=top 25
theorem pI:aM ["known","left_out","one"] ["known","left_out"] (aF sk):=dc
def vd(C:Cs):Sp:=fun vs H Q _=>∃ka h c r,vs=[.ref ka,.ref c]/\aq C H ka h/\dX C H c r/\h.revokes.length<=20/\∀H' kb,aC H H'->H kb=none->aq C H' kb (Vbkoac.without h r.num)->Q (.ref kb) H'
theorem B7(F:bL "without_revocation" sk)(T:Txt K mg C)(cK:jt P w K mg base 1 "Known" C.known ["self","papers","revocations"] (fY C.known Cw 2)):de 3 ["known","left_out"] (vd C):=by
 refine d9 pI
 .obtain⟨ka,h,c,r,rfl,_⟩:=h;rfl
 .obtain⟨ka,hh,c,r,rfl,hK,hc,Sq,hQ⟩:=h;obtain⟨dx,fs,pd,rl,aP,rs,ha,f1,f2,e1,p1,e2,p2⟩:=hK.ex;obtain⟨dy,gs,jo,g1,g2,g3,g4,g5,g6⟩:=hc.ex;have n1:=T.nK "papers" (by decide);have n2:=T.nK "revocations" (by decide);have m1:=T.nR "number" (by decide);refine⟨_,aE (aH (mZ cK hr (bb (aL (pv 0) rfl) (bb (fw (own:=[("one",2)]) rfl pI.nd (ax (aL (pv 0) rfl)) (cV rfl) (fun _ _ _ _ _=>zG 2 pI.nd) (fun _ _ _ _ _=>gI (aY n8 (eF (K:=K) (pv 2) rfl) (eF (K:=K) (pv 1) rfl))) (fun _ _ _ _ _=>pv 2)) cA)))),?_⟩;refine⟨_,Z,ka,_,dx,fs,_,Z,ha,T.cK,n1,f1,_,Z,ka,_,dx,fs,_,Z,ha,T.cK,n2,f2,rl,Z,⟨_,ae.of e2⟩,fun D hD=>eG (K:=K) (a:=rl) (xs:=rs.map V.ref) (fun i H'=>∃as,aC H H'/\H' D=some (.lst (as.map V.ref))/\Paired (dX C H') as ((hh.revokes.take i).filter fun x=>x.num !=r.num)) ⟨[],zU hD,aA,.nil⟩ (fun i H' _ ⟨_,s1,_⟩=>ae.of (s1 _ _ e2)) ?_ ?_⟩
  .rintro i y H' hi ⟨as,s1,ur,has⟩;obtain⟨b,hb,rfl⟩:=bT hi;obtain⟨x,hx,CW⟩:=aR p2 hb;have hx1:=CW.same (aC.x s1);obtain⟨dz,qs,pZ,q1,q2,q3,q4,q5,q6⟩:=hx1.ex;refine⟨Z,?_⟩;refine⟨_,Z,b,_,dz,qs,_,Z,pZ,T.cR,m1,q1,_,Z,c,_,dy,gs,_,Z,s1 _ _ jo,T.cR,m1,g1,Z,_,Z,?_⟩;have ec:(!decide (V.int (x.num:Nat)=V.int (r.num:Nat)))=(x.num !=r.num):=by
    by_cases q:x.num=r.num
    .rw[q];simp
    .have:¬V.int (x.num:Nat)=V.int (r.num:Nat):=(fun z=>by injection z with z;omega);rw[ajl this];simp[q]
   rw[ec];refine aO (fun h1=>?_) (fun h1=>?_)
   .refine⟨_,Z,_,ur,?_,as++[b],aC.upd s1 hD,?_,?_⟩
    .rw[aiQ,Paired.length has,ai6];have z:=ajk (fun x:Revoke=>x.num !=r.num) (hh.revokes.take i);rw[ajb]at z;omega
    .rw[aA,aiY];rfl
    .rw[bX _ hx,ai5 h1];exact Paired.a8 (bC hx1 has) fun _ _ z=>z.put (by rw[ur];exact True.intro)
   .refine⟨as,s1,ur,?_⟩;rw[bX _ hx,ai0 h1,ajs];exact has
  .rintro H' ⟨as,s1,ur,has⟩;rw[aiQ,Paired.length p2,ai9]at has;refine made rfl fun x NW H4 hx HG jZ s4 G8 _ _=>?_;exact hQ H4 x (aC.trans s1 s4) (aC.free s1 hx) ⟨NW,_,pd,D,aP,as,G8,Z,Z,s4 _ _ (s1 _ _ e1),Paired.a8 p1 fun _ _ z=>(z.same (aC.x s1)).same (aC.x s4),s4 _ _ ur,Paired.a8 has fun _ _ z=>z.same (aC.x s4)⟩
abbrev Iz:=top 26
theorem IU:aM ["known","number","revocation"] ["known","number"] (aF Iz):=dc
def IE(C:Cs):Sp:=fun vs H Q _=>∃a h n,vs=[.ref a,.int (n:Nat)]/\aq C H a h/\(h.revokes.find? (fun r=>r.num==n)=none->Q .cW H)/\∀r c,h.revokes.find? (fun r=>r.num==n)=some r->dX C H c r->Q (.ref c) H
theorem Me(F:bL "find_revocation" Iz)(T:Txt K mg C):de 1 ["known","number"] (IE C):=by
 refine d9 IU
 .obtain⟨a,hh,n,rfl,_⟩:=h;rfl
 .obtain⟨a,hh,n,rfl,⟨dx,fs,pd,rl,aP,rs,ha,f1,f2,e1,p1,e2,p2⟩,q1,q2⟩:=h;have n2:=T.nK "revocations" (by decide);have m1:=T.nR "number" (by decide);refine⟨_,aD (bU ajm rfl (ax (aL (pv 0) rfl)) (zG 2 IU.nd) (aE (aZ (aY eO (aL (pv 2) rfl) (pv 1)) (aE (aH (pv 2))) aN))) (aE (aH iA)),?_⟩;refine⟨_,Z,a,_,dx,fs,_,Z,ha,T.cK,n2,f2,rl,Z,⟨_,ae.of e2⟩,bO (K:=K) (a:=rl) (xs:=rs.map V.ref) (fun i σ H'=>∃v:Option V,σ=[some (.ref a),some (.int (n:Nat)),v]/\H'=H/\∀r∈hh.revokes.take i,(r.num==n)=false) ⟨none,Z,Z,fun r hr=>(by simp at hr)⟩ (fun i σ H' _ ⟨_,_,e,_⟩=>by rw[e];exact ae.of e2) ?_ ?_⟩
  .rintro i y σ H' hi ⟨v,rfl,rfl,oP⟩;obtain⟨c,hc,rfl⟩:=bT hi;obtain⟨r,M8,Cb⟩:=aR p2 hc;obtain⟨dz,qs,pZ,g1,g2,g3,g4,g5,g6⟩:=Cb.ex;refine⟨_,Z,c,_,dz,qs,_,Z,pZ,T.cR,m1,g1,_,Z,Z,_,Z,aO (fun h1=>?_) (fun h1=>?_)⟩
   .have e:r.num=n:=(by have:=aja h1;injection this with this;omega);exact⟨_,Z,q2 r c (pq M8 oP (by simp[e])) Cb⟩
   .have e:¬r.num=n:=fun z=>h1 (ai8 (by rw[z]));exact⟨_,Z,Z,hW (p:=fun r=>r.num==n) M8 oP (by simp[e])⟩
  .rintro σ H' ⟨v,rfl,rfl,oP⟩;rw[aiQ,show rs.length=hh.revokes.length from Paired.length p2,ai9]at oP;exact q1 (akg.mpr fun r hr=>by rw[oP r hr];exact ajg)
abbrev Iu:=top 37
theorem Pb:aM ["known","pair"] ["known","pair"] (aF Iu):=dc
def IA(C:Cs):Sp:=fun vs H Q _=>∃ka h b n,vs=[.ref ka,.ref b]/\aq C H ka h/\fS h/\TupAt H b n/\∀H',aC H H'->Q (.bl (standsOn h n.1 n.2)) H'
theorem Ma(F:bL "is_standing" Iu)(dR:cT 6):de 7 ["known","pair"] (IA C):=by
 refine d9 Pb
 .obtain⟨ka,h,b,n,rfl,_⟩:=h;rfl
 .obtain⟨ka,hh,b,n,rfl,hK,ok,hb,hQ⟩:=h;have hu:=bu hr;refine⟨_,aE (aH (kZ (fB hu (pv 1) (aJ dR hr (cY (pv 0) (aU (bM (pv 1)))))))),?_⟩;refine⟨_,Z,_,Z,_,Z,(zL rfl),fun l hl=>?_⟩;have s1:aC H (upd H l (.lst [V.ref b])):=zU hl;refine⟨ka,hh,l,[n],Z,hK.same (aC.x s1),ok,⟨[b],aA,.cons (s1 _ _ hb) .nil⟩,(by show 1<=1000;decide),fun H' d R s2 hd HH RI=>?_⟩;refine⟨d,_,Z,ba.t HH (s2 _ _ (s1 _ _ hb)),?_⟩;rw[dm,aj2];have e:inR R n=standsOn hh n.1 n.2:=dw.inR ok (RI.rk n (aiU.mpr rfl)) (bq hh n);show Q (.bl (inR R n)) H';rw[e];exact hQ H' (aC.trans s1 s2)
abbrev Bq:=top 38
theorem xU:aM ["known","day","number"] ["known","day"] (aF Bq):=dc
def iN(h:Known)(d:Nat):List Nd:=h.papers.map fun p=>(p.id,d)
def DW(C:Cs):Sp:=fun vs H Q _=>∃ka h d,vs=[.ref ka,.int (d:Nat)]/\aq C H ka h/\fS h/\∀H' l,aC H H'->H l=none->aT H' l (iN h d)->Q (.ref l) H'
theorem Ji(F:bL "papers_on" Bq)(T:Txt K mg C):de 1 ["known","day"] (DW C):=by
 refine d9 xU
 .obtain⟨ka,h,d,rfl,_⟩:=h;rfl
 .obtain⟨ka,hh,d,rfl,hK,ok,hQ⟩:=h;obtain⟨dx,fs,pd,rl,aP,rs,ha,f1,f2,e1,p1,e2,p2⟩:=hK.ex;have n1:=T.nK "papers" (by decide);refine⟨_,aE (aH (jQ (fw (own:=[("number",2)]) rfl xU.nd (gc (aL (pv 0) rfl)) (cV rfl) (fun _ _ _ _ _=>zG 2 xU.nd) (fun _ _ _ _ _=>eZ) (fun _ _ _ _ _=>cZ (cY (pv 2) (pv 1)))))),?_⟩;refine⟨pd,_,e1,True.intro,fun od=>?_⟩;have CD:ka≠pd:=ak ha e1 nofun;have hlen:aP.length=hh.papers.length:=Paired.length p1;refine⟨_,Z,ka,_,dx,fs,_,Z,(by rw[aB CD];exact ha),T.cK,n1,f1,pd,od,Z,.inl ⟨aP,aA,fun D hD=>oN (J:=Sz pd od aP) (n:=aP.length) (fun i H'=>∃as,aC (upd H pd (.br od (.dK aP))) H'/\H' D=some (.lst (as.map V.ref))/\aI H' as ((hh.papers.take i).map fun p=>(p.id,d))) ⟨[],zU hD,aA,.nil⟩ (fun i H' hi ⟨_,s1,_⟩=>⟨s1 _ _ aA,hi⟩) ?_ ?_⟩⟩
  .rintro i x H1 H2 hi ⟨as,s1,kC,has⟩ ⟨eH,kk,v,jn,ex⟩;subst eH;obtain⟨p,hp,ek,_⟩:=aR p1 jn;have GX:kk=Sum.inl (p.id:Int):=ek;subst GX;subst ex;refine⟨Z,?_⟩;dsimp only[nQ];rw[ai5 rfl];refine⟨_,Z,_,Z,(zL rfl),fun t ht=>?_⟩;have Fw:D≠t:=aG kC ht;refine⟨_,(by rw[aB Fw];exact kC),?_,as++[t],aC.upd (aC.upd s1 (aC.free s1 ht)) hD,?_,?_⟩
   .rw[aiQ,Paired.length has,aiQ,ajb,ai6];have:=ok.fD;omega
   .rw[aA,aiY];rfl
   .rw[aa hp,aiY];refine aI.upd (aI.snoc (n:=(p.id,d)) aA (aI.upd has (by rw[ht];exact True.intro))) (by rw[aB Fw,kC];exact True.intro)
  .rintro H1 ⟨as,s1,kC,has⟩;have qb:H1 pd=some (.br od (.dK aP)):=s1 _ _ aA;refine⟨⟨qb,ai2 _⟩,qb,?_⟩;rw[hlen,ai9]at has;have wF:D≠pd:=ak kC qb nofun;have Xs:H D=none:=(by rw[aB wF]at hD;exact hD);exact hQ _ D (aC.unlock e1 s1) Xs ⟨as,by rw[aB wF];exact kC,aI.upd has (by rw[qb];exact True.intro)⟩
abbrev Ic:=top 39
theorem xS:aM ["known","day","ranks","number"] ["known","day"] (aF Ic):=dc
def ah(l:List Nat):List V:=l.map fun(i:Nat)=>V.int (i:Int)
def Hr(C:Cs):Sp:=fun vs H Q _=>∃ka h d,vs=[.ref ka,.int (d:Nat)]/\aq C H ka h/\fS h/\∀H' l,aC H H'->H l=none->H' l=some (.lst (ah (allOn h d)))->Q (.ref l) H'
theorem Hl{h:Known}(ok:fS h)(d:Nat){R:List (Nd×Nat)}(RI:sF h (iN h d) R):(h.papers.filter fun p=>inR R (p.id,d)).map (fun p=>p.id)=allOn h d:=by rw[PM.oq ok];congr 1;refine akA fun p hp=>?_;exact dw.inR ok (RI.rk (p.id,d) (ai7.mpr ⟨p,hp,Z⟩)) (bq h (p.id,d))
theorem MP(F:bL "standing_on" Ic)(T:Txt K mg C)(dR:cT 6)(dP:oG 6):de 7 ["known","day"] (Hr C):=by
 refine d9 xS
 .obtain⟨ka,h,d,rfl,_⟩:=h;rfl
 .obtain⟨ka,hh,d,rfl,hK,ok,hQ⟩:=h;have hu:=bu hr;have n1:=T.nK "papers" (by decide);refine⟨_,aD (gT (i:=2) xS.nd rfl (Or.inr rfl) (aJ dR hr (cY (pv 0) (aJ dP hr (cY (pv 0) (pv 1)))))) (aE (aH (jQ (fw (own:=[("number",3)]) rfl xS.nd (gc (aL (pv 0) rfl)) (cV rfl) (fun _ _ _ _ _=>zG 3 xS.nd) (fun _ _ _ _ _=>gI (b9 (fB hu (cZ (cY (pv 3) (pv 1))) (pv 2)))) (fun _ _ _ _ _=>pv 3))))),?_⟩;refine⟨_,Z,_,Z,_,Z,ka,hh,d,Z,hK,ok,fun H1 l s1 hl rh=>?_⟩;refine⟨ka,hh,l,iN hh d,Z,hK.same (aC.x s1),ok,rh,(by unfold iN;rw[aiQ];have:=ok.fD;omega),fun H2 rd R s2 jm vF RI=>?_⟩;have b0:=aC.trans s1 s2;obtain⟨dx,fs,pd,rl,aP,rs,ha,f1,f2,e1,p1,e2,p2⟩:=(hK.same (aC.x b0)).ex;refine⟨pd,_,e1,True.intro,fun od=>?_⟩;have CD:ka≠pd:=ak ha e1 nofun;have ZE:rd≠pd:=ak vF e1 nofun;have hlen:aP.length=hh.papers.length:=Paired.length p1;refine⟨_,Z,ka,_,dx,fs,_,Z,(by rw[aB CD];exact ha),T.cK,n1,f1,pd,od,Z,.inl ⟨aP,aA,fun D hD=>oN (J:=Sz pd od aP) (n:=aP.length) (fun i H'=>aC (upd H2 pd (.br od (.dK aP))) H'/\H' D=some (.lst (ah (((hh.papers.take i).filter fun p=>inR R (p.id,d)).map fun p=>p.id)))) ⟨zU hD,aA⟩ (fun i H' hi ⟨s1,_⟩=>⟨s1 _ _ aA,hi⟩) ?_ ?_⟩⟩
  .rintro i x H3 H4 hi ⟨s3,oQ⟩ ⟨eH,kk,v,jn,ex⟩;subst eH;obtain⟨p,hp,ek,_⟩:=aR p1 jn;have GX:kk=Sum.inl (p.id:Int):=ek;subst GX;subst ex;refine⟨Z,?_⟩;refine⟨_,Z,_,Z,(zL rfl),fun t ht=>?_⟩;have Fw:D≠t:=aG oQ ht;have Zz:upd H2 pd (.br od (.dK aP)) rd=some (.dT (lj R)):=(by rw[aB ZE];exact vF);have EV:=s3 _ _ Zz;have UX:rd≠t:=aG EV ht;refine⟨_,Z,rd,_,Z,ba.t (k:=bZ (p.id,d)) (by rw[aB UX];exact EV) aA,_,Z,?_⟩;rw[dm,aj2];have nF:upd H4 t (.tup ((bZ (p.id,d)).map kV)) D=some (.lst (ah (((hh.papers.take i).filter fun p=>inR R (p.id,d)).map fun p=>p.id))):=(by rw[aB Fw];exact oQ);have s4:aC (upd H2 pd (.br od (.dK aP))) (upd H4 t (.tup ((bZ (p.id,d)).map kV))):=aC.upd s3 (aC.free s3 ht);show(if inR R (p.id,d)=true then _ else _);refine aO (fun h1=>?_) (fun h1=>?_)
   .refine⟨_,Z,_,nF,?_,aC.upd s4 hD,?_⟩
    .unfold ah;rw[aiQ,aiQ,ai6];have z:=ajk (fun p:Paper=>inR R (p.id,d)) (hh.papers.take i);rw[ajb]at z;have:=ok.fD;omega
    .rw[aA,bX _ hp,ai5 h1];unfold ah;rw[aiY,aiY];rfl
   .refine⟨s4,?_⟩;rw[bX _ hp,ai0 h1,ajs];exact nF
  .rintro H3 ⟨s3,oQ⟩;have qb:H3 pd=some (.br od (.dK aP)):=s3 _ _ aA;refine⟨⟨qb,ai2 _⟩,qb,?_⟩;rw[hlen,ai9,Hl ok d RI]at oQ;have wF:D≠pd:=ak oQ qb nofun;have qY:H2 D=none:=(by rw[aB wF]at hD;exact hD);exact hQ _ D (aC.trans b0 (aC.unlock e1 s3)) (aC.free b0 qY) (by rw[aB wF];exact oQ)
end
end Pp
namespace L2
open PySem PySem.Spec PyProof.Rows
variable{X:Cx}
theorem IJ{K:W.Frag}(h:X.K=K:=by rfl):SlR X (T4 K):=by subst h;exact lQ
theorem uV{K:W.Frag}(h:X.K=K:=by rfl):mM X (.type "tuple") (fun xs H Q=>∃p ys,xs=[.ref p]/\((ae K H p ys/\∀l,H l=none->Q (.ref l) (upd H l (.tup ys)))\/(gF K H p ys/\Q (.ref p) H))):=by subst h;exact vN
theorem Av:bootBuiltins "tuple"=some (.type "tuple"):=by decide+kernel
end L2
namespace Pp
open PySem PySem.Spec PyProof.Rows L2
open PM (fS)
variable{C:Cs}{P:Program}{w:World}{mg:Str->Option Value}{base:Heap}{f:Addr}{fd:FuncData}{h:Known}{s:State}{d n z:Int}{num:Nat}{a:Nd}{R:List (Nd×Nat)}{H:Hp}
section
variable{K:W.Frag}
def kU(s:State)(k:Int):Int:=if isDay k=false then-2 else if(s.today:Int)<k then-7 else 0
def qo(s:State)(d k:Int):Int:=if isDay d=false then-2 else kU s k
def fV(s:State)(n d k:Int):Int:=if isId n=false then-2 else qo s d k
abbrev Ii:=top 73
theorem PY:aM ["house","known_day"] ["house","known_day"] (aF Ii):=dc
def Ht(C:Cs):Sp:=fun vs H Q _=>∃a s fp z,vs=[.ref a,.int z]/\aW C H a s fp/\Q (.int (kU s z)) H
theorem MT(F:bL "refusal_of_known_day" Ii)(T:Txt K mg C)(dD:gz 1)(c2:Num mg "OUT_OF_RANGE" (-2))(c7:Num mg "NOT_YET" (-7))(c0:Num mg "ACCEPTED" 0):de 2 ["house","known_day"] (Ht C):=by
 refine d9 PY
 .obtain⟨a,st,fp,z,rfl,_⟩:=h;rfl
 .obtain⟨a,st,fp,z,rfl,hH,hQ⟩:=h;obtain⟨dx,fs,pd,rd,dl,pk,rk,ds,e1,e2,e3,_⟩:=hH.ex;refine⟨_,aD (aZ (cn (bF (aJ dD hr (bM (pv 1))))) (aE (aH (aQ c2))) aN) (aD (aZ (aY wB (pv 1) (aL (pv 0) rfl)) (aE (aH (aQ c7))) aN) (aE (aH (aQ c0)))),?_⟩;unfold kU at hQ;refine⟨_,Z,z,Z,_,Z,?_⟩;cases hd:isDay z with
  |false=>
   rw[hd,ai5 rfl]at hQ;exact aO (fun _=>hQ) (fun q=>absurd rfl q)
  |true=>
   rw[hd,ai0 nofun]at hQ;refine aO nofun (fun _=>?_);refine⟨_,Z,_,Z,a,_,dx,fs,_,Z,e1,T.cH,T.Gq,e3,_,_,Z,Z,_,Z,aO (fun h1=>?_) (fun h1=>?_)⟩
   .rw[ai5 (aja h1)]at hQ;exact hQ
   .rw[ai0 (fun q=>h1 (ai8 q))]at hQ;exact hQ
abbrev Ij:=top 72
theorem PZ:aM ["house","day","known_day"] ["house","day","known_day"] (aF Ij):=dc
def Hu(C:Cs):Sp:=fun vs H Q _=>∃a s fp d z,vs=[.ref a,.int d,.int z]/\aW C H a s fp/\Q (.int (qo s d z)) H
theorem MU(F:bL "refusal_of_days" Ij)(dD:gz 2)(dK:dE 2)(c2:Num mg "OUT_OF_RANGE" (-2)):de 3 ["house","day","known_day"] (Hu C):=by
 refine d9 PZ
 .obtain⟨a,st,fp,d,z,rfl,_⟩:=h;rfl
 .obtain⟨a,st,fp,d,z,rfl,hH,hQ⟩:=h;refine⟨_,aD (aZ (cn (bF (aJ dD hr (bM (pv 1))))) (aE (aH (aQ c2))) aN) (aE (aH (aJ dK hr (cY (pv 0) (pv 2))))),?_⟩;unfold qo at hQ;refine⟨_,Z,d,Z,_,Z,?_⟩;cases hd:isDay d with
  |false=>
   rw[hd,ai5 rfl]at hQ;exact aO (fun _=>hQ) (fun q=>absurd rfl q)
  |true=>
   rw[hd,ai0 nofun]at hQ;exact aO nofun (fun _=>⟨_,Z,_,Z,a,st,fp,z,Z,hH,hQ⟩)
abbrev Ik:=top 71
theorem Pa:aM ["house","number","day","known_day"] ["house","number","day","known_day"] (aF Ik):=dc
def Hv(C:Cs):Sp:=fun vs H Q _=>∃a s fp n d z,vs=[.ref a,.int n,.int d,.int z]/\aW C H a s fp/\Q (.int (fV s n d z)) H
theorem MV(F:bL "refusal_of_asked" Ik)(dN:cB 3)(dK:fK 3)(c2:Num mg "OUT_OF_RANGE" (-2)):de 4 ["house","number","day","known_day"] (Hv C):=by
 refine d9 Pa
 .obtain⟨a,st,fp,n,d,z,rfl,_⟩:=h;rfl
 .obtain⟨a,st,fp,n,d,z,rfl,hH,hQ⟩:=h;refine⟨_,aD (aZ (cn (bF (aJ dN hr (bM (pv 1))))) (aE (aH (aQ c2))) aN) (aE (aH (aJ dK hr (ny (pv 0) (pv 2) (pv 3))))),?_⟩;unfold fV at hQ;refine⟨_,Z,n,Z,_,Z,?_⟩;cases hd:isId n with
  |false=>
   rw[hd,ai5 rfl]at hQ;exact aO (fun _=>hQ) (fun q=>absurd rfl q)
  |true=>
   rw[hd,ai0 nofun]at hQ;exact aO nofun (fun _=>⟨_,Z,_,Z,_,Z,a,st,fp,d,z,Z,hH,hQ⟩)
def chunk(k:Nat)(l:List Int):List (List Int):=(List.range (l.length/k)).map fun i=>(l.drop (i*k)).take k
theorem uU(k:Nat)(hk:0<k)(a r:List Int)(ha:a.length=k):chunk k (a++r)=a::chunk k r:=by
 unfold chunk;have e:(a++r).length/k=r.length/k+1:=(by rw[aiT,ha,Nat.add_comm,Nat.add_div_right _ hk]);rw[e,List.range_succ_eq_map,aji,aj0];congr 1
 .rw[Nat.zero_mul,amn,ame ha]
 .refine aj6 fun i _=>?_;show((a++r).drop ((i+1)*k)).take k=(r.drop (i*k)).take k;rw[Nat.add_mul,Nat.one_mul,Nat.add_comm,<-ha,List.drop_length_add_append]
theorem wu(k:Nat):chunk k []=[]:=by unfold chunk;simp
abbrev Bp:=top 76
theorem xT:aM ["row","size","place"] ["row","size"] (aF Bp):=dc
def DV(K:W.Frag):Sp:=fun vs H Q _=>∃a l k,vs=[.ref a,.int (k:Nat)]/\ae K H a (l.map V.int)/\l.length<=200/\(k=2\/k=3)/\l.length%k=0/\∀H' r as,aC H H'->H r=none->H' r=some (.lst (as.map V.ref))->Paired (qh H') as (chunk k l)->Q (.ref r) H'
theorem rg2:∀n:Fin 201,n.val%2=0->Builtin.Range.small 0 (n.val:Int) 2=true/\Builtin.Range.rangeSize 0 (n.val:Int) 2=((n.val/2:Nat):Int):=by decide+kernel
theorem rg3:∀n:Fin 201,n.val%3=0->Builtin.Range.small 0 (n.val:Int) 3=true/\Builtin.Range.rangeSize 0 (n.val:Int) 3=((n.val/3:Nat):Int):=by decide+kernel
theorem rgK{n k:Nat}(hn:n<=200)(hk:k=2\/k=3)(hm:n%k=0):RgC 0 (n:Int) (k:Int) (n/k):=by
 rcases hk with rfl|rfl
 .have:=rg2 ⟨n,by omega⟩ hm;exact⟨by decide,by decide,this.1,this.2⟩
 .have:=rg3 ⟨n,by omega⟩ hm;exact⟨by decide,by decide,this.1,this.2⟩
theorem Jh(F:bL "parts" Bp)(T:Txt K mg C):de 1 ["row","size"] (DV K):=by
 refine d9 xT
 .obtain⟨a,l,k,rfl,_⟩:=h;rfl
 .obtain⟨a,l,k,rfl,hl,ic,hk,hm,hQ⟩:=h;refine⟨_,aE (aH (fw (own:=[("place",2)]) rfl xT.nd (vx (by rfl) T.dZ (ny aK (bA az (by rfl) T.dZ ajK (bM (pv 0))) (pv 1))) (cV rfl) (fun _ _ _ _ _=>zG 2 xT.nd) (fun _ _ _ _ _=>eZ) (fun _ _ _ _ _=>pP (uV (K:=K)) (by rfl) T.dZ Av (bM (i4 (IJ (K:=K)) (pv 0) (gJ (pv 2)) (gJ (cE gC (pv 2) (pv 1)))))))),?_⟩;have Uk:0<k:=(by rcases hk with rfl|rfl<;>decide);refine⟨_,Z,a,_,Z,.inl hl,_,Z,_,_,_,l.length/k,(by rw[aiQ]),rgK ic hk hm,fun D hD=>oN (J:=S0 0 (k:Int) (l.length/k)) (n:=l.length/k) (fun i H'=>∃as,aC H H'/\H' D=some (.lst (as.map V.ref))/\Paired (qh H') as ((List.range i).map fun j=>(l.drop (j*k)).take k)) ⟨[],zU hD,aA,.nil⟩ (fun i H' hi _=>hi) ?_ ?_⟩
  .rintro i x H1 H2 hi ⟨as,s1,kC,has⟩ ⟨eH,ex⟩;subst eH;subst ex;refine⟨Z,?_⟩;dsimp only[nQ];rw[ai5 rfl];refine⟨_,Z,_,Z,_,Z,_,Z,_,Z,_,_,Z,Z,_,Z,a,_,Z,aC.seq s1 hl,fun q hq=>?_⟩;have Ue:D≠q:=aG kC hq;refine⟨q,_,Z,.inl ⟨ae.of aA,fun t ht=>?_⟩⟩;have ntq:t≠q:=(fun z=>by rw[z,aA]at ht;cases ht);have oQ:upd (upd H2 q (.lst (jf (l.map V.int) (some (0+(i:Nat)*(k:Int))) (some (0+(i:Nat)*(k:Int)+(k:Int)))))) t (.tup (jf (l.map V.int) (some (0+(i:Nat)*(k:Int))) (some (0+(i:Nat)*(k:Int)+(k:Int))))) D=some (.lst (as.map V.ref)):=(by rw[aB (fun z=>by rw[<-z,aB Ue,kC]at ht;cases ht),aB Ue];exact kC);have htH:H2 t=none:=(by rw[aB ntq]at ht;exact ht);have cut:jf (l.map V.int) (some (0+(i:Nat)*(k:Int))) (some (0+(i:Nat)*(k:Int)+(k:Int)))=((l.drop (i*k)).take k).map V.int:=(by have hik:i*k+k<=l.length:=(by have h1:(i+1)*k<=(l.length/k)*k:=Nat.mul_le_mul_right k hi;have h2:=Nat.div_mul_le_self l.length k;rw[Nat.add_mul,Nat.one_mul]at h1;omega);have z1:(0+(i:Nat)*(k:Int))=((i*k:Nat):Int):=(by rw[Int.zero_add];exact(Int.natCast_mul i k).symm);have z2:(0+(i:Nat)*(k:Int)+(k:Int))=((i*k+k:Nat):Int):=(by rw[z1];omega);unfold jf;rw[z1,show(((i*k:Nat):Int)+(k:Int))=((i*k+k:Nat):Int) by omega,HT.jL,HT.jL,aiQ,akO hik,akO (show i*k<=l.length by omega),am9,amv];congr 1;omega);refine⟨_,oQ,?_,as++[t],aC.upd (aC.upd (aC.upd s1 (aC.free s1 hq)) (aC.free s1 htH)) hD,?_,?_⟩
   .rw[aiQ,Paired.length has,aiQ,aj7,ai6];have:=Nat.div_le_self l.length k;omega
   .rw[aA,aiY];rfl
   .rw[alc,aiY];have k1:∀o,Paired (qh (upd (upd (upd H2 q (.lst (jf (l.map V.int) (some (0+(i:Nat)*(k:Int))) (some (0+(i:Nat)*(k:Int)+(k:Int)))))) t o) D (.lst (as.map V.ref++[V.ref t])))) as ((List.range i).map fun j=>(l.drop (j*k)).take k):=(fun o=>Paired.a8 has fun b zs e=>by have e':H2 b=some (.tup (zs.map V.int)):=e;show upd _ _ _ b=_;rw[aB (ak e' kC nofun),aB (aG e' htH),aB (aG e' hq)];exact e');refine bC ?_ (k1 _);show upd _ D _ t=_;have ntD:t≠D:=(fun z=>by rw[z]at ht;rw[aB Ue,kC]at ht;cases ht);rw[aB ntD,aA,cut]
  .rintro H1 ⟨as,s1,kC,has⟩;exact⟨ai2 _,hQ H1 D as s1 hD kC has⟩
end
def BX(r:List Int):Vbkoac.Step:=⟨(r.getD 0 0).toNat,(r.getD 1 0).toNat,(r.getD 2 0).toNat⟩
def xx(r:List Int):Nd:=((r.getD 0 0).toNat,(r.getD 1 0).toNat)
theorem y6:∀(f:Nat) (l:List Int),l.length<f->stepsIn f l=if eS l 3=true then some ((chunk 3 l).map BX)else none
 |0,l,h=>by omega
 |f+1,[],h=>by rw[wu];rfl
 |f+1,[a],h=>rfl
 |f+1,[a,b],h=>rfl
 |f+1,a::b::c::r,h=>by
  have ih:=y6 f r (by simp at h;omega);show(if a<0\/b<0\/c<0 then none else(stepsIn f r).map fun l=>(⟨a.toNat,b.toNat,c.toNat⟩:Vbkoac.Step)::l)=_;have hc:=uU 3 (by decide) [a,b,c] r rfl;have Eh:chunk 3 (a::b::c::r)=[a,b,c]::chunk 3 r:=hc;have hm:eS (a::b::c::r) 3=(decide (0<=a)&&(decide (0<=b)&&(decide (0<=c)&&eS r 3))):=(by unfold eS;simp only[ajc,ale];have hz:decide ((r.length+1+1+1)%3=0)=decide (r.length%3=0):=aks.mpr (by omega);rw[hz];cases decide (r.length%3=0)<;>cases decide (0<=a)<;>cases decide (0<=b)<;>cases decide (0<=c)<;>simp);rw[hm,Eh,ih];by_cases ha:a<0
  .rw[ai5 (.inl ha),ajl (by omega)];rfl
  .by_cases hb:b<0
   .rw[ai5 (.inr (.inl hb)),ai8 (show 0<=a by omega),ajl (show¬0<=b by omega)];rfl
   .by_cases hc:c<0
    .rw[ai5 (.inr (.inr hc)),ai8 (show 0<=a by omega),ai8 (show 0<=b by omega),ajl (show¬0<=c by omega)];rfl
    .rw[ai0 (by omega),ai8 (show 0<=a by omega),ai8 (show 0<=b by omega),ai8 (show 0<=c by omega)];simp only[akv];cases eS r 3<;>rfl
theorem zc:∀(f:Nat) (l:List Int),l.length<f->nodesIn f l=if eS l 2=true then some ((chunk 2 l).map xx)else none
 |0,l,h=>by omega
 |f+1,[],h=>by rw[wu];rfl
 |f+1,[a],h=>rfl
 |f+1,a::b::r,h=>by
  have ih:=zc f r (by simp at h;omega);show(if a<0\/b<0 then none else(nodesIn f r).map fun l=>(a.toNat,b.toNat)::l)=_;have Eh:chunk 2 (a::b::r)=[a,b]::chunk 2 r:=uU 2 (by decide) [a,b] r rfl;have hm:eS (a::b::r) 2=(decide (0<=a)&&(decide (0<=b)&&eS r 2)):=(by unfold eS;simp only[ajc,ale];have hz:decide ((r.length+1+1)%2=0)=decide (r.length%2=0):=aks.mpr (by omega);rw[hz];cases decide (r.length%2=0)<;>cases decide (0<=a)<;>cases decide (0<=b)<;>simp);rw[hm,Eh,ih];by_cases ha:a<0
  .rw[ai5 (.inl ha),ajl (by omega)];rfl
  .by_cases hb:b<0
   .rw[ai5 (.inr hb),ai8 (show 0<=a by omega),ajl (show¬0<=b by omega)];rfl
   .rw[ai0 (by omega),ai8 (show 0<=a by omega),ai8 (show 0<=b by omega)];simp only[akv];cases eS r 2<;>rfl
theorem chunk_len{k:Nat}{l:List Int}{r:List Int}(h:r∈chunk k l)(hk:0<k):r.length=k/\∀z∈r,z∈l:=by unfold chunk at h;obtain⟨i,hi,rfl⟩:=ai7.mp h;have hi:=akD.mp hi;have h1:(i+1)*k<=(l.length/k)*k:=Nat.mul_le_mul_right k hi;have h2:=Nat.div_mul_le_self l.length k;rw[Nat.add_mul,Nat.one_mul]at h1;refine⟨by rw[ajb,akt];omega,fun z hz=>List.mem_of_mem_drop (akU hz)⟩
open PM (fS Rk ao bS)
open Vbkoac (without standsOn)
theorem OI{H:Hp}:∀{qs:List Addr} {R:List (Nd×Nat)},Paired (fun q (kv:List Key×V)=>H q=some (.tup (kv.1.map kV))) qs (lj R)->aI H qs (R.map (·.1))
 | [],[],_=> .nil
 |_::_,[],h=>by cases h
 | [],_::_,h=>by cases h
 |_::_,_::_,.cons r t=> .cons r (OI t)
theorem FY(ok:fS h){ns:List Nd}{d:Nat}(RI:sF h ns R)(hd:∀n∈ns,n.2=d):R.length<=1000:=by
 have:=eR (l:=R.map (·.1)) (m:=PM.box h d) RI.nd fun x hx=>by
  obtain⟨y,hy,rfl⟩:=ai7.mp hx;obtain⟨rk,day⟩:=RI.st y hy;obtain⟨p,hp⟩:=PM.tX rk.at_;refine PM.og hp ?_;rcases ajh.mp day with z|z
  .obtain⟨n,hn,e⟩:=ai7.mp z;rw[<-e,hd n hn];exact aiV ..
  .exact aiS _ z
 have l:=PM.oj ok d;rw[aiQ]at this;have:Vbkoac.MANY=1000:=rfl;omega
theorem ES{m:Nd}:inR R m=true↔m∈R.map (·.1):=by
 constructor
 .intro h;refine alU fun z=>?_;unfold Pp.inR at h;rw[lookup_none z]at h;cases h
 .intro h;obtain⟨x,hx,e⟩:=ai7.mp h;unfold Pp.inR;clear h
  induction R with
  |nil=>cases hx
  |cons y R ih=>
   rw[ajz];by_cases q:m=y.1
   .rw[q,aka];rfl
   .rw[ajt.mpr q];rcases aiZ.mp hx with z|z
    .rw[z]at e;exact absurd e.symm q
    .exact ih z
section
variable{K:W.Frag}
abbrev xX:=top 107
theorem kR:aM ["known","revocation","started","spared","standing","pulled","pair"] ["known","revocation","started"] (aF xX):=dc
def uc(h:Known)(num:Nat)(ns ps:List Nd):Prop:=∀n∈ns,∀m∈under (without h num) n,ps.contains m=(standsOn (without h num) m.1 m.2&& !standsOn h m.1 m.2)
def zA(C:Cs):Sp:=fun vs H Q _=>∃ka h c r l ns d,vs=[.ref ka,.ref c,.ref l]/\aq C H ka h/\fS h/\dX C H c r/\h.revokes.length<=20/\aT H l ns/\ns.length<=1000/\(∀n∈ns,n.2=d)/\∀H' pd ps,aC H H'->H pd=none->H' pd=some (.dT (seenOf ps))->uc h r.num ns ps->Q (.ref pd) H'
theorem Fe(F:bL "pulled_down" xX)(T:Txt K mg C)(dR:cT 6)(dW:cO 6 "without_revocation" ["known","left_out"] (vd C)):de 7 ["known","revocation","started"] (zA C):=by
 refine d9 kR
 .obtain⟨ka,h,c,r,l,ns,d,rfl,_⟩:=h;rfl
 .obtain⟨ka,hh,c,r,l,ns,dd,rfl,hK,ok,hc,Sq,hl,yk,NM,hQ⟩:=h;have hu:=bu hr;have D4:=PM.dh ok r.num;refine⟨_,aD (zS 3 kR.nd (aJ dR hr (cY (aJ dW hr (cY (pv 0) (pv 1))) (pv 2)))) (aD (zS 4 kR.nd (aJ dR hr (cY (pv 0) (pP yT (by rfl) T.dZ PyProof.Rows.Boot.«list» (bM (pv 3)))))) (aD (zS 5 kR.nd iB) (aD (gZ (bU ajm rfl (gc (pv 3)) (zG 6 kR.nd) (aE (aZ (b9 (cJ hu (pv 6) (pv 4))) (aE (ee hu (pv 5) (pv 6) gN rfl)) aN)))) (aE (aH (pv 5)))))),?_⟩;refine⟨_,Z,_,Z,ka,hh,c,r,Z,hK,hc,Sq,fun H1 kb s1 Of Ei=>?_⟩;refine⟨_,Z,kb,_,l,ns,Z,Ei,D4,hl.same (aC.x s1),yk,fun H2 sd R s2 hsd Qa RI=>?_⟩;have b0:=aC.trans s1 s2;refine⟨_,Z,_,Z,sd,_,Z,Qa,fun ll qs KS hqs=>?_⟩;have s3:aC H2 (upd H2 ll (.lst (qs.map V.ref))):=zU KS;have fD:=FY D4 RI NM;have Qq:aI H2 qs (R.map (·.1)):=OI hqs;refine⟨ka,hh,ll,R.map (·.1),Z,hK.same (aC.x (aC.trans b0 s3)),ok,⟨qs,aA,Paired.a8 Qq fun _ _ z=>s3 _ _ z⟩,(by rw[aiQ];exact fD),fun H4 td R2 s4 htd U2 RI2=>?_⟩;have R8:=aC.trans s3 s4;have PK:∀m∈R.map (·.1),inR R2 m=standsOn hh m.1 m.2:=fun m hm=>dw.inR ok (RI2.rk m hm) (bq hh m);intro pd yC;have KI:=R8 _ _ Qa;have s5:aC H4 (upd H4 pd (.dT [])):=zU yC;have W9:sd≠pd:=aG KI yC;have ntp:td≠pd:=aG U2 yC;have nts:td≠sd:=(fun q=>by have h3:=s3 _ _ Qa;rw[q,h3]at htd;cases htd);refine⟨sd,_,s5 _ _ KI,True.intro,fun od=>?_⟩;have Mz:∀i,(((R.take i).map (·.1)).filter fun m=> !inR R2 m).length<=1000:=(fun i=>by have:=ajk (fun m=> !inR R2 m) ((R.take i).map (·.1));rw[aiQ,ajb]at this;omega);refine⟨_,Z,sd,od,Z,.inr ⟨lj R,aA,lD (J:=DJ sd od (lj R)) (n:=(lj R).length) (fun i σ H'=>∃v6:Option V,σ=[some (.ref ka),some (.ref c),some (.ref l),some (.ref sd),some (.ref td),some (.ref pd),v6]/\(∀b,b≠pd->H' b=upd (upd H4 pd (.dT [])) sd (.br od (.dT (lj R))) b)/\H' pd=some (.dT (seenOf (((R.take i).map (·.1)).filter fun m=> !inR R2 m)))) ⟨none,Z,fun b hb=>rfl,(by rw[aB (ajC W9),aA];rfl)⟩ ?_ ?_ ?_⟩⟩
  .rintro i σ H5 hi ⟨v6,rfl,hb,hp⟩;exact⟨by rw[hb sd W9,aA],hi⟩
  .rintro i x σ H5 H6 hi ⟨v6,rfl,hb,hp⟩ ⟨rfl,kk,v,q,jn,rfl,hq⟩;obtain⟨y,hy,ek⟩:∃y,R[i]?=some y/\(kk,v)=(bZ y.1,V.int (y.2:Nat)):=by
    unfold lj at jn;rw[ajd]at jn;cases e:R[i]? with
    |none=>rw[e]at jn;cases jn
    |some m=>rw[e]at jn;exact⟨m,Z,(ajr jn).symm⟩
   cases ek;have Zp:H6 td=some (.dT (lj R2)):=(by rw[hb td ntp,aB nts,aB ntp];exact U2);have tk:((R.take (i+1)).map (·.1)).filter (fun m=> !inR R2 m)=((R.take i).map (·.1)).filter (fun m=> !inR R2 m)++(if(!inR R2 y.1)=true then [y.1]else []):=by
    rw[aa hy,aiY,aj8];congr 1;by_cases q:(!inR R2 y.1)=true
    .rw[ai5 q];simp[q]
    .rw[ai0 q];simp[q]
   refine⟨_,Z,_,Z,td,_,Z,ba.t Zp hq,_,Z,?_⟩;rw[dm,aj2];show(if(!inR R2 y.1)=true then _ else _);refine aO (fun h1=>?_) (fun h1=>?_)
   .have nc:(((R.take i).map (·.1)).filter fun m=> !inR R2 m).contains y.1=false:=by
     cases z:(((R.take i).map (·.1)).filter fun m=> !inR R2 m).contains y.1 with
     |false=>rfl
     |true=>
      have hm:=(ajy.mp (ajp.mp z)).1;obtain⟨j,hj,ej⟩:=ajY hm;rw[aiQ,ajb]at hj;have z1:(R.map (·.1))[j]?=some y.1:=(by rw[<-ej,alL,alg,ajd,aiW (by omega)];rfl);have z2:(R.map (·.1))[i]?=some y.1:=(by rw[ajd,hy];rfl);have:=zg RI.nd z1 z2;omega
    refine⟨_,Z,_,Z,pd,_,Z,ji.t hp hq (by unfold seenOf;rw[aiQ,ai6];have:=Mz i;omega),?_⟩;refine⟨_,Z,fun b pb=>by rw[aB pb];exact hb b pb,?_⟩;rw[aA,nW nc,tk,ai5 h1]
   .refine⟨_,Z,hb,?_⟩;rw[tk,ai0 h1,ajs];exact hp
  .rintro σ H5 ⟨v6,rfl,hb,hp⟩;have hsF:H5 sd=some (.br od (.dT (lj R))):=(by rw[hb sd W9,aA]);have ZT:(lj R).length=R.length:=aiQ _;rw[ZT,ai9]at hp;refine⟨⟨hsF,ai2 _⟩,hsF,_,Z,?_⟩;refine hQ _ pd _ ?_ ?_ (by rw[aB (ajC W9)];exact hp) ?_
   .intro b o e;have e4:=aC.trans b0 R8 _ _ e;by_cases q:b=sd
    .rw[q]at e4⊢;rw[aA];rw[KI]at e4;exact e4
    .rw[aB q,hb b (aG e4 yC),aB q,aB (aG e4 yC)];exact e4
   .exact aC.free (aC.trans b0 R8) yC
   .intro n hn m hm;rw[ajw,ajp,ajy,ajn];have e1:inR R m=standsOn (without hh r.num) m.1 m.2:=dw.inR D4 (RI.rk n hn) hm;constructor
    .rintro⟨a1,a2⟩;rw[PK m a1]at a2;exact⟨by rw[<-e1];exact ES.mpr a1,a2⟩
    .rintro⟨a1,a2⟩;rw[<-e1]at a1;have a3:=ES.mp a1;exact⟨a3,by rw[PK m a3];exact a2⟩
end
open PM (fS Rk ao bS sP dY eB ay gE BC)
theorem LH{n:Nd}{p:Paper}(hp:paperOf h n.1=some p)(o:Vbkoac.own h p n.2=true):bG h n=below h n:=by unfold bG au below;rw[hp];simp only;rw[ai5 o,List.flatMap_def]
theorem Gk{a:Addr}(k:aq C H a h)(n:Nd):(below h n).length<=12:=by
 obtain⟨dx,fs,pd,rl,aP,rs,e,f1,f2,e1,p1,e2,p2⟩:=k.ex;unfold below;cases hp:paperOf h n.1 with
 |none=>exact ajo _
 |some p=>
  simp only;obtain⟨_,v2⟩:=gh (C:=C) (H:=H) n.1 p1;obtain⟨c,_,wU⟩:=v2 p hp;have l:=(K0 (gs:=p.grounds.map fun g=>g.map (nodeOf p n.2)) fun g hg=>by obtain⟨g0,h0,rfl⟩:=ai7.mp hg;rw[aiQ];exact wU.fD.2 g0 h0);rw[aiQ]at l;rw[List.flatMap_def];have:=wU.fD.1;omega
structure LR(h:Known)(num:Nat)(a x:Nd):Prop where
 un:x∈under (without h num) a
 up:standsOn (without h num) x.1 x.2=true
 dn:standsOn h x.1 x.2=false
theorem LR.bw{x:Nd}(ok:fS h)(q:LR h num a x):bG (without h num) x=below h x:=by obtain⟨p,hp,_,_,o⟩:=PM.pG ((PM.aj (PM.dh ok num)).mp q.up);exact LH hp o
theorem LR.next{x:Nd}(ok:fS h)(q:LR h num a x):∀m∈sP h num x,LR h num a m:=fun m hm=>by obtain⟨h1,h2⟩:=ajy.mp hm;rw[ajn]at h2;exact⟨dj (PM.dh ok num) a x q.un m (by rw[q.bw ok];exact h1),h2.1,by simpa using h2.2⟩
theorem LR.bh{r:Revoke}(ok:fS h)(hr:(h.revokes.find? fun r=>r.num==num)=some r)(nd:(h.revokes.map fun r=>r.num).Nodup){x:Nd}(q:LR h num a x)(nt:hits x r=false):bG h x=below h x:=by obtain⟨p,hp,_,_,o⟩:=PM.pG ((PM.aj (PM.dh ok num)).mp q.up);have Qn:paperOf h x.1=some p:=hp;have pid:=(PM.cG Qn).2;refine LH Qn (PM.qU hr nd o fun z=>?_);unfold hits at nt;rw[pid]at z;simp[z.1,z.2]at nt
theorem y4(w:List Nd)(x:Nd)(r:Revoke):BC r.id r.since (w++[x])=hits x r:=by
 unfold BC hits;rw[PM.jA];show(x.1==r.id&&decide (r.since<=x.2))=(r.id==x.1&&decide (r.since<=x.2));congr 1;by_cases e:x.1=r.id
 .rw[e]
 .rw[ajt.mpr e,ajt.mpr (ajC e)]
theorem vY(G:Nd->List Nd)(n:Nd)(ib:bS G (ao G Vbkoac.MANY [n])):∀p,∀w∈dY G n p,w.length<=(ao G Vbkoac.MANY [n]).length+1:=fun p w hw=>by
 have key:∀p,∀w∈dY G n p,w.length<=p+1:=fun p=>by
  induction p with
  |zero=>
   intro w hw;have:w=[n]:=(by simpa [PM.dY]using hw);rw[this];exact ai2 _
  |succ p ih=>
   intro w hw;have e:dY G n (p+1)=match(dY G n p)[p]? with|some w=>(PM.iI G w).foldl gE (dY G n p)|none=>dY G n p:=rfl
   rw[e]at hw;cases q:(dY G n p)[p]? with
   |none=>rw[q]at hw;have:=ih w hw;omega
   |some u=>
    rw[q]at hw;simp only at hw;obtain⟨t,et⟩:=PM.eV (PM.iI G u) (dY G n p);rw[et]at hw;rcases ajh.mp hw with z|z
    .have:=ih w z;omega
    .have:=(PM.uZ et w z).1;unfold PM.iI at this;cases y:u.getLast? with
     |none=>rw[y]at this;cases this
     |some k=>
      rw[y]at this;obtain⟨m,_,rfl⟩:=ai7.mp this;have:=ih u (ai1 q);rw[aiT];show _+1<=_;omega
 obtain⟨q,hq⟩:=PM.zP ib;have hqc:=PM.tF hq ib;have hl:(ao G Vbkoac.MANY [n]).length<=q:=(by rw[<-hqc];exact hq);have stop:(eB G [n] (ao G Vbkoac.MANY [n]).length).length<=(ao G Vbkoac.MANY [n]).length:=(by obtain⟨t,e⟩:=PM.jN ib (ao G Vbkoac.MANY [n]).length;have z:=akc List.length e;rw[aiT]at z;omega);have S6:(dY G n (ao G Vbkoac.MANY [n]).length).length<=(ao G Vbkoac.MANY [n]).length:=(by rw[PM.rV];exact stop);by_cases hp:p<=(ao G Vbkoac.MANY [n]).length
 .have:=key p w hw;omega
 .rw[PM.nI S6 p (by omega)]at hw;exact key _ w hw
theorem BZ{w:List Nd}(h:w≠[]):∃v x,w=v++[x]:=⟨w.dropLast,w.getLast h,(List.dropLast_concat_getLast h).symm⟩
section
variable{K:W.Frag}
abbrev Pl:=top 108
theorem qP:aM ["known","revocation","pulled","asked","ways","seen","place","way","rests","rest"] ["known","revocation","pulled","asked"] (aF Pl):=dc
def N7(C:Cs):Sp:=fun vs H Q _=>∃ka h c r pd ps b n,vs=[.ref ka,.ref c,.ref pd,.ref b]/\aq C H ka h/\fS h/\dX C H c r/\(h.revokes.find? fun x=>x.num==r.num)=some r/\(h.revokes.map fun x=>x.num).Nodup/\TupAt H b n/\H pd=some (.dT (seenOf ps))/\uc h r.num [n] ps/\standsOn (without h r.num) n.1 n.2=true/\standsOn h n.1 n.2=false/\∀H' l w,aC H H'->aT H' l w->Vbkoac.chain h r.num n.1 n.2=some w->w.length<=200000->Q (.ref l) H'
theorem QA(F:bL "way_down" Pl)(dH:EI 4)(dG:eD 4)(dA:jW 4):de 5 ["known","revocation","pulled","asked"] (N7 C):=by
 refine d9 qP
 .obtain⟨ka,h,c,r,pd,ps,b,n,rfl,_⟩:=h;rfl
 .obtain⟨ka,hh,c,r,pd,ps,b,n,rfl,hK,ok,hc,uB,XE,hb,yC,hP,su,sd,hQ⟩:=h;have hu:=bu hr;refine⟨_,aD (zS 4 qP.nd (aU (bM (aU (bM (pv 3)))))) (aD (zS 5 qP.nd (zV hu (pv 3) gN)) (aD (zS 6 qP.nd aK) (aD (i0 ajm (cn (bF (aJ dH hr (cY (pv 1) (af aX (af aX (pv 4) (pv 6)) (vy pE aK)))))) (aD (zS 7 qP.nd (af aX (pv 4) (pv 6))) (aD (zS 8 qP.nd (aJ dA hr (bM (aJ dG hr (cY (pv 0) (af aX (pv 7) (vy pE aK))))))) (aD (bU ajm rfl (ax (pv 8)) (zG 9 qP.nd) (aE (aZ (jP (b9 (fB hu (pv 9) (pv 2))) (jO (b9 (cJ hu (pv 9) (pv 5))))).pt (aD (ee hu (pv 5) (pv 9) gN rfl) (aE (bp (fN aju ajM ajL cN (pv 4) (bM (cE gB (pv 7) (aU (bM (pv 9))))))))) aN))) (aE (xl (i:=6) qP.nd rfl (Or.inl rfl) aK yA)))))) (aE (aH (af aX (pv 4) (pv 6))))))),?_⟩;let G:Nd->List Nd:=sP hh r.num;have ib:bS G (ao G Vbkoac.MANY [n]):=PM.mP ok r.num n;have q0:LR hh r.num n n:=⟨bq _ _,su,sd⟩;have AQ:∀m,(G m).length<=12:=fun m=>ajq (ajk _ _) (Gk hK m);have small:(ao G Vbkoac.MANY [n]).length<=100000:=iL ok (fun m k hm=>PM.pF hm) AQ n;have inq:∀p,∀x∈eB G [n] p,LR hh r.num n x:=fun p=>PM.nh (P:=LR hh r.num n) (fun x hx m hm=>hx.next ok m hm) (fun x hx=>by rw[aiU.mp hx];exact q0) p;have S7:∀p,(dY G n p).length<=(ao G Vbkoac.MANY [n]).length:=(fun p=>by rw[PM.rV];obtain⟨t,e⟩:=PM.jN ib p;rw[e,aiT];omega);refine⟨_,Z,(zL rfl),fun l0 Kb=>?_⟩;refine⟨(zL rfl),fun wl CY=>?_⟩;have XF:l0≠wl:=(fun q=>by rw[<-q,aA]at CY;cases CY);have SR:H wl=none:=(by rw[aB (ajC XF)]at CY;exact CY);have s1:aC H (upd (upd H l0 (.lst [V.ref b])) wl (.lst [V.ref l0])):=aC.upd (zU Kb) SR;intro um Ca;have GP:=s1 _ _ hb;have n1:um≠wl:=(fun q=>by rw[q,aA]at Ca;cases Ca);have n2:um≠l0:=(fun q=>by rw[q,aB XF,aA]at Ca;cases Ca);have Zu:H um=none:=(by rw[aB n1,aB n2]at Ca;exact Ca);refine⟨_,Z,aA,b,bZ n,Z,?_,?_⟩
  .rw[aB (aG GP Ca)];exact GP
  have s2:aC H (upd (upd (upd (upd H l0 (.lst [V.ref b])) wl (.lst [V.ref l0])) um (.dT [])) um (.dT (putK [] (bZ n) (.bl true)))):=aC.upd (aC.upd s1 Zu) Zu;refine kL (fun σ H'=>∃(p:Nat) (N0:List Addr) (v7 v8 v9:Option V),σ=[some (.ref ka),some (.ref c),some (.ref pd),some (.ref b),some (.ref wl),some (.ref um),some (.int p),v7,v8,v9]/\aC H H'/\H' wl=some (.lst (N0.map V.ref))/\wl∉N0/\Paired (aT H') N0 (dY G n p)/\H' um=some (.dT (seenOf (ay (dY G n p))))/\(∀u∈(dY G n p).take p,BC r.id r.since u=false)/\p<(dY G n p).length) (fun(σ:L2.St) _=>match σ[6]? with|some (some (V.int p))=>(ao G Vbkoac.MANY [n]).length+1-p.toNat|_=>0) ⟨0,[l0],none,none,none,rfl,s2,?_,?_,?_,?_,?_,?_⟩ ?_ ?_
  .rw[aB (ajC n1),aB (ajC n1),aA];rfl
  .simp[ajC XF]
  .refine .cons ⟨[b],?_,.cons (s2 _ _ hb) .nil⟩ .nil;rw[aB (ajC n2),aB (ajC n2),aB XF,aA];rfl
  .rw[aA];rfl
  .intro u SV;simp at SV
  .show 0<1;decide
  .rintro σ H1 ⟨p,N0,v7,v8,v9,rfl,W4,EU,nww,Uw,hsn,oP,hp⟩;have Ea:N0.length=(dY G n p).length:=Paired.length Uw;obtain⟨u,OZ⟩:∃u,(dY G n p)[p]?=some u:=⟨_,aiW hp⟩;obtain⟨ua,hua,hur⟩:=jR Uw OZ;obtain⟨uv,x,eu⟩:=BZ (PM.ij p u (ai1 OZ));subst eu;obtain⟨as,U0,GC⟩:=hur;have hxl:as.length=uv.length+1:=(by rw[Paired.length GC,aiT];rfl);obtain⟨xa,Ut,hxt⟩:=GC.get (i:=uv.length) (n:=x) (by simp);obtain⟨av,eas⟩:∃av,as=av++[xa]:=by refine⟨as.take uv.length,?_⟩;have:=aa Ut;rw[aky (by omega)]at this;exact this
   subst eas;have Zg:Az (N0.map V.ref) (p:Int)=some (V.ref ua):=aS (by rw[ajd,hua];rfl);have AH:Az ((av++[xa]).map V.ref) (-1)=some (V.ref xa):=(by rw[aiY];exact Ay _ _);have Zc:LR hh r.num n x:=(by have hm:x∈ay (dY G n p):=(by unfold ay;exact akL.mpr ⟨uv++[x],ai1 OZ,PM.jA uv x⟩);rw[PM.i9]at hm;exact inq p x hm);refine⟨_,Z,_,Z,_,Z,wl,_,_,_,Z,Z,ae.of EU,Zg,_,Z,ua,_,_,_,Z,Z,ae.of U0,AH,c,r,xa,x,Z,hc.same (aC.x W4),hxt,_,Z,?_⟩;cases hx:hits x r with
   |true=>
    refine aO nofun (fun _=>?_);refine⟨_,Z,_,Z,wl,_,_,_,Z,Z,ae.of EU,Zg,?_⟩;refine hQ H1 ua (uv++[x]) W4 ⟨_,U0,GC⟩ ?_ ?_
    .obtain⟨q,hq⟩:=PM.zP ib;have NB:(dY G n (max q p)).length<=max q p:=(by rw[PM.rV];have e:=PM.zO (f:=G) (l:=[n]) hq (max q p) (by omega);rw[e];omega);rw[PM.LB ok uB su sd NB];obtain⟨t,et⟩:=PM.nJ (f:=G) (a:=n) (show p<=max q p by omega);rw[et,alG,pq OZ oP (by rw[y4];exact hx)];rfl
    .have z1:=Paired.length GC;have:(uv++[x]).length<=(ao G Vbkoac.MANY [n]).length+1:=(by exact vY G n ib p (uv++[x]) (ai1 OZ));omega
   |false=>
    refine aO (fun _=>?_) (fun z=>absurd rfl z);have hbh:bG hh x=below hh x:=Zc.bh ok uB XE hx;have fD:=ja hK x;refine⟨_,Z,_,Z,wl,_,_,_,Z,Z,ae.of EU,Zg,?_⟩;refine⟨_,Z,_,Z,_,Z,ua,_,_,_,Z,Z,ae.of U0,AH,ka,hh,xa,x,Z,hK.same (aC.x W4),hxt,fun H2 gl W0 pY Vl=>?_⟩;refine⟨gl,au hh x,Z,Vl,(by rw[ai6];have:=fD.2.2;omega),fun H3 rl s3' yi ⟨rs,EV,Ob⟩=>?_⟩;have eJ:=aC.trans W0 s3';have SS:=eJ _ _ EU;have XO:=eJ _ _ hsn;have Zl:=eJ _ _ U0;have nwu:ua≠wl:=fun q=>nww (by rw[<-q];exact ai1 hua);let pl:Nd->Bool:=fun m=>standsOn (without hh r.num) m.1 m.2&& !standsOn hh m.1 m.2;let Wi:Nat->List (List Nd):=fun i=>((((bG hh x).take i).filter pl).map fun m=>(uv++[x])++[m]).foldl gE (dY G n p);have nrw:rl≠wl:=(fun q=>by have:=W0 _ _ EU;rw[q,this]at yi;cases yi);have nrs:rl≠um:=(fun q=>by have:=W0 _ _ hsn;rw[q,this]at yi;cases yi);have nru:rl≠ua:=(fun q=>by have:=W0 _ _ U0;rw[q,this]at yi;cases yi);have N1:dY G n (p+1)=Wi (bG hh x).length:=(by show(match(dY G n p)[p]? with|some w=>(PM.iI G w).foldl gE (dY G n p)|none=>dY G n p)=_;rw[OZ];simp only[Wi,ai9];unfold PM.iI;rw[PM.jA];simp only[G];unfold sP;rw[hbh]);have S8:∀i,∃t,dY G n (p+1)=Wi i++t:=(fun i=>by rw[N1];have e:Wi (bG hh x).length=((((bG hh x).drop i).filter pl).map fun m=>(uv++[x])++[m]).foldl gE (Wi i):=(by simp only[Wi,ai9];rw[<-alF,<-aiY,<-aj8,aj3]);rw[e];exact PM.eV _ _);have N2:∀i,(Wi i).length<=100000:=(fun i=>by obtain⟨t,e⟩:=S8 i;have:=S7 (p+1);rw[e,aiT]at this;omega);have J5:∀i,(ay (Wi i)).length<=100000:=(fun i=>by have z:(ay (Wi i)).length<=(Wi i).length:=alv _ _;have:=N2 i;omega);refine⟨_,Z,rl,Z,⟨_,ae.of EV⟩,bO (K:=K) (a:=rl) (xs:=rs.map V.ref) (fun i σ H'=>∃(X9:Option V) (qj:List Addr),σ=[some (.ref ka),some (.ref c),some (.ref pd),some (.ref b),some (.ref wl),some (.ref um),some (.int p),some (.ref ua),some (.ref rl),X9]/\aC H H'/\H' wl=some (.lst (qj.map V.ref))/\wl∉qj/\Paired (aT H') qj (Wi i)/\H' um=some (.dT (seenOf (ay (Wi i))))/\H' rl=some (.lst (rs.map V.ref))/\aI H' rs (bG hh x)/\H' ua=some (.lst ((av++[xa]).map V.ref))/\aI H' (av++[xa]) (uv++[x])) ⟨v9,N0,Z,aC.trans W4 eJ,SS,nww,(by show Paired (aT H3) N0 (dY G n p);exact Paired.a8 Uw fun _ _ z=>z.same (aC.x eJ)),XO,EV,Ob,Zl,Paired.a8 GC fun _ _ z=>eJ _ _ z⟩ (fun i σ H' _ ⟨_,_,_,_,_,_,_,_,h8,_⟩=>ae.of h8) ?_ ?_⟩
    .rintro i y σ H4 hi ⟨X9,qj,rfl,s4,M5,Fp,GB,GD,yB,GF,XJ,M6⟩;obtain⟨ma,GH,rfl⟩:=bT hi;obtain⟨m,hm,VQ⟩:=GF.lC GH;have hmB:m∈bG hh x:=ai1 hm;have NI:m∈under (without hh r.num) n:=dj (PM.dh ok r.num) n x Zc.un m (by rw[Zc.bw ok,<-hbh];exact hmB);have mI:ps.contains m=pl m:=hP n (aiU.mpr rfl) m NI;have mB:Wi (i+1)=if pl m=true then gE (Wi i) ((uv++[x])++[m])else Wi i:=by
      simp only[Wi];rw[bX pl hm];by_cases q:pl m=true
      .rw[ai5 q,ai5 q,aiY,alF];rfl
      .rw[ai0 q,ai0 q,ajs]
     have abp:gE (Wi i) ((uv++[x])++[m])=if(ay (Wi i)).contains m=true then Wi i else Wi i++[(uv++[x])++[m]]:=by unfold gE;rw[PM.jA];simp only;rw[<-PM.eT]
     have Z6:=s4 _ _ yC;refine⟨_,Z,_,Z,pd,_,Z,ba.t Z6 VQ,_,Z,?_⟩;rw[fE,mI];refine aO (fun h1=>?_) (fun h1=>?_)
     .refine⟨_,Z,_,Z,um,_,Z,ba.t GD VQ,_,Z,?_⟩;rw[fE];rw[ai5 h1,abp]at mB;cases AM:(ay (Wi i)).contains m with
      |true=>
       rw[AM,ai5 rfl]at mB;refine aO nofun (fun _=>?_);exact⟨_,qj,Z,s4,M5,Fp,(by rw[mB];exact GB),(by rw[mB];exact GD),yB,GF,XJ,M6⟩
      |false=>
       rw[AM,ai0 nofun]at mB;refine aO (fun _=>?_) (fun z=>absurd rfl z);refine⟨_,Z,_,Z,um,_,Z,ji.t GD VQ (by unfold seenOf;rw[aiQ,ai6];have:=J5 i;omega),?_⟩;have IH:m9 (H4 um):=(by rw[GD];exact True.intro);have s5:aC H (upd H4 um (.dT (putK (seenOf (ay (Wi i))) (bZ m) (.bl true)))):=aC.upd s4 Zu;have J7:∀{q xs},H4 q=some (.lst xs)->upd H4 um (.dT (putK (seenOf (ay (Wi i))) (bZ m) (.bl true))) q=some (.lst xs):=(fun{q xs} e=>by rw[aB (ak e GD nofun)];exact e);have Uy:=J7 M5;have XI:=J7 XJ;have XR:=J7 yB;have QY:Paired (aT (upd H4 um (.dT (putK (seenOf (ay (Wi i))) (bZ m) (.bl true))))) qj (Wi i):=Paired.a8 GB fun _ _ z=>aT.lock GD z;have U8:aI (upd H4 um (.dT (putK (seenOf (ay (Wi i))) (bZ m) (.bl true)))) rs (bG hh x):=aI.upd GF IH;have QZ:aI (upd H4 um (.dT (putK (seenOf (ay (Wi i))) (bZ m) (.bl true)))) (av++[xa]) (uv++[x]):=aI.upd M6 IH;have VP:TupAt (upd H4 um (.dT (putK (seenOf (ay (Wi i))) (bZ m) (.bl true)))) ma m:=(by show upd _ _ _ ma=_;rw[aB (ak VQ GD nofun)];exact VQ);have hs5:upd H4 um (.dT (putK (seenOf (ay (Wi i))) (bZ m) (.bl true))) um=some (.dT (seenOf (ay (Wi (i+1))))):=(by rw[aA,nW AM,mB,PM.tj]);generalize upd H4 um (.dT (putK (seenOf (ay (Wi i))) (bZ m) (.bl true)))=H5 at s5 Uy XI XR QY U8 QZ VP hs5;refine⟨_,Z,.inl ⟨Z,_,ae.of Uy⟩,_,Z,_,Z,(zL rfl),fun l1 rh=>?_⟩;have nu1:ua≠l1:=aG XI rh;have nw1:wl≠l1:=aG Uy rh;refine⟨ua,l1,_,_,Z,Z,(by rw[aB nu1];exact XI),aA,?_,fun l2 ky=>?_⟩
       .rw[aiQ,aiT,ai6];have:=vY G n ib p (uv++[x]) (ai1 OZ);have z1:av.length=uv.length:=(by simp at hxl;omega);rw[aiT]at this;show _+1+1<=_;simp at this⊢;omega
       have n21:l2≠l1:=(fun q=>by rw[q,aA]at ky;cases ky);have Vb:H5 l2=none:=(by rw[aB n21]at ky;exact ky);have ZA:wl≠l2:=aG Uy Vb;have Zh:upd (upd H5 l1 (.lst [V.ref ma])) l2 (.lst ((av++[xa]).map V.ref++[V.ref ma])) wl=some (.lst (qj.map V.ref)):=(by rw[aB ZA,aB nw1];exact Uy);have s6:aC H5 (upd (upd H5 l1 (.lst [V.ref ma])) l2 (.lst ((av++[xa]).map V.ref++[V.ref ma]))):=aC.upd (zU rh) Vb;refine⟨wl,_,_,Z,Z,Zh,?_,?_⟩
       .rw[aiQ,Paired.length QY,ai6];have:=N2 i;omega
       have Va:upd (upd H5 l1 (.lst [V.ref ma])) l2 (.lst ((av++[xa]).map V.ref++[V.ref ma])) l2=some (.lst ((av++[xa]++[ma]).map V.ref)):=(by rw[aA,aiY (l₁:=av++[xa])];rfl);have Uz:aI (upd (upd H5 l1 (.lst [V.ref ma])) l2 (.lst ((av++[xa]).map V.ref++[V.ref ma]))) (av++[xa]++[ma]) (uv++[x]++[m]):=aI.snoc (s6 _ _ VP) (Paired.a8 QZ fun _ _ z=>s6 _ _ z);have Uv:Paired (aT (upd (upd H5 l1 (.lst [V.ref ma])) l2 (.lst ((av++[xa]).map V.ref++[V.ref ma])))) qj (Wi i):=Paired.a8 QY fun _ _ z=>z.same (aC.x s6);have HA:=s6 _ _ XR;have hu6:=s6 _ _ XI;have hs6:=s6 _ _ hs5;have U7:aI (upd (upd H5 l1 (.lst [V.ref ma])) l2 (.lst ((av++[xa]).map V.ref++[V.ref ma]))) rs (bG hh x):=Paired.a8 U8 fun _ _ z=>s6 _ _ z;have s06:=aC.trans s5 s6;generalize upd (upd H5 l1 (.lst [V.ref ma])) l2 (.lst ((av++[xa]).map V.ref++[V.ref ma]))=H6 at Zh s6 Va Uz Uv HA hu6 hs6 U7 s06;have PQ:m9 (H6 wl):=(by rw[Zh];exact True.intro);refine⟨_,qj++[l2],Z,aC.upd s06 SR,?_,?_,?_,?_,?_,?_,?_,?_⟩
       .rw[aA,aiY];rfl
       .intro ly;rcases ajh.mp ly with z|z
        .exact Fp z
        .exact ZA (aiU.mp z)
       .rw[mB];exact fM PQ (by
         intro ly;rcases ajh.mp ly with z|z
         .exact Fp z
         .exact ZA (aiU.mp z)) (bC ⟨_,Va,Uz⟩ Uv)
       .rw[aB n1];exact hs6
       .rw[aB nrw];exact HA
       .exact aI.upd U7 PQ
       .rw[aB nwu];exact hu6
       .exact aI.upd (Paired.a8 QZ fun _ _ z=>s6 _ _ z) PQ
     .rw[ai0 h1]at mB;refine aO nofun (fun _=>?_);exact⟨_,qj,Z,s4,M5,Fp,(by rw[mB];exact GB),(by rw[mB];exact GD),yB,GF,XJ,M6⟩
    .rintro σ H4 ⟨X9,qj,rfl,s4,M5,Fp,GB,GD,yB,GF,XJ,M6⟩;rw[aiQ,Paired.length GF,<-N1]at GB GD;have VF:∃t,dY G n (p+1)=dY G n p++t:=PM.sM p;obtain⟨t,et⟩:=VF;have VM:∀u∈(dY G n (p+1)).take (p+1),BC r.id r.since u=false:=(by have Zk:(dY G n (p+1))[p]?=some (uv++[x]):=(by rw[et,alp hp];exact OZ);refine hW Zk (fun u SV=>oP u ?_) (by rw[y4];exact hx);rw[et,amO (aki hp)]at SV;exact SV);have Qn:p+1<(dY G n (p+1)).length:=(by refine Nat.lt_of_not_le fun le=>?_;obtain⟨w',SU⟩:=PM.FA ok uB XE su sd le;have h1:=ald SU;have h2:=akk SU;rw[VM w' (by rw[aky le];exact h2)]at h1;cases h1);refine⟨_,Z,_,_,Z,Z,⟨p+1,qj,_,_,_,Z,s4,M5,Fp,GB,GD,VM,Qn⟩,?_⟩;show(ao G Vbkoac.MANY [n]).length+1-((p:Int)+1).toNat<(ao G Vbkoac.MANY [n]).length+1-(p:Int).toNat;have:=S7 (p+1);omega
  .rintro σ H' Q1 Q2 hm ⟨v,e1,v2,e2,v3,e3,a4,b4,c4,d4,e4,f4,g4,h4,v5,e5,a6,b6,c6,d6,e6,f6,g6,h6,a7,b7,c7,d7,e7,f7,g7,b8,e8,q⟩;exact⟨v,e1,v2,e2,v3,e3,a4,b4,c4,d4,e4,f4,g4,h4,v5,e5,a6,b6,c6,d6,e6,f6,g6,h6,a7,b7,c7,d7,e7,f7,g7,b8,e8,hm _ _ q⟩
end
def fU(H:Hp)(l:Addr)(zs:List Int):Prop:=H l=some (.lst (zs.map V.int))
theorem iC{H:Hp}:∀{as:List Addr} {ns:List Nd},aI H as ns->Paired (qh H) as (ns.map fun n=>[(n.1:Int),(n.2:Int)])
 |_,_,.nil=> .nil
 |_,_,.cons r t=> .cons r (iC t)
theorem dr(ns:List Nd):(ns.map fun n=>[(n.1:Int),(n.2:Int)]).flatten=nodes ns:=by
 unfold nodes Vbkoac.ints
 induction ns with
 |nil=>rfl
 |cons n ns ih=>
  rw[aji,akV,ajD,aiY,ih];rfl
theorem eC(ns:List Nd):(nodes ns).length=2*ns.length:=by
 rw[<-dr]
 induction ns with
 |nil=>rfl
 |cons n ns ih=>
  rw[aji,akV,aiT,ih];show 2+2*ns.length=2*(ns.length+1);omega
section
variable{K:W.Frag}
abbrev Ym:=top 112
theorem L5:aM ["known","revocation","day","pulled","number"] ["known","revocation","day"] (aF Ym):=dc
def Tn(C:Cs):Sp:=fun vs H Q _=>∃ka h c r d,vs=[.ref ka,.ref c,.int (d:Nat)]/\aq C H ka h/\fS h/\dX C H c r/\h.revokes.length<=20/\∀H' l,aC H H'->H l=none->fU H' l (Vbkoac.ints (Vbkoac.pulled h r.num d))->Q (.ref l) H'
theorem FZ(ok:fS h)(num d:Nat){ps:List Nd}(hP:uc h num (iN h d) ps):(h.papers.filter fun p=>ps.contains (p.id,d)).map (fun p=>p.id)=Vbkoac.pulled h num d:=by
 have D4:=PM.dh ok num;unfold Vbkoac.pulled;rw[PM.oq D4,PM.oq ok,aly,List.filter_filter];congr 1;show h.papers.filter _=h.papers.filter _;refine akA fun p hp=>?_;have hm:(p.id,d)∈iN h d:=ai7.mpr ⟨p,hp,rfl⟩;rw[hP (p.id,d) hm (p.id,d) (bq _ _),Bool.and_comm];congr 1;show(!standsOn h p.id d)= !((h.papers.filter fun p=>standsOn h p.id d).map fun p=>p.id).contains p.id;congr 1;rw[ajw,ajp,ai7];constructor
 .intro z;exact⟨p,ajy.mpr ⟨hp,z⟩,Z⟩
 .rintro⟨q,hq,e⟩;have:=(ajy.mp hq).2;rw[e]at this;exact this
theorem UM(F:bL "pulled_papers" Ym)(T:Txt K mg C)(dP:kh 7)(dO:oG 7):de 8 ["known","revocation","day"] (Tn C):=by
 refine d9 L5
 .obtain⟨ka,h,c,r,d,rfl,_⟩:=h;rfl
 .obtain⟨ka,hh,c,r,d,rfl,hK,ok,hc,Sq,hQ⟩:=h;have hu:=bu hr;have n1:=T.nK "papers" (by decide);refine⟨_,aD (gT (i:=3) L5.nd rfl (Or.inr rfl) (aJ dP hr (ny (pv 0) (pv 1) (aJ dO hr (cY (pv 0) (pv 2)))))) (aE (aH (jQ (fw (own:=[("number",4)]) rfl L5.nd (gc (aL (pv 0) rfl)) (cV rfl) (fun _ _ _ _ _=>zG 4 L5.nd) (fun _ _ _ _ _=>gI (b9 (fB hu (cZ (cY (pv 4) (pv 2))) (pv 3)))) (fun _ _ _ _ _=>pv 4))))),?_⟩;refine⟨_,Z,_,Z,_,Z,_,Z,ka,hh,d,Z,hK,ok,fun H1 l s1 hl rh=>?_⟩;refine⟨ka,hh,c,r,l,iN hh d,d,rfl,hK.same (aC.x s1),ok,hc.same (aC.x s1),Sq,rh,(by unfold iN;rw[aiQ];have:=ok.fD;omega),(fun n hn=>by obtain⟨p,_,rfl⟩:=ai7.mp hn;rfl),fun H2 W6 ps s2 yC KL hP=>?_⟩;have b0:=aC.trans s1 s2;obtain⟨dx,fs,pd,rl,aP,rs,ha,f1,f2,e1,p1,e2,p2⟩:=(hK.same (aC.x b0)).ex;refine⟨pd,_,e1,True.intro,fun od=>?_⟩;have CD:ka≠pd:=ak ha e1 nofun;have ZE:W6≠pd:=ak KL e1 nofun;have hlen:aP.length=hh.papers.length:=Paired.length p1;refine⟨_,Z,ka,_,dx,fs,_,Z,(by rw[aB CD];exact ha),T.cK,n1,f1,pd,od,Z,.inl ⟨aP,aA,fun D hD=>oN (J:=Sz pd od aP) (n:=aP.length) (fun i H'=>aC (upd H2 pd (.br od (.dK aP))) H'/\H' D=some (.lst (ah (((hh.papers.take i).filter fun p=>ps.contains (p.id,d)).map fun p=>p.id)))) ⟨zU hD,aA⟩ (fun i H' hi ⟨s1,_⟩=>⟨s1 _ _ aA,hi⟩) ?_ ?_⟩⟩
  .rintro i x H3 H4 hi ⟨s3,oQ⟩ ⟨eH,kk,v,jn,ex⟩;subst eH;obtain⟨p,hp,ek,_⟩:=aR p1 jn;have GX:kk=Sum.inl (p.id:Int):=ek;subst GX;subst ex;refine⟨Z,?_⟩;refine⟨_,Z,_,Z,(zL rfl),fun t ht=>?_⟩;have Fw:D≠t:=aG oQ ht;have Zz:upd H2 pd (.br od (.dK aP)) W6=some (.dT (seenOf ps)):=(by rw[aB ZE];exact KL);have EV:=s3 _ _ Zz;have UX:W6≠t:=aG EV ht;refine⟨_,Z,W6,_,Z,ba.t (k:=bZ (p.id,d)) (by rw[aB UX];exact EV) aA,_,Z,?_⟩;rw[fE];have nF:upd H4 t (.tup ((bZ (p.id,d)).map kV)) D=some (.lst (ah (((hh.papers.take i).filter fun p=>ps.contains (p.id,d)).map fun p=>p.id))):=(by rw[aB Fw];exact oQ);have s4:aC (upd H2 pd (.br od (.dK aP))) (upd H4 t (.tup ((bZ (p.id,d)).map kV))):=aC.upd s3 (aC.free s3 ht);refine aO (fun h1=>?_) (fun h1=>?_)
   .refine⟨_,Z,_,nF,?_,aC.upd s4 hD,?_⟩
    .unfold ah;rw[aiQ,aiQ,ai6];have z:=ajk (fun p:Paper=>ps.contains (p.id,d)) (hh.papers.take i);rw[ajb]at z;have:=ok.fD;omega
    .rw[aA,bX _ hp,ai5 h1];unfold ah;rw[aiY,aiY];rfl
   .refine⟨s4,?_⟩;rw[bX _ hp,ai0 h1,ajs];exact nF
  .rintro H3 ⟨s3,oQ⟩;have qb:H3 pd=some (.br od (.dK aP)):=s3 _ _ aA;refine⟨⟨qb,ai2 _⟩,qb,?_⟩;rw[hlen,ai9,FZ ok r.num d hP]at oQ;have wF:D≠pd:=ak oQ qb nofun;have qY:H2 D=none:=(by rw[aB wF]at hD;exact hD);refine hQ _ D (aC.trans b0 (aC.unlock e1 s3)) (aC.free b0 qY) ?_;show upd _ _ _ D=_;rw[aB wF,oQ];unfold ah Vbkoac.ints;rw[aj0];rfl
abbrev Bx:=top 113
theorem Dj:aM ["known","revocation","asked","pulled"] ["known","revocation","asked"] (aF Bx):=dc
def gQ(h:Known)(num:Nat)(n:Nd):List Int:=match Vbkoac.chain h num n.1 n.2 with
 |none=>[0]
 |some l=>1::nodes l
def De(C:Cs):Sp:=fun vs H Q _=>∃ka h c r b n,vs=[.ref ka,.ref c,.ref b]/\aq C H ka h/\fS h/\dX C H c r/\h.revokes.length<=20/\(h.revokes.find? fun x=>x.num==r.num)=some r/\(h.revokes.map fun x=>x.num).Nodup/\TupAt H b n/\∀H' l,aC H H'->H l=none->fU H' l (gQ h r.num n)->(gQ h r.num n).length<=500000->Q (.ref l) H'
theorem Jp(F:bL "chain" Bx)(dP:kh 7)(dF:rb 7)(dW:cO 7 "way_down" ["known","revocation","pulled","asked"] (N7 C)):de 8 ["known","revocation","asked"] (De C):=by
 refine d9 Dj
 .obtain⟨ka,h,c,r,b,n,rfl,_⟩:=h;rfl
 .obtain⟨ka,hh,c,r,b,n,rfl,hK,ok,hc,Sq,uB,XE,hb,hQ⟩:=h;have hu:=bu hr;refine⟨_,aD (zS 3 Dj.nd (aJ dP hr (ny (pv 0) (pv 1) (aU (bM (pv 2)))))) (aD (aZ (b9 (cJ hu (pv 2) (pv 3))) (aE (aH (aU (bM aK)))) aN) (aE (aH (cE gB (aU (bM aK)) (aJ dF hr (bM (aJ dW hr (G5 (pv 0) (pv 1) (pv 3) (pv 2))))))))),?_⟩;refine⟨_,Z,_,Z,_,Z,(zL rfl),fun l hl=>?_⟩;have s1:aC H (upd H l (.lst [V.ref b])):=zU hl;refine⟨ka,hh,c,r,l,[n],n.2,Z,hK.same (aC.x s1),ok,hc.same (aC.x s1),Sq,⟨[b],aA,.cons (s1 _ _ hb) .nil⟩,(by show 1<=1000;decide),(fun m hm=>by rw[aiU.mp hm]),fun H2 pd ps s2 yC KL hP=>?_⟩;have b0:=aC.trans s1 s2;have ec:=hP n (aiU.mpr rfl) n (bq _ _);refine⟨_,Z,_,Z,pd,_,Z,ba.t KL (b0 _ _ hb),_,Z,?_⟩;rw[fE,ec];cases q:(standsOn (without hh r.num) n.1 n.2&& !standsOn hh n.1 n.2)with
  |false=>
   refine aO (fun _=>?_) (fun z=>absurd rfl z);have ch:Vbkoac.chain hh r.num n.1 n.2=none:=(PM.DC fun z=>by rw[z.1,z.2]at q;cases q);refine⟨(zL rfl),fun l2 ky=>?_⟩;have e:gQ hh r.num n=[0]:=(by unfold gQ;rw[ch]);rw[e]at hQ;exact hQ _ l2 (aC.trans b0 (zU ky)) (aC.free b0 ky) aA (by decide)
  |true=>
   refine aO nofun (fun _=>?_);rw[ajn]at q;refine⟨(zL rfl),fun l2 ky=>?_⟩;have s3:aC H2 (upd H2 l2 (.lst [V.int 1])):=zU ky;have eJ:=aC.trans b0 s3;refine⟨_,Z,_,Z,_,Z,_,Z,ka,hh,c,r,pd,ps,b,n,Z,hK.same (aC.x eJ),ok,hc.same (aC.x eJ),uB,XE,eJ _ _ hb,s3 _ _ KL,hP,q.1,by simpa using q.2,fun H4 wa wy s4 ⟨as,hwa,Uw⟩ ech hlen=>?_⟩;have e:gQ hh r.num n=1::nodes wy:=(by unfold gQ;rw[ech]);refine⟨wa,as,_,Z,hwa,iC Uw,(by rw[dr,eC,ai6];omega),fun H5 l5 s5 Oe Cj=>?_⟩;rw[dr]at Cj;have HJ:=s5 _ _ (s4 _ _ (show upd H2 l2 (.lst [V.int 1]) l2=some (.lst [V.int 1])from aA));refine⟨l2,l5,_,_,Z,Z,HJ,Cj,(by rw[aiQ,eC,ai6];show 1+_<=_;omega),fun l6 Ka=>?_⟩;have G4:=aC.trans eJ (aC.trans s4 s5);rw[e]at hQ;exact hQ _ l6 (aC.upd G4 (aC.free G4 Ka)) (aC.free G4 Ka) (by show upd _ _ _ l6=_;rw[aA];rfl) (by rw[ajc,eC];omega)
end
def fk:Call->Int
 | .day _=>0| .paper .. =>1| .revoke .. =>2| .back _=>3| .stands .. =>4| .why .. =>5| .proof .. =>6| .tree .. =>7| .shut .. =>8| .all .. =>9| .spans .. =>10| .pulled .. =>11| .chain .. =>12| .moved .. =>13| .decide_ .. =>14| .review=>15| .told _=>16| .sizes=>17
def bB:Call->List Int
 | .day k=>[k]| .paper i a b _=>[i,a,b]| .revoke n i c=>[n,i,c]| .back n=>[n]| .stands i d k=>[i,d,k]| .why i d k=>[i,d,k]| .proof i d k=>[i,d,k]| .tree i d k _=>[i,d,k]| .shut i d k _=>[i,d,k]
 | .all d k=>[d,k]| .spans i k=>[i,k]| .pulled n d k=>[n,d,k]| .chain n i d k=>[n,i,d,k]| .moved d k m=>[d,k,m]| .decide_ i d=>[i,d]| .review=>[]| .told i=>[i]| .sizes=>[]
def bJ:Call->List Int
 | .paper _ _ _ l=>l| .tree _ _ _ l=>l| .shut _ _ _ l=>l|_=>[]
structure ig(C:Cs)(H:Hp)(a:Addr)(c:Call):Prop where
 ex:∃dx fs nl rl,H a=some (.ins C.call dx fs)/\Fd fs "number" (.int (fk c))/\Fd fs "numbers" (.ref nl)/\Fd fs "row" (.ref rl)/\H nl=some (.lst ((bB c).map V.int))/\H rl=some (.lst ((bJ c).map V.int))
theorem ig.same{H':Hp}(s:aw H H'){a:Addr}{c:Call}(h:ig C H a c):ig C H' a c:=
 let⟨dx,fs,nl,rl,e1,e2,e3,e4,e5,e6⟩:=h.ex
 ⟨dx,fs,nl,rl,s.kp _ _ e1 nofun,e2,e3,e4,s.kp _ _ e5 nofun,s.kp _ _ e6 nofun⟩
theorem ia(h:isId z=true):z=(z.toNat:Int):=by unfold isId at h;have:=aja h;omega
theorem dv(h:isDay z=true):z=(z.toNat:Int):=by unfold isDay at h;have:=aja h;omega
theorem gM{k:Int}(h:kU s k=0):isDay k=true/\¬(s.today:Int)<k:=by
 unfold kU at h;cases q:isDay k with
 |false=>rw[q,ai5 rfl]at h;cases h
 |true=>
  rw[q,ai0 nofun]at h;refine⟨Z,fun z=>?_⟩;rw[ai5 z]at h;cases h
theorem MB{k:Int}(h:kU s k≠0):(isDay k=false/\kU s k= -2)\/(isDay k=true/\(s.today:Int)<k/\kU s k= -7):=by
 unfold kU at h⊢;cases q:isDay k with
 |false=>exact .inl ⟨rfl,by rw[ai5 rfl]⟩
 |true=>
  rw[q,ai0 nofun]at h;by_cases z:(s.today:Int)<k
  .exact .inr ⟨Z,z,by rw[ai0 nofun,ai5 z]⟩
  .rw[ai0 z]at h;exact absurd rfl h
theorem iy{k:Int}(h:qo s d k=0):isDay d=true/\kU s k=0:=by
 unfold qo at h;cases q:isDay d with
 |false=>rw[q,ai5 rfl]at h;cases h
 |true=>rw[q,ai0 nofun]at h;exact⟨Z,h⟩
theorem kW{k:Int}(h:fV s n d k=0):isId n=true/\qo s d k=0:=by
 unfold fV at h;cases q:isId n with
 |false=>rw[q,ai5 rfl]at h;cases h
 |true=>rw[q,ai0 nofun]at h;exact⟨Z,h⟩
theorem cb{k:Int}(h:fV s n d k=0)(f:Known->Nat->Nat->State×Ans):asked s n d k f=f (knownAt s k.toNat) n.toNat d.toNat:=by obtain⟨a,b⟩:=kW h;obtain⟨c,e⟩:=iy b;obtain⟨g,i⟩:=gM e;unfold asked;rw[a,c,g,ai0 (by decide),ai0 (show¬Int.ofNat s.today<k from i)]
theorem gR{k:Int}(h:fV s n d k≠0)(f:Known->Nat->Nat->State×Ans):asked s n d k f=(s,[fV s n d k]):=by
 unfold fV qo at h⊢;unfold asked;cases q1:isId n with
 |false=>rfl
 |true=>
  cases q2:isDay d with
  |false=>rfl
  |true=>
   rw[q1,q2,ai0 nofun,ai0 nofun]at h;show(if(true&&(true&&isDay k))=false then(s,[-2])else if Int.ofNat s.today<k then(s,[-7])else f (knownAt s k.toNat) n.toNat d.toNat)=(s,[kU s k]);rcases MB h with⟨a,b⟩|⟨a,b,c⟩
   .rw[a,b];rfl
   .rw[a,c,ai0 (by decide),ai5 (show Int.ofNat s.today<k from b)]
theorem kO(s:State)(n d k:Int):Vbkoac.step s (.pulled n d k)=asked s n d k fun h i e=>if(h.revokes.any fun r=>r.num==i)=false then(s,[-3])else(s,0::Vbkoac.ints (Vbkoac.pulled h i e)):=rfl
theorem mR(s:State)(n i d k:Int):Vbkoac.step s (.chain n i d k)=if isId n=false then(s,[-2])else asked s i d k fun h j e=>if(h.revokes.any fun r=>r.num==n.toNat)=false then(s,[-3])else(match Vbkoac.chain h n.toNat j e with
  |none=>(s,[0,0])
  |some l=>(s,0::1::nodes l)):=rfl
theorem wH(ok:jh s)(k:Nat):(knownAt s k).revokes.length<=20/\((knownAt s k).revokes.map fun r=>r.num).Nodup:=⟨ajq (ajk _ _) ok.rf,alz (List.Sublist.map _ alr) ok.rn⟩
theorem xA(ok:fS h)(d:Nat):(allOn h d).length<=24:=by rw[PM.oq ok,aiQ];exact ajq (ajk _ _) ok.fD
section
variable{K:W.Frag}
def vi(C:Cs)(ok:Call->Prop):Sp:=fun vs H Q _=>∃a s fp ca c,vs=[.ref a,.ref ca]/\aW C H a s fp/\ig C H ca c/\ok c/\∀H' l,aC H H'->H l=none->fU H' l (Vbkoac.step s c).2->(Vbkoac.step s c).1=s->(Vbkoac.step s c).2.length<=1000000->Q (.ref l) H'
def pX:Call->Prop
 | .pulled .. =>True| .chain .. =>True|_=>False
abbrev Ih:=top 111
theorem IL:aM ["house","call","numbers"] ["house","call"] (aF Ih):=dc
def P2(s:State):Call->Int
 | .pulled n d k=>fV s n d k
 | .chain n i d k=>if isId n=false then-2 else fV s i d k
 |_=>0
def Hs(C:Cs):Sp:=fun vs H Q _=>∃a s fp ca c,vs=[.ref a,.ref ca]/\aW C H a s fp/\ig C H ca c/\pX c/\Q (.int (P2 s c)) H
theorem MS(F:bL "refusal_of_pulling" Ih)(T:Txt K mg C)(dA:gX 4)(dN:cB 4)(WX:Num mg "PULLED" 11)(c2:Num mg "OUT_OF_RANGE" (-2)):de 5 ["house","call"] (Hs C):=by
 refine d9 IL
 .obtain⟨a,s,fp,ca,c,rfl,_⟩:=h;rfl
 .obtain⟨a,st,fp,ca,c,rfl,hH,hC,bK,hQ⟩:=h;obtain⟨dx,fs,nl,rl,e1,e2,e3,e4,e5,e6⟩:=hC.ex;have n1:=T.nC "numbers" (by decide);have n2:=T.nC "number" (by decide);refine⟨_,aD (zS 2 IL.nd (aL (pv 1) rfl)) (aD (aZ (aY eO (aL (pv 1) rfl) (aQ WX)) (aE (aH (aJ dA hr (G5 (pv 0) (af aX (pv 2) aK) (af aX (pv 2) aK) (af aX (pv 2) aK))))) aN) (aD (aZ (cn (bF (aJ dN hr (bM (af aX (pv 2) aK))))) (aE (aH (aQ c2))) aN) (aE (aH (aJ dA hr (G5 (pv 0) (af aX (pv 2) aK) (af aX (pv 2) aK) (af aX (pv 2) aK))))))),?_⟩;refine⟨_,Z,ca,_,dx,fs,_,Z,e1,T.cC,n1,e3,?_⟩;refine⟨_,Z,ca,_,dx,fs,_,Z,e1,T.cC,n2,e2,Z,_,Z,?_⟩
  match c,bK with
  | .pulled n d k,_=>
   refine aO (fun _=>?_) (fun z=>absurd rfl z);refine⟨_,Z,_,Z,nl,_,_,_,Z,Z,ae.of e5,aS (j:=0) rfl,_,Z,nl,_,_,_,Z,Z,ae.of e5,aS (j:=1) rfl,_,Z,nl,_,_,_,Z,Z,ae.of e5,aS (j:=2) rfl,a,st,fp,n,d,k,Z,hH,hQ⟩
  | .chain n i d k,_=>
   refine aO (fun z=>(nomatch (aja z))) (fun _=>?_);refine⟨_,Z,nl,_,_,_,Z,Z,ae.of e5,aS (j:=0) rfl,n,Z,_,Z,?_⟩;have RJ:Q (.int (if isId n=false then-2 else fV st i d k)) H:=hQ;cases q:isId n with
   |false=>
    rw[q,ai5 rfl]at RJ;exact aO (fun _=>RJ) (fun z=>absurd rfl z)
   |true=>
    rw[q,ai0 nofun]at RJ;refine aO nofun (fun _=>?_);exact⟨_,Z,_,Z,nl,_,_,_,Z,Z,ae.of e5,aS (j:=1) rfl,_,Z,nl,_,_,_,Z,Z,ae.of e5,aS (j:=2) rfl,_,Z,nl,_,_,_,Z,Z,ae.of e5,aS (j:=3) rfl,a,st,fp,i,d,k,Z,hH,RJ⟩
abbrev JE:=top 110
theorem sg:aM ["house","call","numbers","refusal","known","revocation"] ["house","call"] (aF JE):=dc
theorem uY{n:Nat}:(h.revokes.any fun r=>r.num==n)=(h.revokes.find? fun r=>r.num==n).isSome:=by
 rw[ajw,ajX,akZ];constructor
 .rintro⟨x,hx,e⟩;cases q:h.revokes.find? fun r=>r.num==n with
  |none=>exact absurd e (akg.mp q x hx)
  |some y=>exact⟨y,rfl⟩
 .rintro⟨y,e⟩;exact⟨y,akk e,ald (p:=fun r:Revoke=>r.num==n) e⟩
theorem Ml(F:bL "answer_pulling" JE)(T:Txt K mg C)(dR:cO 8 "refusal_of_pulling" ["house","call"] (Hs C))(dK:dg 8)(dF:cO 8 "find_revocation" ["known","number"] (IE C))(dP:cO 8 "pulled_papers" ["known","revocation","day"] (Tn C))(dC:cO 8 "chain" ["known","revocation","asked"] (De C)) (WX:Num mg "PULLED" 11)(c0:Num mg "ACCEPTED" 0)(c3:Num mg "NONE_SUCH" (-3)):de 9 ["house","call"] (vi C pX):=by
 refine d9 sg
 .obtain⟨a,s,fp,ca,c,rfl,_⟩:=h;rfl
 .obtain⟨a,st,fp,ca,c,rfl,hH,hC,bK,hQ⟩:=h;obtain⟨dx,fs,nl,rl,e1,e2,e3,e4,e5,e6⟩:=hC.ex;have n1:=T.nC "numbers" (by decide);have n2:=T.nC "number" (by decide);refine⟨_,aD (zS 2 sg.nd (aL (pv 1) rfl)) (aD (zS 3 sg.nd (aJ dR hr (cY (pv 0) (pv 1)))) (aD (aZ (aY n8 (pv 3) (aQ c0)) (aE (aH (aU (bM (pv 3))))) aN) (aD (zS 4 sg.nd (aJ dK hr (cY (pv 0) (af aX (pv 2) (vy pE aK))))) (aD (zS 5 sg.nd (aJ dF hr (cY (pv 4) (af aX (pv 2) aK)))) (aD (aZ (aY tJ (pv 5) iA) (aE (aH (aU (bM (aQ c3))))) aN) (aD (aZ (aY eO (aL (pv 1) rfl) (aQ WX)) (aE (aH (cE gB (aU (bM (aQ c0))) (aJ dP hr (ny (pv 4) (pv 5) (af aX (pv 2) aK)))))) aN) (aE (aH (cE gB (aU (bM (aQ c0))) (aJ dC hr (ny (pv 4) (pv 5) (cZ (cY (af aX (pv 2) aK) (af aX (pv 2) aK)))))))))))))),?_⟩;have ok:=hH.ok;refine⟨_,Z,ca,_,dx,fs,_,Z,e1,T.cC,n1,e3,?_⟩;refine⟨_,Z,_,Z,a,st,fp,ca,c,Z,hH,hC,bK,?_⟩;refine⟨_,Z,Z,_,Z,?_⟩;have one:∀z:Int,(Vbkoac.step st c)=(st,[z])->∀l,H l=none->Q (.ref l) (upd H l (.lst [V.int z])):=(fun z e l hl=>by rw[e]at hQ;exact hQ _ l (zU hl) hl aA rfl (by show 1<=1000000;decide));by_cases hz:P2 st c=0
  .rw[hz];refine aO nofun (fun _=>?_);obtain⟨n,d,k,i,ec⟩:∃n d k i,(c= .pulled n d k/\fV st n d k=0)\/(c= .chain n i d k/\isId n=true/\fV st i d k=0):=by
    match c,bK with
    | .pulled n d k,_=>exact⟨n,d,k,0,.inl ⟨rfl,hz⟩⟩
    | .chain n i d k,_=>
     have qx:(if isId n=false then-2 else fV st i d k)=0:=hz;cases q:isId n with
     |false=>rw[q,ai5 rfl]at qx;cases qx
     |true=>rw[q,ai0 nofun]at qx;exact⟨n,d,k,i,.inr ⟨Z,q,qx⟩⟩
   have hkd:isDay k=true/\isDay d=true/\isId n=true:=by
    rcases ec with⟨_,h1⟩|⟨_,h0,h1⟩
    .obtain⟨x1,x2⟩:=kW h1;obtain⟨x3,x4⟩:=iy x2;exact⟨(gM x4).1,x3,x1⟩
    .obtain⟨x1,x2⟩:=kW h1;obtain⟨x3,x4⟩:=iy x2;exact⟨(gM x4).1,x3,h0⟩
   have Qw:Az ((bB c).map V.int) (-1)=some (V.int k):=(by rcases ec with⟨e,_⟩|⟨e,_⟩<;>subst e<;>rfl);have Q8:((bB c).map V.int)[0]?=some (V.int n):=(by rcases ec with⟨e,_⟩|⟨e,_⟩<;>subst e<;>rfl);have kn:=dv hkd.1;have nn:=ia hkd.2.2;refine⟨_,Z,_,Z,_,Z,nl,_,_,_,Z,Z,ae.of e5,Qw,a,st,fp,k.toNat,(by rw[<-kn];rfl),hH,fun H1 kb s1 Of Ei=>?_⟩;have Ld:=fg ok k.toNat;obtain⟨f20,Su⟩:=wH ok k.toNat;have e51:=s1 _ _ e5;refine⟨_,Z,_,Z,nl,_,_,_,Z,Z,ae.of e51,aS Q8,kb,_,n.toNat,(by rw[<-nn];rfl),Ei,fun EX=>?_,fun r c2 wR Cb=>?_⟩
   ·
    refine⟨_,Z,Z,_,Z,aO (fun _=>?_) (fun z=>absurd rfl z)⟩;have lx:Vbkoac.step st c=(st,[-3]):=by
     rcases ec with⟨e,h1⟩|⟨e,h0,h1⟩
     .subst e;rw[kO,cb h1];rw[uY,EX];rfl
     .subst e;rw[mR,h0,ai0 nofun,cb h1];rw[uY,EX];rfl
    refine⟨(zL rfl),fun l hl=>?_⟩;rw[lx]at hQ;exact hQ _ l (aC.trans s1 (zU hl)) (aC.free s1 hl) aA rfl (by show 1<=1000000;decide)
   .refine⟨_,Z,Z,_,Z,aO (fun z=>(nomatch (aja z))) (fun _=>?_)⟩;have JI:r.num=n.toNat:=(by have:=ald wR;simpa using this);have uB:((knownAt st k.toNat).revokes.find? fun x=>x.num==r.num)=some r:=(by rw[JI];exact wR);have fF:((knownAt st k.toNat).revokes.any fun r=>r.num==n.toNat)=true:=(by rw[uY,wR];rfl);have iU:=s1 _ _ e1;have dn:=dv hkd.2.1;refine⟨_,Z,ca,_,dx,fs,_,Z,iU,T.cC,n2,e2,Z,_,Z,?_⟩;rcases ec with⟨e,h1⟩|⟨e,h0,h1⟩
    .subst e;refine aO (fun _=>?_) (fun z=>absurd rfl z);have lx:Vbkoac.step st (.pulled n d k)=(st,0::Vbkoac.ints (Vbkoac.pulled (knownAt st k.toNat) n.toNat d.toNat)):=(by rw[kO,cb h1];rw[fF,ai0 nofun]);refine⟨(zL rfl),fun l hl=>?_⟩;have s2:aC H1 (upd H1 l (.lst [V.int 0])):=zU hl;have b0:=aC.trans s1 s2;have MF:(Vbkoac.pulled (knownAt st k.toNat) n.toNat d.toNat).length<=24:=(by unfold Vbkoac.pulled;exact ajq (ajk _ _) (xA (PM.dh Ld _) _));refine⟨_,Z,_,Z,_,Z,nl,_,_,_,Z,Z,ae.of (s2 _ _ e51),aS (j:=1) rfl,kb,_,c2,r,d.toNat,(by rw[<-dn];rfl),Ei.same (aC.x s2),Ld,Cb.same (aC.x s2),f20,fun H3 l3 s3 ym hA=>?_⟩;rw[JI]at hA;have NQ:=s3 _ _ (show upd H1 l (.lst [V.int 0]) l=some (.lst [V.int 0])from aA);refine⟨l,l3,_,_,Z,Z,NQ,hA,(by rw[aiQ,ai6];unfold Vbkoac.ints;rw[aiQ];show 1+_<=_;omega),fun l4 BE=>?_⟩;have eJ:=aC.trans b0 s3;rw[lx]at hQ;refine hQ _ l4 (aC.upd eJ (aC.free eJ BE)) (aC.free eJ BE) ?_ rfl ?_
     .show upd _ _ _ l4=_;rw[aA];rfl
     .show _+1<=_;unfold Vbkoac.ints;rw[aiQ];omega
    .subst e;refine aO (fun z=>(nomatch (aja z))) (fun _=>?_);have lx:Vbkoac.step st (.chain n i d k)=(st,0::gQ (knownAt st k.toNat) n.toNat (i.toNat,d.toNat)):=by
      rw[mR,h0,ai0 nofun,cb h1];rw[fF,ai0 nofun];unfold gQ;dsimp only;cases Vbkoac.chain (knownAt st k.toNat) n.toNat i.toNat d.toNat with
      |none=>rfl
      |some l=>rfl
     have ii:=ia (kW h1).1;refine⟨(zL rfl),fun l hl=>?_⟩;have s2:aC H1 (upd H1 l (.lst [V.int 0])):=zU hl;have e52:=s2 _ _ e51;refine⟨_,Z,_,Z,_,Z,nl,_,_,_,Z,Z,ae.of e52,aS (j:=1) rfl,_,Z,nl,_,_,_,Z,Z,ae.of e52,aS (j:=2) rfl,(zL rfl),fun t ht=>?_⟩;have s3:aC (upd H1 l (.lst [V.int 0])) (upd (upd H1 l (.lst [V.int 0])) t (.tup [V.int i,V.int d])):=zU ht;have Bz:=aC.trans s2 s3;refine⟨kb,_,c2,r,t,(i.toNat,d.toNat),Z,Ei.same (aC.x Bz),Ld,Cb.same (aC.x Bz),f20,uB,Su,?_,fun H4 l4 s4 BE hA hlen=>?_⟩
     .show upd _ _ _ t=some (.tup [V.int (i.toNat:Nat),V.int (d.toNat:Nat)]);rw[aA,<-ii,<-dn]
     rw[JI]at hA hlen;have NQ:=s4 _ _ (s3 _ _ (show upd H1 l (.lst [V.int 0]) l=some (.lst [V.int 0])from aA));refine⟨l,l4,_,_,Z,Z,NQ,hA,(by rw[aiQ,ai6];show 1+_<=_;omega),fun l5 Oe=>?_⟩;have nE:=aC.trans s1 (aC.trans Bz s4);rw[lx]at hQ;refine hQ _ l5 (aC.upd nE (aC.free nE Oe)) (aC.free nE Oe) ?_ rfl ?_
     .show upd _ _ _ l5=_;rw[aA];rfl
     .show _+1<=_;omega
  .refine aO (fun _=>?_) (fun z=>?_)
   .refine⟨_,Z,(zL rfl),fun l hl=>one _ ?_ l hl⟩
    match c,bK with
    | .pulled n d k,_=>
     rw[kO];exact gR hz _
    | .chain n i d k,_=>
     rw[mR];show _=(st,[if isId n=false then-2 else fV st i d k]);have qx:¬(if isId n=false then-2 else fV st i d k)=0:=hz;cases q:isId n with
     |false=>rfl
     |true=>
      rw[q,ai0 nofun]at qx;rw[ai0 nofun,ai0 nofun];exact gR qx _
   .refine absurd ?_ z;have:¬V.int (P2 st c)=V.int 0:=(fun y=>by injection y with y;exact hz y);rw[ajl this];rfl
end
end Pp
namespace L2
open PySem PySem.Spec PyProof.Rows
theorem tK{X:Cx}{K:W.Frag}(h:X.K=K:=by rfl):rP X (compareOp .In) (rIn K false):=by subst h;exact gq
end L2
namespace Pp
open PySem PySem.Spec PyProof.Rows L2
open PM (fS)
variable{f:Addr}{fd:FuncData}{P:Program}{w:World}{mg:Str->Option Value}{base:Heap}{C:Cs}
theorem M3(i:Nat)(l:List Nat):SO (.int (i:Int)) (ah l)=l.contains i:=by
 unfold SO ah
 induction l with
 |nil=>rfl
 |cons x l ih=>
  rw[aji,ak0,amx,ih];congr 1;by_cases e:i=x
  .subst e;simp[Ln]
  .have:¬(x:Int)=(i:Int):=fun z=>e (by omega);have e2:(i==x)=false:=ajt.mpr e;rw[e2];simp[Ln];omega
theorem wj(l:List Nat):(ah l).all oR=true:=by unfold ah;rw[alH,ajA];intro x _;rfl
theorem JM(s:State)(d k:Int):fV s 1 d k=qo s d k:=rfl
theorem Hm(s:State)(d k:Int):Vbkoac.step s (.all d k)=asked s 1 d k fun h _ e=>(s,0::Vbkoac.ints (allOn h e)):=rfl
theorem BV(s:State)(i k:Int):Vbkoac.step s (.spans i k)=asked s i 0 k fun h i _=>(s,0::nodes (Vbkoac.spans h i)):=rfl
theorem BW(s:State)(d k m:Int):Vbkoac.step s (.moved d k m)=asked s 1 d k fun h _ e=>asked s 1 d m fun g _ _=>(s,0::Vbkoac.ints (((s.papers.map fun p=>p.id).filter fun i=>(allOn h e).contains i !=(allOn g e).contains i))):=rfl
theorem wO(l:List Nat):(Vbkoac.ints l).map V.int=ah l:=by unfold Vbkoac.ints ah;rw[aj0];rfl
theorem refused{z:Int}{P:Prop}(h:¬z=0):(!decide (V.int z=V.int 0))=true:=by have:¬V.int z=V.int 0:=(fun y=>by injection y with y;exact h y);rw[ajl this];rfl
section
variable{K:W.Frag}
abbrev Px:=top 120
theorem OH:aM ["house","day","known_day","refusal"] ["house","day","known_day"] (aF Px):=dc
def OF(C:Cs):Sp:=fun vs H Q _=>∃a s fp d k,vs=[.ref a,.int d,.int k]/\aW C H a s fp/\∀H' l,aC H H'->H l=none->fU H' l (Vbkoac.step s (.all d k)).2->(Vbkoac.step s (.all d k)).1=s->(Vbkoac.step s (.all d k)).2.length<=1000000->Q (.ref l) H'
theorem ok_all(F:bL "all_that_stand" Px)(dR:fK 7)(dK:dg 7)(dS:kg 7)(c0:Num mg "ACCEPTED" 0):de 8 ["house","day","known_day"] (OF C):=by
 refine d9 OH
 .obtain⟨a,s,fp,d,k,rfl,_⟩:=h;rfl
 .obtain⟨a,st,fp,d,k,rfl,hH,hQ⟩:=h;refine⟨_,aD (zS 3 OH.nd (aJ dR hr (ny (pv 0) (pv 1) (pv 2)))) (aD (aZ (aY n8 (pv 3) (aQ c0)) (aE (aH (aU (bM (pv 3))))) aN) (aE (aH (cE gB (aU (bM (aQ c0))) (aJ dS hr (cY (aJ dK hr (cY (pv 0) (pv 2))) (pv 1))))))),?_⟩;have ok:=hH.ok;rw[Hm]at hQ;refine⟨_,Z,_,Z,_,Z,a,st,fp,d,k,Z,hH,?_⟩;refine⟨_,Z,Z,_,Z,?_⟩;by_cases hz:qo st d k=0
  .rw[hz];refine aO nofun (fun _=>?_);have G7:fV st 1 d k=0:=hz;rw[cb G7]at hQ;obtain⟨hd,Ke⟩:=iy hz;have kn:=dv (gM Ke).1;have dn:=dv hd;have Ld:=fg ok k.toNat;refine⟨(zL rfl),fun l hl=>?_⟩;have s1:aC H (upd H l (.lst [V.int 0])):=zU hl;refine⟨_,Z,_,Z,a,st,fp,k.toNat,(by rw[<-kn];rfl),hH.same (aC.x s1),fun H2 kb s2 Of Cq=>?_⟩;refine⟨_,Z,kb,_,d.toNat,(by rw[<-dn];rfl),Cq,Ld,fun H3 l3 s3 ym hA=>?_⟩;have NQ:=s3 _ _ (s2 _ _ (show upd H l (.lst [V.int 0]) l=some (.lst [V.int 0])from aA));have len:=xA Ld d.toNat;refine⟨l,l3,_,_,Z,Z,NQ,hA,(by unfold ah;rw[aiQ,ai6];show 1+_<=_;omega),fun l4 BE=>?_⟩;have eJ:=aC.trans s1 (aC.trans s2 s3);refine hQ _ l4 (aC.upd eJ (aC.free eJ BE)) (aC.free eJ BE) ?_ rfl ?_
   .show upd _ _ _ l4=some (.lst (V.int 0::(Vbkoac.ints _).map V.int));rw[aA,wO];rfl
   .show _+1<=_;unfold Vbkoac.ints;rw[aiQ];omega
  .refine aO (fun _=>?_) (fun z=>absurd (refused (P:=True) hz) z);have G7:fV st 1 d k≠0:=hz;rw[gR G7]at hQ;refine⟨_,Z,(zL rfl),fun l hl=>?_⟩;exact hQ _ l (zU hl) hl aA rfl (by show 1<=1000000;decide)
def N8(C:Cs):Sp:=fun vs H Q _=>∃ka h n,vs=[.ref ka,.int (n:Nat)]/\aq C H ka h/\fS h/\h.revokes.length<=20/\∀H' l,aC H H'->H l=none->aT H' l (Vbkoac.spans h n)->(Vbkoac.spans h n).length<=1000->Q (.ref l) H'
abbrev Bl:=top 121
theorem Df:aM ["house","number","known_day","refusal"] ["house","number","known_day"] (aF Bl):=dc
def DS(C:Cs):Sp:=fun vs H Q _=>∃a s fp i k,vs=[.ref a,.int i,.int k]/\aW C H a s fp/\∀H' l,aC H H'->H l=none->fU H' l (Vbkoac.step s (.spans i k)).2->(Vbkoac.step s (.spans i k)).1=s->(Vbkoac.step s (.spans i k)).2.length<=1000000->Q (.ref l) H'
theorem Je(F:bL "spans" Bl)(dN:cB 9)(dR:dE 9)(dK:dg 9)(dS:cO 9 "stretches_of" ["known","number"] (N8 C))(dF:rb 9) (c0:Num mg "ACCEPTED" 0)(c2:Num mg "OUT_OF_RANGE" (-2)):de 10 ["house","number","known_day"] (DS C):=by
 refine d9 Df
 .obtain⟨a,s,fp,i,k,rfl,_⟩:=h;rfl
 .obtain⟨a,st,fp,i,k,rfl,hH,hQ⟩:=h;refine⟨_,aD (aZ (cn (bF (aJ dN hr (bM (pv 1))))) (aE (aH (aU (bM (aQ c2))))) aN) (aD (zS 3 Df.nd (aJ dR hr (cY (pv 0) (pv 2)))) (aD (aZ (aY n8 (pv 3) (aQ c0)) (aE (aH (aU (bM (pv 3))))) aN) (aE (aH (cE gB (aU (bM (aQ c0))) (aJ dF hr (bM (aJ dS hr (cY (aJ dK hr (cY (pv 0) (pv 2))) (pv 1)))))))))),?_⟩;have ok:=hH.ok;rw[BV]at hQ;refine⟨_,Z,i,Z,_,Z,?_⟩;have eA:fV st i 0 k=if isId i=false then-2 else kU st k:=rfl
  cases hi:isId i with
  |false=>
   refine aO (fun _=>?_) (fun z=>absurd rfl z);have e:fV st i 0 k= -2:=(by rw[eA,hi,ai5 rfl]);rw[gR (by rw[e];decide),e]at hQ;refine⟨(zL rfl),fun l hl=>?_⟩;exact hQ _ l (zU hl) hl aA rfl (by show 1<=1000000;decide)
  |true=>
   refine aO nofun (fun _=>?_);rw[hi,ai0 nofun]at eA;refine⟨_,Z,_,Z,a,st,fp,k,Z,hH,?_⟩;refine⟨_,Z,Z,_,Z,?_⟩;by_cases hz:kU st k=0
   .rw[hz];refine aO nofun (fun _=>?_);rw[cb (by rw[eA];exact hz)]at hQ;have kn:=dv (gM hz).1;have nn:=ia hi;have Ld:=fg ok k.toNat;refine⟨(zL rfl),fun l hl=>?_⟩;have s1:aC H (upd H l (.lst [V.int 0])):=zU hl;refine⟨_,Z,_,Z,a,st,fp,k.toNat,(by rw[<-kn];rfl),hH.same (aC.x s1),fun H2 kb s2 Of Cq=>?_⟩;refine⟨_,Z,kb,_,i.toNat,(by rw[<-nn];rfl),Cq,Ld,(wH ok k.toNat).1,fun H3 l3 s3 ym ⟨as,hA,hn⟩ hlen=>?_⟩;refine⟨l3,as,_,Z,hA,iC hn,(by rw[dr,eC,ai6];omega),fun H4 l4 s4 BE Xv=>?_⟩;rw[dr]at Xv;have NQ:=s4 _ _ (s3 _ _ (s2 _ _ (show upd H l (.lst [V.int 0]) l=some (.lst [V.int 0])from aA)));refine⟨l,l4,_,_,Z,Z,NQ,Xv,(by rw[aiQ,eC,ai6];show 1+_<=_;omega),fun l5 Oe=>?_⟩;have nE:=aC.trans s1 (aC.trans s2 (aC.trans s3 s4));refine hQ _ l5 (aC.upd nE (aC.free nE Oe)) (aC.free nE Oe) ?_ rfl ?_
    .show upd _ _ _ l5=_;rw[aA];rfl
    .show _+1<=_;rw[eC];omega
   .refine aO (fun _=>?_) (fun z=>absurd (refused (P:=True) hz) z);rw[gR (by rw[eA];exact hz),eA]at hQ;refine⟨_,Z,(zL rfl),fun l hl=>?_⟩;exact hQ _ l (zU hl) hl aA rfl (by show 1<=1000000;decide)
abbrev Bs:=top 122
theorem jK:aM ["house","day","known_day","other_known_day","refusal","one","other","number"] ["house","day","known_day","other_known_day"] (aF Bs):=dc
def DY(C:Cs):Sp:=fun vs H Q _=>∃a s fp d k m,vs=[.ref a,.int d,.int k,.int m]/\aW C H a s fp/\∀H' l,aC H H'->H l=none->fU H' l (Vbkoac.step s (.moved d k m)).2->(Vbkoac.step s (.moved d k m)).1=s->(Vbkoac.step s (.moved d k m)).2.length<=1000000->Q (.ref l) H'
theorem Jk(F:bL "moved" Bs)(T:Txt K mg C)(dR:fK 7)(dR2:dE 7)(dK:dg 7)(dS:kg 7)(c0:Num mg "ACCEPTED" 0):de 8 ["house","day","known_day","other_known_day"] (DY C):=by
 refine d9 jK
 .obtain⟨a,s,fp,d,k,m,rfl,_⟩:=h;rfl
 .obtain⟨a,st,fp,d,k,m,rfl,hH,hQ⟩:=h;have n1:=T.nH "papers" (by decide);refine⟨_,aD (zS 4 jK.nd (aJ dR hr (ny (pv 0) (pv 1) (pv 2)))) (aD (aZ (aY n8 (pv 4) (aQ c0)) (aE (aH (aU (bM (pv 4))))) aN) (aD (zS 4 jK.nd (aJ dR2 hr (cY (pv 0) (pv 3)))) (aD (aZ (aY n8 (pv 4) (aQ c0)) (aE (aH (aU (bM (pv 4))))) aN) (aD (gT (i:=5) jK.nd rfl (Or.inr rfl) (aJ dS hr (cY (aJ dK hr (cY (pv 0) (pv 2))) (pv 1)))) (aD (gT (i:=6) jK.nd rfl (Or.inr rfl) (aJ dS hr (cY (aJ dK hr (cY (pv 0) (pv 3))) (pv 1)))) (aE (aH (cE gB (aU (bM (aQ c0))) (jQ (fw (own:=[("number",7)]) rfl jK.nd (gc (aL (pv 0) rfl)) (cV rfl) (fun _ _ _ _ _=>zG 7 jK.nd) (fun _ _ _ _ _=>gI (aY n8 (fe (tK (K:=K)) (pv 7) (pv 5) (by rfl)) (fe (tK (K:=K)) (pv 7) (pv 6) (by rfl)))) (fun _ _ _ _ _=>pv 7))))))))))),?_⟩;have ok:=hH.ok;rw[BW]at hQ;have JJ:∀z:Int,(∀(H':Hp) (l:Addr),aC H H'->H l=none->fU H' l [z]->st=st->1<=1000000->Q (.ref l) H')->([V.int z]:List V).length<=sizeLine/\∀p,H p=none->Q (.ref p) (upd H p (.lst [V.int z])):=fun z hq=>⟨zL rfl,fun l hl=>hq _ l (zU hl) hl aA rfl (by decide)⟩;refine⟨_,Z,_,Z,_,Z,a,st,fp,d,k,Z,hH,?_⟩;refine⟨_,Z,Z,_,Z,?_⟩;by_cases hz:qo st d k=0
  .rw[hz];refine aO nofun (fun _=>?_);have G7:fV st 1 d k=0:=hz;rw[cb G7]at hQ;obtain⟨hd,Ke⟩:=iy hz;have eM:fV st 1 d m=kU st m:=(by rw[JM];unfold qo;rw[hd,ai0 nofun]);refine⟨_,Z,_,Z,a,st,fp,m,Z,hH,?_⟩;refine⟨_,Z,Z,_,Z,?_⟩;by_cases Us:kU st m=0
   .rw[Us];refine aO nofun (fun _=>?_);rw[cb (by rw[eM];exact Us)]at hQ;have kn:=dv (gM Ke).1;have mn:=dv (gM Us).1;have dn:=dv hd;have Ld:=fg ok k.toNat;have okM:=fg ok m.toNat;refine⟨_,Z,_,Z,a,st,fp,k.toNat,(by rw[<-kn];rfl),hH,fun H1 kb s1 Of Ei=>?_⟩;refine⟨_,Z,kb,_,d.toNat,(by rw[<-dn];rfl),Ei,Ld,fun H2 l2 s2 ky hA=>?_⟩;have b0:=aC.trans s1 s2;refine⟨_,Z,_,Z,a,st,fp,m.toNat,(by rw[<-mn];rfl),hH.same (aC.x b0),fun H3 kc s3 Xc hK3=>?_⟩;refine⟨_,Z,kc,_,d.toNat,(by rw[<-dn];rfl),hK3,okM,fun H4 l4 s4 BE hB=>?_⟩;have s34:=aC.trans s3 s4;have nE:=aC.trans b0 s34;have Xv:=s34 _ _ hA;refine⟨(zL rfl),fun l hl=>?_⟩;have s5:aC H4 (upd H4 l (.lst [V.int 0])):=zU hl;have G4:=aC.trans nE s5;obtain⟨dx,fs,pd,rd,dl,pk,rk,ds,e1,e2,e3,e4,e5,e6,e7,e8,e9,o9,iU,iT,wo,r6⟩:=(hH.same (aC.x G4)).ex;refine⟨pd,_,e7,True.intro,fun od=>?_⟩;have CD:a≠pd:=ak e1 e7 nofun;have hlen:pk.length=st.papers.length:=Paired.length e8;have kl:∀{q xs},upd H4 l (.lst [V.int 0]) q=some (.lst xs)->upd (upd H4 l (.lst [V.int 0])) pd (.br od (.dK pk)) q=some (.lst xs):=(fun{q xs} e=>by rw[aB (ak e e7 nofun)];exact e);have hA5:=kl (s5 _ _ Xv);have hB5:=kl (s5 _ _ hB);refine⟨_,Z,a,_,dx,fs,_,Z,(by rw[aB CD];exact e1),T.cH,n1,e4,pd,od,Z,.inl ⟨pk,aA,fun D hD=>oN (J:=Sz pd od pk) (n:=pk.length) (fun i H'=>aC (upd (upd H4 l (.lst [V.int 0])) pd (.br od (.dK pk))) H'/\H' D=some (.lst (ah (((st.papers.map fun p=>p.id).take i).filter fun i=>(allOn (knownAt st k.toNat) d.toNat).contains i !=(allOn (knownAt st m.toNat) d.toNat).contains i)))) ⟨zU hD,aA⟩ (fun i H' hi ⟨s1,_⟩=>⟨s1 _ _ aA,hi⟩) ?_ ?_⟩⟩
    .rintro i x H6 H7 hi ⟨s6,NP⟩ ⟨eH,kk,v,jn,ex⟩;subst eH;obtain⟨p,hp,ek,_⟩:=aR e8 jn;have GX:kk=Sum.inl (p.id:Int):=ek;subst GX;subst ex;have Sb:(st.papers.map fun p=>p.id)[i]?=some p.id:=(by rw[ajd,hp];rfl);refine⟨Z,?_⟩;refine⟨_,Z,_,Z,l2,_,Z,.inl (ae.of (s6 _ _ hA5)),Z,wj _,_,Z,_,Z,l4,_,Z,.inl (ae.of (s6 _ _ hB5)),Z,wj _,Z,_,Z,?_⟩;have ei:∀l:List Nat,(if false=true then !SO (kV (Sum.inl (p.id:Int))) (ah l)else SO (kV (Sum.inl (p.id:Int))) (ah l))=l.contains p.id:=fun l=>M3 p.id l;rw[ei,ei];have eb:∀x y:Bool,(!decide (V.bl x=V.bl y))=(x !=y):=(fun x y=>by cases x<;>cases y<;>rfl);rw[eb];refine aO (fun h1=>?_) (fun h1=>?_)
     .refine⟨_,Z,_,NP,?_,aC.upd s6 hD,?_⟩
      .unfold ah;rw[aiQ,ai6];have z:=ajk (fun i=>(allOn (knownAt st k.toNat) d.toNat).contains i !=(allOn (knownAt st m.toNat) d.toNat).contains i) ((st.papers.map fun p=>p.id).take i);rw[ajb,aiQ]at z;have:=ok.pf;omega
      .rw[aA,bX _ Sb,ai5 h1];unfold ah;rw[aiY];rfl
     .refine⟨s6,?_⟩;rw[bX _ Sb,ai0 h1,ajs];exact NP
    .rintro H6 ⟨s6,NP⟩;have qb:H6 pd=some (.br od (.dK pk)):=s6 _ _ aA;refine⟨⟨qb,ai2 _⟩,qb,?_⟩;rw[aky (by rw[aiQ];omega)]at NP;have wF:D≠pd:=ak NP qb nofun;have s7:aC (upd H4 l (.lst [V.int 0])) (upd H6 pd (.dK pk)):=aC.unlock e7 s6;have NQ:=s7 _ _ (show upd H4 l (.lst [V.int 0]) l=some (.lst [V.int 0])from aA);have len:(((st.papers.map fun p=>p.id).filter fun i=>(allOn (knownAt st k.toNat) d.toNat).contains i !=(allOn (knownAt st m.toNat) d.toNat).contains i)).length<=24:=ajq (ajk _ _) (by rw[aiQ];exact ok.pf);refine⟨l,D,_,_,Z,Z,NQ,(by rw[aB wF];exact NP),(by unfold ah;rw[aiQ,ai6];show 1+_<=_;omega),fun l8 VZ=>?_⟩;have Ys:=aC.trans G4 s7;refine hQ _ l8 (aC.upd Ys (aC.free Ys VZ)) (aC.free Ys VZ) ?_ rfl ?_
     .show upd _ _ _ l8=some (.lst (V.int 0::(Vbkoac.ints _).map V.int));rw[aA,wO];rfl
     .show _+1<=_;unfold Vbkoac.ints;rw[aiQ];omega
   .refine aO (fun _=>?_) (fun z=>absurd (refused (P:=True) Us) z);rw[gR (by rw[eM];exact Us),eM]at hQ;exact⟨_,Z,JJ _ hQ⟩
  .refine aO (fun _=>?_) (fun z=>absurd (refused (P:=True) hz) z);have G7:fV st 1 d k≠0:=hz;rw[gR G7]at hQ;exact⟨_,Z,JJ _ hQ⟩
end
section
variable{K:W.Frag}
def z9:Call->Prop
 | .all .. =>True| .spans .. =>True| .moved .. =>True|_=>False
abbrev JD:=top 119
theorem IY:aM ["house","call","numbers"] ["house","call"] (aF JD):=dc
theorem Mj(F:bL "answer_survey" JD)(T:Txt K mg C)(dA:cO 10 "all_that_stand" ["house","day","known_day"] (OF C))(dS:cO 10 "spans" ["house","number","known_day"] (DS C))(dM:cO 10 "moved" ["house","day","known_day","other_known_day"] (DY C)) (c9:Num mg "ALL_THAT_STAND" 9)(c10:Num mg "SPANS" 10):de 11 ["house","call"] (vi C z9):=by
 refine d9 IY
 .obtain⟨a,s,fp,ca,c,rfl,_⟩:=h;rfl
 .obtain⟨a,st,fp,ca,c,rfl,hH,hC,bK,hQ⟩:=h;obtain⟨dx,fs,nl,rl,e1,e2,e3,e4,e5,e6⟩:=hC.ex;have n1:=T.nC "numbers" (by decide);have n2:=T.nC "number" (by decide);refine⟨_,aD (zS 2 IY.nd (aL (pv 1) rfl)) (aD (aZ (aY eO (aL (pv 1) rfl) (aQ c9)) (aE (aH (aJ dA hr (ny (pv 0) (af aX (pv 2) aK) (af aX (pv 2) aK))))) aN) (aD (aZ (aY eO (aL (pv 1) rfl) (aQ c10)) (aE (aH (aJ dS hr (ny (pv 0) (af aX (pv 2) aK) (af aX (pv 2) aK))))) aN) (aE (aH (aJ dM hr (G5 (pv 0) (af aX (pv 2) aK) (af aX (pv 2) aK) (af aX (pv 2) aK))))))),?_⟩;refine⟨_,Z,ca,_,dx,fs,_,Z,e1,T.cC,n1,e3,?_⟩;refine⟨_,Z,ca,_,dx,fs,_,Z,e1,T.cC,n2,e2,Z,_,Z,?_⟩
  match c,bK with
  | .all d k,_=>
   refine aO (fun _=>?_) (fun z=>absurd rfl z);exact⟨_,Z,_,Z,nl,_,_,_,Z,Z,ae.of e5,aS (j:=0) rfl,_,Z,nl,_,_,_,Z,Z,ae.of e5,aS (j:=1) rfl,a,st,fp,d,k,Z,hH,hQ⟩
  | .spans i k,_=>
   refine aO (fun z=>(nomatch (aja z))) (fun _=>?_);refine⟨_,Z,ca,_,dx,fs,_,Z,e1,T.cC,n2,e2,Z,_,Z,?_⟩;refine aO (fun _=>?_) (fun z=>absurd rfl z);exact⟨_,Z,_,Z,nl,_,_,_,Z,Z,ae.of e5,aS (j:=0) rfl,_,Z,nl,_,_,_,Z,Z,ae.of e5,aS (j:=1) rfl,a,st,fp,i,k,Z,hH,hQ⟩
  | .moved d k m,_=>
   refine aO (fun z=>(nomatch (aja z))) (fun _=>?_);refine⟨_,Z,ca,_,dx,fs,_,Z,e1,T.cC,n2,e2,Z,_,Z,?_⟩;refine aO (fun z=>(nomatch (aja z))) (fun _=>?_);exact⟨_,Z,_,Z,nl,_,_,_,Z,Z,ae.of e5,aS (j:=0) rfl,_,Z,nl,_,_,_,Z,Z,ae.of e5,aS (j:=1) rfl,_,Z,nl,_,_,_,Z,Z,ae.of e5,aS (j:=2) rfl,a,st,fp,d,k,m,Z,hH,hQ⟩
abbrev Ib:=top 105
theorem xR:aM ["house","number","paper","row","ground"] ["house","number"] (aF Ib):=dc
def Hq(C:Cs):Sp:=fun vs H Q _=>∃a s fp i,vs=[.ref a,.int i]/\aW C H a s fp/\∀H' l,aC H H'->H l=none->fU H' l (Vbkoac.step s (.told i)).2->(Vbkoac.step s (.told i)).1=s->(Vbkoac.step s (.told i)).2.length<=1000000->Q (.ref l) H'
theorem FO(s:State)(i:Int):Vbkoac.step s (.told i)=if isId i=false then(s,[-2])else(match s.papers.find? fun p=>p.id==i.toNat with
  |none=>(s,[-3])
  |some p=>(s,0::Vbkoac.ints ([p.from_,p.to_,p.heard]++p.grounds.flatMap fun g=>g.length::g.flatMap fun r=>[r.1,r.2]))):=rfl
def ph(g:List Nd):List Int:=(g.length:Int)::nodes g
theorem RQ(gs:List (List Nd)):Vbkoac.ints (gs.flatMap fun g=>g.length::g.flatMap fun r=>[r.1,r.2])=gs.flatMap ph:=by unfold Vbkoac.ints;rw[al0];rfl
theorem MO(F:bL "told_of" Ib)(T:Txt K mg C)(dN:cB 1)(dF:rb 1)(c0:Num mg "ACCEPTED" 0)(c2:Num mg "OUT_OF_RANGE" (-2))(c3:Num mg "NONE_SUCH" (-3)):de 2 ["house","number"] (Hq C):=by
 refine d9 xR
 .obtain⟨a,s,fp,i,rfl,_⟩:=h;rfl
 .obtain⟨a,st,fp,i,rfl,hH,hQ⟩:=h;have hu:=bu hr;obtain⟨dx,fs,pd,rd,dl,pk,rk,ds,e1,e2,e3,e4,e5,e6,e7,e8,e9,o9,iU,iT,wo,r6⟩:=hH.ex;have n1:=T.nH "papers" (by decide);refine⟨_,aD (aZ (cn (bF (aJ dN hr (bM (pv 1))))) (aE (aH (aU (bM (aQ c2))))) aN) (aD (aZ (b9 (cJ hu (pv 1) (aL (pv 0) rfl))) (aE (aH (aU (bM (aQ c3))))) aN) (aD (zS 2 xR.nd (dq hu (aL (pv 0) rfl) (pv 1))) (aD (zS 3 xR.nd (aU (G5 (aQ c0) (aL (pv 2) rfl) (aL (pv 2) rfl) (aL (pv 2) rfl)))) (aD (bU ajm rfl (ax (aL (pv 2) rfl)) (zG 4 xR.nd) (aD (bp (fN aju ajM ajL cN (pv 3) (bM (bA az (by rfl) T.dZ ajK (bM (pv 4)))))) (aE (bp (fN aju akn akm gv (pv 3) (bM (aJ dF hr (bM (pv 4))))))))) (aE (aH (pv 3))))))),?_⟩;rw[FO]at hQ;have JJ:∀z:Int,(∀(H':Hp) (l:Addr),aC H H'->H l=none->fU H' l [z]->st=st->1<=1000000->Q (.ref l) H')->([V.int z]:List V).length<=sizeLine/\∀p,H p=none->Q (.ref p) (upd H p (.lst [V.int z])):=fun z hq=>⟨zL rfl,fun l hl=>hq _ l (zU hl) hl aA rfl (by decide)⟩;refine⟨_,Z,i,Z,_,Z,?_⟩;cases hi:isId i with
  |false=>
   refine aO (fun _=>?_) (fun z=>absurd rfl z);rw[hi,ai5 rfl]at hQ;exact JJ _ hQ
  |true=>
   refine aO nofun (fun _=>?_);rw[hi,ai0 nofun]at hQ;have nn:=ia hi;have hP:Paired (fR C H) pk st.papers:=Paired.a8 e8 fun _ _ z=>z.on iU;obtain⟨v1,v2⟩:=gh (C:=C) (H:=H) i.toNat hP;rw[<-nn]at v1 v2;refine⟨_,Z,_,Z,a,_,dx,fs,_,Z,e1,T.cH,n1,e4,pd,_,Z,ba.k (k:=Sum.inl i) e7,_,Z,?_⟩;cases hp:st.papers.find? fun p=>p.id==i.toNat with
   |none=>
    rw[v1 hp];rw[hp]at hQ;exact aO (fun _=>JJ _ hQ) (fun z=>absurd rfl z)
   |some p=>
    obtain⟨pa,hv,Sd⟩:=v2 p hp;rw[hp]at hQ;rw[hv];refine aO nofun (fun _=>?_);obtain⟨dy,gs,gl,jo,g1,g2,g3,g4,g5,ls,pY,jz⟩:=Sd.ex;refine⟨_,Z,a,_,dx,fs,_,Z,e1,T.cH,n1,e4,_,Z,pd,_,Z,(by rw[<-hv];exact ba.k (k:=Sum.inl i) e7),?_⟩;refine⟨_,Z,pa,_,dy,gs,_,Z,jo,T.cP,T.E1,g2,_,Z,pa,_,dy,gs,_,Z,jo,T.cP,T.E1,g3,_,Z,pa,_,dy,gs,_,Z,jo,T.cP,T.E1,g4,(zL rfl),fun r gO=>?_⟩;have s0:aC H (upd H r (.lst [V.int 0,V.int (p.from_:Nat),V.int (p.to_:Nat),V.int (p.heard:Nat)])):=zU gO;have fD:=Sd.fD;have RP:∀g∈p.grounds,(ph g).length<=9:=(fun g hg=>by unfold ph;rw[ajc,eC];have:=fD.2 g hg;omega);have aa4:∀gs:List (List Nd),(∀g∈gs,(ph g).length<=9)->(gs.flatMap ph).length<=9*gs.length:=fun gs=>by
     induction gs with
     |nil=>intro _;simp
     |cons g gs ih=>
      intro h;rw[ajD,aiT,ajc];have:=h g (aiV ..);have:=ih fun x hx=>h x (aiS _ hx);omega
    let w8:List Int:=[0,(p.from_:Int),(p.to_:Int),(p.heard:Int)]
    have nY:∀i,(w8++((p.grounds.take i).flatMap ph)).length<=31:=(fun i=>by have z:=aa4 (p.grounds.take i) fun g hg=>RP g (akU hg);rw[ajb]at z;rw[aiT];show 4+_<=_;have:=fD.1;omega);refine⟨_,Z,pa,_,dy,gs,_,Z,s0 _ _ jo,T.cP,T.E1,g5,gl,Z,⟨_,ae.of (s0 _ _ pY)⟩,bO (K:=K) (a:=gl) (xs:=ls.map V.ref) (fun j σ H'=>∃v4:Option V,σ=[some (.ref a),some (.int i),some (.ref pa),some (.ref r),v4]/\aC H H'/\H' r=some (.lst ((w8++((p.grounds.take j).flatMap ph)).map V.int))) ⟨none,Z,s0,aA⟩ (fun j σ H' _ ⟨_,_,s1,_⟩=>ae.of (s1 _ _ pY)) ?_ ?_⟩
    .rintro j y σ H1 hj ⟨v4,rfl,s1,qy⟩;obtain⟨l,hl,rfl⟩:=bT hj;obtain⟨g,hg,as,yl,Sg⟩:=aR jz hl;have VY:=s1 _ _ yl;have aae:aI H1 as g:=Paired.a8 Sg fun _ _ z=>s1 _ _ z;have BF:=fD.2 g (ai1 hg);have hz:=nY j;refine⟨_,Z,.inl ⟨Z,_,ae.of qy⟩,_,Z,l,_,Z,.inl (ae.of VY),r,_,_,Z,Z,qy,(by rw[aiQ,ai6];omega),?_⟩;have hlr:l≠r:=(fun q=>by rw[q,gO]at yl;cases yl);have s2:aC H (upd H1 r (.lst ((w8++((p.grounds.take j).flatMap ph)).map V.int++[V.int ((as.map V.ref).length:Nat)]))):=aC.upd s1 gO;have IH:m9 (H1 r):=(by rw[qy];exact True.intro);refine⟨_,Z,.inl ⟨Z,_,ae.of aA⟩,_,Z,l,as,_,Z,(by rw[aB hlr];exact VY),iC (aI.upd aae IH),(by rw[dr,eC,ai6];omega),fun H3 l3 s3 ym hA=>?_⟩;rw[dr]at hA;have EV:=s3 _ _ (show upd H1 r (.lst ((w8++((p.grounds.take j).flatMap ph)).map V.int++[V.int ((as.map V.ref).length:Nat)])) r=_ from aA);refine⟨r,l3,_,_,Z,Z,EV,hA,(by have z1:((nodes g).map V.int).length=2*g.length:=(by rw[aiQ,eC]);rw[aiT,aiQ,z1,ai6];show _+1+_<=_;omega),?_⟩;refine⟨_,Z,aC.upd (aC.trans s2 s3) gO,?_⟩;rw[aA,aa hg,aj9,<-ajE,aiY (l₁:=w8++((p.grounds.take j).flatMap ph))];have:([g].flatMap ph).map V.int=V.int ((as.map V.ref).length:Nat)::(nodes g).map V.int:=(by rw[aiQ,Paired.length Sg];simp[ph]);rw[this,ajE];rfl
    .rintro σ H1 ⟨v4,rfl,s1,qy⟩;rw[aiQ,Paired.length jz,ai9]at qy;have z:=nY p.grounds.length;rw[ai9]at z;have eA:(0::Vbkoac.ints ([p.from_,p.to_,p.heard]++p.grounds.flatMap fun g=>g.length::g.flatMap fun r=>[r.1,r.2]):List Int)=w8++p.grounds.flatMap ph:=(by rw[<-RQ];unfold Vbkoac.ints;rw[aiY];rfl);refine⟨_,Z,hQ H1 r s1 gO ?_ rfl ?_⟩
     .show H1 r=some (.lst (List.map V.int (0::Vbkoac.ints _)));rw[eA];exact qy
     .show(0::Vbkoac.ints _:List Int).length<=_;rw[eA];omega
def KA:Call->Prop
 | .told .. =>True| .sizes=>True|_=>False
abbrev JF:=top 104
theorem Ph:aM ["house","call"] ["house","call"] (aF JF):=dc
theorem ff(l:List Decision):(numbered l).length=l.length:=by unfold numbered;simp
theorem Mm(F:bL "answer_fact" JF)(T:Txt K mg C)(dT:cO 2 "told_of" ["house","number"] (Hq C))(c0:Num mg "ACCEPTED" 0)(c16:Num mg "TOLD_OF" 16):de 3 ["house","call"] (vi C KA):=by
 refine d9 Ph
 .obtain⟨a,s,fp,ca,c,rfl,_⟩:=h;rfl
 .obtain⟨a,st,fp,ca,c,rfl,hH,hC,bK,hQ⟩:=h;obtain⟨cx,cs,nl,rl,q1,q2,q3,q4,q5,q6⟩:=hC.ex;obtain⟨dx,fs,pd,rd,dl,pk,rk,ds,e1,e2,e3,e4,e5,e6,e7,e8,e9,o9,iU,iT,wo,r6⟩:=hH.ex;have n1:=T.nC "numbers" (by decide);have n2:=T.nC "number" (by decide);refine⟨_,aD (aZ (aY eO (aL (pv 1) rfl) (aQ c16)) (aE (aH (aJ dT hr (cY (pv 0) (af aX (aL (pv 1) rfl) aK))))) aN) (aE (aH (aU (T9 (aQ c0) (aL (pv 0) rfl) (bA g8 (by rfl) T.dZ ajK (bM (aL (pv 0) rfl))) (bA g8 (by rfl) T.dZ ajK (bM (aL (pv 0) rfl))) (bA az (by rfl) T.dZ ajK (bM (aL (pv 0) rfl))))))),?_⟩;refine⟨_,Z,ca,_,cx,cs,_,Z,q1,T.cC,n2,q2,Z,_,Z,?_⟩
  match c,bK with
  | .told i,_=>
   refine aO (fun _=>?_) (fun z=>absurd rfl z);exact⟨_,Z,_,Z,ca,_,cx,cs,_,Z,q1,T.cC,n1,q3,nl,_,_,_,Z,Z,ae.of q5,aS (j:=0) rfl,a,st,fp,i,Z,hH,hQ⟩
  | .sizes,_=>
   refine aO (fun z=>(nomatch (aja z))) (fun _=>?_);refine⟨_,Z,a,_,dx,fs,_,Z,e1,T.cH,T.Gq,e3,_,Z,a,_,dx,fs,_,Z,e1,T.cH,T.Gq,e4,pd,_,Z,e7,_,Z,a,_,dx,fs,_,Z,e1,T.cH,T.Gq,e5,rd,_,Z,e9,_,Z,a,_,dx,fs,_,Z,e1,T.cH,T.Gq,e6,dl,_,Z,.inl (ae.of iU),(zL rfl),fun l hl=>?_⟩;have hs:Vbkoac.step st .sizes=(st,[0,(st.today:Int),(st.papers.length:Int),(st.revokes.length:Int),(st.decisions.length:Int)]):=rfl;rw[hs]at hQ;refine hQ _ l (zU hl) hl ?_ rfl (by show 5<=1000000;decide);show upd _ _ _ l=_;rw[aA,Paired.length e8,Paired.length o9,aiQ,Paired.length iT,ff];rfl
end
end Pp
namespace L2
open PySem PySem.Spec PyProof.Rows
variable{X:Cx}{H:Hp}{a:Addr}
def gG(H:Hp)(a:Addr)(z:Int×Int):Prop:=H a=some (.tup [.int z.1,.int z.2])
theorem yw{a b:Int}{us:List Value}(h:bI [V.int a,V.int b] us):∃t1 t2,us=[.int a t1,.int b t2]:=by
 cases h with
 |cons r h2=>
  cases h2 with
  |cons r2 h3=>
   cases h3;obtain⟨t1,e1⟩:=r;obtain⟨t2,e2⟩:=r2;exact⟨t1,t2,by rw[e1,e2]⟩
theorem MK{pins:List (Addr×Obj)}{σ:St}{s:Shared}(I:aV H s)(hu:X.A.units+1<cLine){b:Addr}{x y:Int×Int}(ha:gG H a x)(hb:gG H b y):SeqAt.EqAt X.A.in1 s (.ref a) (.ref b) (decide (x=y)):=by
 by_cases e:a=b
 .subst e;have ha2:H a=some (.tup [.int x.1,.int x.2]):=ha;have NO:H a=some (.tup [.int y.1,.int y.2]):=hb;have this:x=y:=(by rw[ha2]at NO;have hb:=NO;injection hb with hb;injection hb with hb;injection hb with h1 h2;injection h2 with h2 _;injection h1 with h1;injection h2 with h2;exact ami h1 h2);rw[ai8 this];exact SeqAt.EqAt.same _
 .obtain⟨bE,rv,hi,_⟩:=I.tuple (gF.of (K:=X.K) ha);obtain⟨jy,R9,hi2,_⟩:=I.tuple (gF.of (K:=X.K) hb);obtain⟨t1,t2,e1⟩:=yw rv;obtain⟨t3,t4,e3⟩:=yw R9;subst e1 e3;have r:=SeqAt.RcAt.tuples (A:=X.A.in1) (e:=fun j=>if j=0 then x.1==y.1 else x.2==y.2) hi hi2 (hu:X.A.in1.units<cLine) (fun j h1 h2=>by
   match j,h1,h2 with
   |0,_,_=>exact amw x.1 t1 y.1 t3
   |1,_,_=>exact amw x.2 t2 y.2 t4
   |j+2,h1,_=>exact absurd h1 (by show¬j+2<2;omega))
  have ev:∀f:Nat->Bool,((List.range (min ([Value.int x.1 t1,Value.int x.2 t2]:List Value).toArray.size ([Value.int y.1 t3,Value.int y.2 t4]:List Value).toArray.size)).all f&&([Value.int x.1 t1,Value.int x.2 t2]:List Value).toArray.size==([Value.int y.1 t3,Value.int y.2 t4]:List Value).toArray.size)=(f 0&&f 1):=(fun f=>by simp[alc]);have ev2:((x.1==y.1)&&(x.2==y.2))=decide (x=y):=(by rw[ajw,ajn,akY,akY,ajQ];exact⟨fun z=>ami z.1 z.2,fun z=>by rw[z];exact⟨rfl,rfl⟩⟩);rw[ev,ai5 rfl,ai0 (by decide),ev2]at r;exact SeqAt.EqAt.of_refs e r
def Yx(K:W.Frag):R2:=fun x y H Q=>∃a z p as zs,x= .ref a/\gG H a z/\y= .ref p/\ae K H p (as.map V.ref)/\Paired (gG H) as zs/\Q (.bl (decide (z∈zs))) H
theorem zW{H:Hp}:∀{as:List Addr} {zs:List (Int×Int)} {us:List Value},Paired (gG H) as zs->bI (as.map V.ref) us->∀u∈us,∃a z,u= .ref a/\z∈zs/\gG H a z
 |_,_,_,.nil,.nil,u,hu=>by cases hu
 |a::as,z::zs,v::us,.cons r t,.cons q w,u,hu=>by
  rcases aiZ.mp hu with e|e
  .have:v= .ref a:=q;exact⟨a,z,by rw[e,this],aiV ..,r⟩
  .obtain⟨b,y,h1,h2,h3⟩:=zW t w u e;exact⟨b,y,h1,aiS _ h2,h3⟩
def pairOf(H:Hp):Value->Option (Int×Int)
 | .ref a=>match H a with
  |some (.tup [.int x,.int y])=>some (x,y)
  |_=>none
 |_=>none
theorem wA{z:Int×Int}(h:gG H a z):pairOf H (.ref a)=some z:=by unfold pairOf;simp only;rw[show H a=_ from h]
theorem w9{H:Hp}{z:Int×Int}:∀{as:List Addr} {zs:List (Int×Int)} {us:List Value},Paired (gG H) as zs->bI (as.map V.ref) us->us.any (fun u=>decide (pairOf H u=some z))=decide (z∈zs)
 |_,_,_,.nil,.nil=>by simp
 |a::as,y::zs,v::us,.cons r t,.cons q w=>by
  have ev:v= .ref a:=q;rw[ak0,w9 t w,ev,wA r,ajw,amf,ajQ,ajQ,ajQ,aiZ];constructor
  .rintro(e|e)
   .exact .inl (ajr e).symm
   .exact .inr e
  .rintro(e|e)
   .exact .inl (by rw[e])
   .exact .inr e
theorem zX(hu:X.A.units+1<cLine):rP X (compareOp .In) (Yx X.K):=by
 intro pins s σ H x y v u Q I rx ry h;obtain⟨a,z,p,as,zs,rfl,ha,rfl,hq,hz,q⟩:=h;cases ry;cases rx;obtain⟨bE,r,pl,_⟩:=I.list hq;refine SeqAt.in_listAt (fun u=>decide (pairOf H u=some z)) pl.isList (fun w hw=>?_) ⟨.bl _,H,I,Z,?_⟩
 .obtain⟨b,y,e,hy,hb⟩:=zW hz r w (by simpa using hw);subst e;rw[wA hb];have e2:decide (some y=some z)=decide (y=z):=aks.mpr ⟨ajr,fun q=>by rw[q]⟩;rw[e2];exact MK I hu hb ha
 .rw[show bE.toArray.any (fun u=>decide (pairOf H u=some z))=bE.any (fun u=>decide (pairOf H u=some z)) by simp,w9 hz r];exact q
end L2
namespace PM
open Vbkoac
def jx:List Int->List (Int×Int)
 |a::b::r=>(a,b)::jx r
 |_=>[]
def restOk(z:Int×Int):Bool:=isId z.1&&decide (0<=z.2/\z.2<=1)
def oB(z:Int×Int):Nat×Nat:=(z.1.toNat,z.2.toNat)
theorem tD:∀(n:Nat) (l:List Int),restsIn n l=if 2*n<=l.length/\(jx (l.take (2*n))).all restOk=true then some ((jx (l.take (2*n))).map oB,l.drop (2*n))else none
 |0,l=>by simp[restsIn,jx]
 |n+1,[]=>by simp[restsIn]
 |n+1,[a]=>by have:¬2*(n+1)<=([a]:List Int).length:=(by simp;omega);rw[ai0 (fun z=>this z.1)];rfl
 |n+1,a::b::r=>by
  have ih:=tD n r;have e:2*(n+1)=2*n+1+1:=(by omega);show(if isId a=true/\(b=0\/b=1)then(restsIn n r).map fun x=>((a.toNat,b.toNat)::x.1,x.2)else none)=_;rw[e,List.take_succ_cons,List.take_succ_cons,amt,amt];show _=if 2*n+1+1<=(a::b::r).length/\((a,b)::jx (r.take (2*n))).all restOk=true then some (((a,b)::jx (r.take (2*n))).map oB,r.drop (2*n))else none
  rw[ale,ih];have hb:(b=0\/b=1)↔(0<=b/\b<=1):=(by omega);by_cases h1:isId a=true/\(b=0\/b=1)
  .rw[ai5 h1];have ok:restOk (a,b)=true:=(by unfold restOk;rw[h1.1,ai8 (hb.mp h1.2)];rfl);rw[ok,akv];by_cases h2:2*n<=r.length/\(jx (r.take (2*n))).all restOk=true
   .rw[ai5 h2,ai5 ⟨by simp;omega,h2.2⟩];rfl
   .rw[ai0 h2,ai0 (fun z=>h2 ⟨by have:=z.1;simp at this;omega,z.2⟩)];rfl
  .rw[ai0 h1];have ok:restOk (a,b)=false:=by
    unfold restOk;cases q:isId a with
    |false=>rfl
    |true=>
     rw[akv];exact ajl fun z=>h1 ⟨q,hb.mpr z⟩
   rw[ok,akB,ai0 (fun z=>Bool.noConfusion z.2)]
theorem AY{α:Type} [BEq α] [LawfulBEq α]:∀(n:Nat) (l:List α),l.length<=n->l.eraseDups.length<=l.length/\(l.eraseDups.length=l.length↔l.Nodup)
 |_,[],_=>by simp
 |0,x::l,h=>by simp at h
 |n+1,x::l,h=>by
  rw[List.eraseDups_cons,ajc,ajc,ajP];have hf:=ajk (fun b=> !b==x) l;obtain⟨h1,h2⟩:=AY n (l.filter fun b=> !b==x) (by simp at h;omega);refine⟨by omega,?_⟩;constructor
  .intro e;have e1:(l.filter fun b=> !b==x).length=l.length:=(by omega);have e2:(l.filter fun b=> !b==x)=l:=ams.mpr (amC.mp e1);refine⟨fun hx=>?_,?_⟩
   .have:=(amC.mp e1) x hx;simp at this
   .rw[<-e2];exact h2.mp (by rw[e2];rw[e2]at e;omega)
  .rintro⟨hx,nd⟩;have e2:(l.filter fun b=> !b==x)=l:=(ams.mpr fun b hb=>by have:b≠x:=fun q=>hx (by rw[<-q];exact hb);simp[this]);rw[e2]at h2⊢;rw[h2.mpr nd]
theorem AZ{α:Type} [BEq α] [LawfulBEq α] (l:List α):l.eraseDups.length<l.length↔¬l.Nodup:=by obtain⟨a,b⟩:=AY l.length l (ai2 _);rw[<-b];omega
def jj(l:List Int):Option (List (Nat×Nat)):=if(jx l).all restOk=true/\(jx l).Nodup then some ((jx l).map oB)else none
theorem tO{zs:List (Int×Int)}(h:zs.all restOk=true):(zs.map oB).Nodup↔zs.Nodup:=by
 induction zs with
 |nil=>simp
 |cons z zs ih=>
  rw[ale,ajn]at h;rw[aji,ajP,ajP,ih h.2];have key:oB z∈zs.map oB↔z∈zs:=by
   constructor
   .intro hm;obtain⟨y,hy,e⟩:=ai7.mp hm;have oy:=ajA.mp h.2 y hy;have oz:=h.1;unfold restOk isId at oy oz;rw[ajn,ajQ,ajQ]at oy oz;unfold oB at e;injection e with e1 e2;have:y=z:=ami (by omega) (by omega);rw[<-this];exact hy
   .intro hm;exact ai7.mpr ⟨z,hm,Z⟩
  rw[key]
def G(l:List Int):Option (List (List (Nat×Nat))):=groundsIn (l.length+1) l
theorem B1{n:Nat}{r:List Int}{x:List (Nat×Nat)×List Int}(h:restsIn n r=some x):x.2=r.drop (2*n)/\x.2.length<=r.length:=by
 rw[tD]at h;split at h
 .cases h;exact⟨Z,by simp⟩
 .cases h
theorem AS:∀(k:Nat) (l:List Int),l.length<=k->∀f g,l.length<f->l.length<g->groundsIn f l=groundsIn g l
 |_,_,_,0,_,h,_=>absurd h (alb _)
 |_,_,_,_,0,_,h=>absurd h (alb _)
 |_,[],_,f+1,g+1,_,_=>rfl
 |0,n::r,h,_,_,_,_=>by simp at h
 |k+1,n::r,hk,f+1,g+1,hf,hg=>by
  show(if n<0\/Int.ofNat RESTS<n then none else match restsIn n.toNat r with
    |none=>none
    |some x=>if x.1.eraseDups.length<x.1.length then none else(groundsIn f x.2).map fun g=>x.1::g)=(if n<0\/Int.ofNat RESTS<n then none else match restsIn n.toNat r with
    |none=>none
    |some x=>if x.1.eraseDups.length<x.1.length then none else(groundsIn g x.2).map fun g=>x.1::g)
  split
  .rfl
  .cases q:restsIn n.toNat r with
   |none=>rfl
   |some x=>
    simp only;have hx:=(B1 q).2;simp at hk hf hg;rw[AS k x.2 (by omega) f g (by omega) (by omega)]
theorem Wg:G []=some []:=rfl
theorem Rz(n:Int)(r:List Int):G (n::r)=if n<0\/4<n\/(r.length:Int)<2*n then none else(jj (r.take (2*n.toNat))).bind fun g=>(G (r.drop (2*n.toNat))).map fun gs=>g::gs:=by
 show(if n<0\/Int.ofNat RESTS<n then none else match restsIn n.toNat r with
    |none=>none
    |some x=>if x.1.eraseDups.length<x.1.length then none else(groundsIn (r.length+1) x.2).map fun g=>x.1::g)=_
 have hR:Int.ofNat RESTS=4:=rfl;rw[hR];by_cases h1:n<0\/4<n
 .rw[ai5 h1,ai5 (by rcases h1 with z|z;exact .inl z;exact .inr (.inl z))]
 .rw[ai0 h1];have eq:=tD n.toNat r;by_cases h2:(r.length:Int)<2*n
  .rw[ai0 (fun z=>by have:=z.1;omega)]at eq;rw[eq,ai5 (.inr (.inr h2))]
  .have h3:2*n.toNat<=r.length:=(by omega);have oP:¬(n<0\/4<n\/(r.length:Int)<2*n):=by
    rintro(z|z|z)
    .exact h1 (.inl z)
    .exact h1 (.inr z)
    .exact h2 z
   by_cases h4:(jx (r.take (2*n.toNat))).all restOk=true
   .rw[ai5 ⟨h3,h4⟩]at eq;rw[eq,ai0 oP];simp only;unfold jj;by_cases h5:(jx (r.take (2*n.toNat))).Nodup
    .have hd:¬((jx (r.take (2*n.toNat))).map oB).eraseDups.length<((jx (r.take (2*n.toNat))).map oB).length:=(by rw[AZ];exact fun z=>z ((tO h4).mpr h5));rw[ai0 hd,ai5 ⟨h4,h5⟩];show _=(G (r.drop (2*n.toNat))).map _;unfold G;rw[AS r.length (r.drop (2*n.toNat)) (by simp) (r.length+1) ((r.drop (2*n.toNat)).length+1) (by simp;omega) (by omega)]
    .have hd:((jx (r.take (2*n.toNat))).map oB).eraseDups.length<((jx (r.take (2*n.toNat))).map oB).length:=(by rw[AZ];exact fun z=>h5 ((tO h4).mp z));rw[ai5 hd,ai0 (fun z=>h5 z.2)];rfl
   .rw[ai0 (fun z=>h4 z.2)]at eq;rw[eq,ai0 oP];simp only;unfold jj;rw[ai0 (fun z=>h4 z.1)];rfl
theorem JN{l:List Int}{g:List (Nat×Nat)}(h:jj l=some g):(∀x∈g,x.2=0\/x.2=1)/\g.length=(jx l).length:=by
 unfold jj at h;split at h
 .rename_i c;cases h;refine⟨fun x hx=>?_,by simp⟩;obtain⟨z,hz,rfl⟩:=ai7.mp hx;have:=ajA.mp c.1 z hz;unfold restOk at this;rw[ajn,ajQ]at this;unfold oB;simp only;omega
 .cases h
theorem xm:∀(m:Nat) (l:List Int),l.length=2*m->(jx l).length=m
 |0,[],_=>rfl
 |0,_::_,h=>by simp at h
 |m+1,[],h=>by simp at h
 |m+1,[_],h=>by simp at h;omega
 |m+1,a::b::r,h=>by show(jx r).length+1=m+1;rw[xm m r (by simp at h;omega)]
theorem Du:∀(l:List Int) (i:Nat),2*i+1<l.length->(jx l)[i]?=some (l.getD (2*i) 0,l.getD (2*i+1) 0)
 | [],i,h=>by simp at h
 | [_],i,h=>by simp at h
 |a::b::r,0,h=>by simp[jx]
 |a::b::r,i+1,h=>by have:=Du r i (by simp at h;omega);show(jx r)[i]?=_;rw[this];have e:2*(i+1)=2*i+1+1:=(by omega);rw[e];simp
end PM
namespace Pp
open PySem PySem.Spec PyProof.Rows L2
open PM (jx restOk oB jj G)
variable{f:Addr}{fd:FuncData}{P:Program}{w:World}{mg:Str->Option Value}{base:Heap}{C:Cs}
section
variable{K:W.Frag}
abbrev xb:=top 126
theorem IQ:aM ["rest"] ["rest"] (aF xb):=dc
def zB:Sp:=fun vs H Q _=>∃a z,vs=[.ref a]/\gG H a z/\Q (.bl (restOk z)) H
theorem Fh(F:bL "is_rest" xb)(dN:cB 1):de 2 ["rest"] zB:=by
 refine d9 IQ
 .obtain⟨a,z,rfl,_⟩:=h;rfl
 .obtain⟨a,z,rfl,ha,hQ⟩:=h;have So:gF K H a [V.int z.1,V.int z.2]:=gF.of ha;refine⟨_,aE (aH (tI (aJ dN hr (bM (af cU (pv 0) aK))) (pO (nu iM iM aK (af cU (pv 0) aK) aK)))),?_⟩;refine⟨_,Z,a,_,_,_,Z,Z,So,aS (j:=0) rfl,z.1,Z,_,Z,?_⟩;unfold restOk at hQ;cases q:isId z.1 with
  |false=>
   rw[q,akB]at hQ;exact aO nofun (fun _=>hQ)
  |true=>
   rw[q,akv]at hQ;refine aO (fun _=>?_) (fun y=>absurd rfl y);refine⟨_,Z,a,_,_,_,Z,Z,So,aS (j:=1) rfl,_,_,Z,Z,_,Z,aO (fun h1=>?_) (fun h1=>?_)⟩
   .refine⟨_,_,Z,Z,?_⟩;have e:decide (0<=z.2/\z.2<=1)=decide (z.2<=1):=aks.mpr ⟨fun y=>y.2,fun y=>⟨aja h1,y⟩⟩;rw[e]at hQ;exact hQ
   .have e:decide (0<=z.2/\z.2<=1)=false:=ajl fun y=>h1 (ai8 y.1);rw[e]at hQ;exact hQ
abbrev Yj:=top 125
theorem L4:aM ["row","rests","place","rest"] ["row"] (aF Yj):=dc
def Th(K:W.Frag):Sp:=fun vs H Q _=>∃a l m,vs=[.ref a]/\ae K H a (l.map V.int)/\l.length=2*m/\m<=4/\(jj l=none->∀H',aC H H'->Q .cW H')/\∀g,jj l=some g->∀H' l',aC H H'->H l'=none->aT H' l' g->Q (.ref l') H'
theorem qT{H:Hp}:∀{as:List Addr} {zs:List (Int×Int)},Paired (gG H) as zs->zs.all restOk=true->aI H as (zs.map oB)
 |_,_,.nil,_=> .nil
 |a::as,z::zs,.cons r t,h=>by rw[ale,ajn]at h;refine .cons ?_ (qT t h.2);have h1:=h.1;unfold restOk isId at h1;rw[ajn,ajQ,ajQ]at h1;have e1:z.1=(z.1.toNat:Int):=(by omega);have e2:z.2=(z.2.toNat:Int):=(by omega);show H a=some (.tup [V.int (z.1.toNat:Int),V.int (z.2.toNat:Int)]);rw[<-e1,<-e2];exact r
theorem UJ(F:bL "read_rests" Yj)(T:Txt K mg C)(dI:cO 2 "is_rest" ["rest"] zB):de 3 ["row"] (Th K):=by
 refine d9 L4
 .obtain⟨a,l,m,rfl,_⟩:=h;rfl
 .obtain⟨a,l,m,rfl,hl,hm,h4,q1,q2⟩:=h;have hu:=bu hr;refine⟨_,aD (zS 1 L4.nd (aU cA)) (aD (bU ajm rfl (vx (by rfl) T.dZ (ny aK (bA az (by rfl) T.dZ ajK (bM (pv 0))) aK)) (zG 2 L4.nd) (aD (zS 3 L4.nd (cZ (cY (af aX (pv 0) (pv 2)) (af aX (pv 0) (cE gC (pv 2) aK))))) (aD (aZ (JQ (cn (bF (aJ dI hr (bM (pv 3))))) (JP (aY (zX hu) (pv 3) (pv 1) (by rfl)))).pt (aE (aH iA)) aN) (aE (bp (fN aju ajM ajL cN (pv 1) (bM (pv 3)))))))) (aE (aH (pv 1)))),?_⟩;refine⟨ajo _,fun r gO=>?_⟩;have s0:aC H (upd H r (.lst [])):=zU gO;have Kb:=aC.seq s0 hl;have MF:(jx l).length=m:=PM.xm m l hm;refine⟨_,Z,a,_,Z,.inl Kb,0,((l.map V.int).length:Nat),2,m,Z,(by
   rw[aiQ,hm];have z:=rgK (n:=2*m) (k:=2) (by omega) (.inl rfl) (by omega);rw[show 2*m/2=m by omega]at z;exact z),Cu (lo:=0) (c:=2) (n:=m) (fun i σ H'=>∃(as:List Addr) (v2 v3:Option V),σ=[some (.ref a),some (.ref r),v2,v3]/\aC H H'/\H' r=some (.lst (as.map V.ref))/\Paired (gG H') as ((jx l).take i)/\((jx l).take i).all restOk=true/\((jx l).take i).Nodup)
   ⟨[],none,none,rfl,s0,aA,.nil,rfl,ako⟩ ?_ ?_⟩
  .rintro i σ H1 hi ⟨as,v2,v3,rfl,s1,qy,Qm,V4,KO⟩;have hz:=PM.Du l i (by omega);have rh:=aC.seq s1 hl;have i1:2*i<l.length:=(by omega);have i2:2*i+1<l.length:=(by omega);have g1:Az (l.map V.int) (0+(i:Nat)*2)=some (V.int (l.getD (2*i) 0)):=(by rw[show(0+(i:Nat)*2:Int)=((2*i:Nat):Int) by omega];exact aS (by rw[ajd,aiW i1,ajN,aiW i1];rfl));have g2:Az (l.map V.int) (0+(i:Nat)*2+1)=some (V.int (l.getD (2*i+1) 0)):=(by rw[show(0+(i:Nat)*2+1:Int)=((2*i+1:Nat):Int) by omega];exact aS (by rw[ajd,aiW i2,ajN,aiW i2];rfl));refine⟨_,Z,_,Z,a,_,_,_,Z,Z,rh,g1,_,Z,_,Z,_,_,Z,Z,a,_,_,_,Z,Z,rh,g2,(zL rfl),fun t ht=>?_⟩;have s2:aC H1 (upd H1 t (.tup [V.int (l.getD (2*i) 0),V.int (l.getD (2*i+1) 0)])):=zU ht;have U4:gG (upd H1 t (.tup [V.int (l.getD (2*i) 0),V.int (l.getD (2*i+1) 0)])) t (l.getD (2*i) 0,l.getD (2*i+1) 0):=aA;have HB:=s2 _ _ qy;have Se:Paired (gG (upd H1 t (.tup [V.int (l.getD (2*i) 0),V.int (l.getD (2*i+1) 0)]))) as ((jx l).take i):=Paired.a8 Qm fun _ _ z=>s2 _ _ z;have b0:=aC.trans s1 s2;generalize upd H1 t (.tup [V.int (l.getD (2*i) 0),V.int (l.getD (2*i+1) 0)])=H2 at s2 U4 HB Se b0;generalize hzz:(l.getD (2*i) 0,l.getD (2*i+1) 0)=z at hz U4;refine⟨_,Z,t,z,Z,U4,_,Z,?_⟩;have bad:¬(restOk z=true/\z∉(jx l).take i)->jj l=none:=(fun hb=>by unfold jj;refine ai0 fun c=>hb ⟨ajA.mp c.1 z (ai1 hz),fun EZ=>?_⟩;obtain⟨j,hj,ej⟩:=ajY EZ;rw[ajb]at hj;have ej':(jx l)[j]?=some z:=(by rw[alg]at ej;rw[<-ej];exact aiW _);have:=zg c.2 ej' hz;omega);refine aO (fun h1=>?_) (fun h1=>?_)
   .refine aO (fun _=>?_) (fun y=>absurd rfl y);exact q1 (bad fun y=>by rw[y.1]at h1;cases h1) H2 b0
   .have ok:restOk z=true:=(by simpa using h1);refine⟨_,Z,_,Z,t,z,r,as,_,Z,U4,Z,ae.of HB,Se,_,Z,aO (fun h2=>?_) (fun h2=>?_)⟩
    .exact q1 (bad fun y=>y.2 (aja h2)) H2 b0
    .have nz:z∉(jx l).take i:=fun y=>h2 (ai8 y);refine⟨_,Z,.inl ⟨Z,_,ae.of HB⟩,_,Z,r,_,_,Z,Z,HB,?_,?_⟩
     .rw[aiQ,Paired.length Se,ajb,ai6];omega
     .refine⟨as++[t],_,_,Z,aC.upd b0 gO,?_,?_,?_,?_⟩
      .rw[aA,aiY];rfl
      .rw[aa hz];refine Paired.a8 (bC U4 Se) fun b y e=>?_;show upd _ _ _ b=_;rw[aB (ak e HB nofun)];exact e
      .rw[aa hz,List.all_append,V4];simp[ok]
      .rw[aa hz];exact akz.mpr ⟨KO,by simp,fun x hx y hy e=>nz (by rw[<-aiU.mp hy,<-e];exact hx)⟩
  .rintro σ H1 ⟨as,v2,v3,rfl,s1,qy,Qm,V4,KO⟩;rw[<-MF,ai9]at Qm V4 KO;refine⟨_,Z,q2 _ ?_ H1 r s1 gO ⟨as,qy,qT Qm V4⟩⟩;unfold jj;rw[ai5 ⟨V4,KO⟩]
abbrev Yk:=top 124
theorem Bf:aM ["row","grounds","place","many","end","ground"] ["row"] (aF Yk):=dc
def G3(l:List Int):Option (List (List Nd)):=(G l).bind fun g=>if 3<g.length then none else some g
def Ti(K:W.Frag):Sp:=fun vs H Q _=>∃a l,vs=[.ref a]/\ae K H a (l.map V.int)/\l.length<=200/\(G3 l=none->∀H',aC H H'->Q .cW H')/\∀gs,G3 l=some gs->∀H' gl ls,aC H H'->H gl=none->H' gl=some (.lst (ls.map V.ref))->Paired (aT H') ls gs->(∀x∈ls,H x=none)->gl∉ls->(∀g∈gs,∀r∈g,r.2=0\/r.2=1)->(gs.length<=3/\∀g∈gs,g.length<=4)->Q (.ref gl) H'
theorem UK(F:bL "read_grounds" Yk)(T:Txt K mg C)(dR:cO 3 "read_rests" ["row"] (Th K))(c3:Num mg "MOST_GROUNDS" 3)(c4:Num mg "MOST_RESTS" 4):de 4 ["row"] (Ti K):=by
 refine d9 Bf
 .obtain⟨a,l,rfl,_⟩:=h;rfl
 .obtain⟨a,l,rfl,hl,ic,q1,q2⟩:=h;refine⟨_,aD (zS 1 Bf.nd (aU cA)) (aD (zS 2 Bf.nd aK) (aD (i0 ajm (aY n9 (pv 2) (bA az (by rfl) T.dZ ajK (bM (pv 0)))) (aD (zS 3 Bf.nd (af aX (pv 0) (pv 2))) (aD (zS 4 Bf.nd (cE gC (cE gC (pv 2) aK) (cE P7 aK (pv 3)))) (aD (aZ (JQ (aY eO (bA az (by rfl) T.dZ ajK (bM (pv 1))) (aQ c3)) (JQ (cn (zQ iM iM aK (pv 3) (aQ c4))) (JP (aY wB (pv 4) (bA az (by rfl) T.dZ ajK (bM (pv 0))))))).pt (aE (aH iA)) aN) (aD (zS 5 Bf.nd (aJ dR hr (bM (i4 lQ (pv 0) (gJ (cE gC (pv 2) aK)) (gJ (pv 4)))))) (aD (aZ (aY tJ (pv 5) iA) (aE (aH iA)) aN) (aD (bp (fN aju ajM ajL cN (pv 1) (bM (pv 5)))) (aE (zS 2 Bf.nd (pv 4)))))))))) (aE (aH (pv 1))))),?_⟩;refine⟨ajo _,fun gl pY=>?_⟩;have s0:aC H (upd H gl (.lst [])):=zU pY;refine kL (fun σ H'=>∃(p:Nat) (ls:List Addr) (gs:List (List Nd)) (v3 v4 v5:Option V),σ=[some (.ref a),some (.ref gl),some (.int p),v3,v4,v5]/\aC H H'/\H' gl=some (.lst (ls.map V.ref))/\Paired (aT H') ls gs/\(∀x∈ls,H x=none)/\gl∉ls/\(∀g∈gs,∀r∈g,r.2=0\/r.2=1)/\(gs.length<=3/\∀g∈gs,g.length<=4)/\p<=l.length/\G l=(G (l.drop p)).map fun t=>gs++t) (fun(σ:L2.St) _=>match σ[2]? with|some (some (V.int p))=>1000-p.toNat|_=>0) ⟨0,[],[],none,none,none,rfl,s0,aA,.nil,(fun x hx=>(nomatch hx)),(fun hx=>(nomatch hx)),(fun g hg=>(nomatch hg)),⟨ajo _,fun g hg=>(nomatch hg)⟩,ajo _,(by rw[amn];cases G l<;>rfl)⟩ ?_ ?_
  .rintro σ H1 ⟨p,ls,gs,v3,v4,v5,rfl,s1,NK,jz,GG,SI,bits,fD,hp,hG⟩;have rh:=aC.seq s1 hl;refine⟨_,Z,_,Z,a,_,Z,.inl rh,_,_,Z,Z,_,Z,?_⟩;refine aO (fun hc=>?_) (fun hc=>?_)
   .have fC:p<l.length:=(by have:=aja hc;rw[aiQ]at this;omega);have Ef:l.drop p=l[p]::l.drop (p+1):=alT fC;generalize XW:l[p]=many at Ef;have hat:Az (l.map V.int) (p:Int)=some (V.int many):=aS (by rw[ajd,aiW fC,XW];rfl);refine⟨_,Z,_,Z,a,_,_,_,Z,Z,rh,hat,?_⟩;refine⟨_,Z,_,_,Z,Z,_,Z,_,_,Z,Z,.inl ⟨by decide,by decide⟩,_,_,Z,Z,?_⟩;rw[Ef,PM.Rz]at hG;have nY:(l.drop (p+1)).length=l.length-(p+1):=akt;have ret:G3 l=none->∀H',aC H H'->Q .cW H':=q1;refine⟨_,Z,gl,_,Z,.inl (ae.of NK),Z,_,Z,?_⟩;have lgs:ls.length=gs.length:=Paired.length jz;have three:gs.length=3->G3 l=none:=fun e=>by
     unfold G3;rw[hG];split
     .rfl
     .cases jj (List.take (2*many.toNat) (List.drop (p+1) l))with
      |none=>rfl
      |some g=>
       cases G (List.drop (2*many.toNat) (List.drop (p+1) l))with
       |none=>rfl
       |some t=>
        show(if 3<(gs++g::t).length then none else some _)=none;rw[ai5 (by rw[aiT,ajc];omega)]
    refine aO (fun h1=>?_) (fun h1=>?_)
    .have e3:gs.length=3:=(by have:=aja h1;injection this with this;rw[aiQ]at this;omega);exact aO (fun _=>ret (three e3) H1 s1) (fun y=>absurd rfl y)
    have n3:gs.length<3:=(by have:¬gs.length=3:=fun e=>h1 (ai8 (by rw[aiQ,lgs,e];rfl));have:=fD.1;omega);have Rq:(many<0\/4<many\/((l.drop (p+1)).length:Int)<2*many)->G3 l=none:=(fun hb=>by unfold G3;rw[hG,ai5 hb];rfl);refine⟨_,Z,_,_,Z,Z,_,Z,?_⟩;refine aO (fun h2=>?_) (fun h2=>?_)
    .refine⟨_,_,Z,Z,_,Z,?_⟩;refine aO (fun h3=>?_) (fun h3=>?_)
     .have m4:¬many<=4:=(fun z=>by rw[ai8 z]at h3;cases h3);exact aO (fun _=>ret (Rq (.inr (.inl (by omega)))) H1 s1) (fun y=>absurd rfl y)
     .have m4:many<=4:=by
       cases q:decide (many<=4)with
       |true=>exact aja q
       |false=>rw[q]at h3;exact absurd rfl h3
      have m0:0<=many:=aja h2;refine⟨_,Z,_,Z,a,_,Z,.inl rh,_,_,Z,Z,_,Z,?_⟩;refine aO (fun h5=>?_) (fun h5=>?_)
      .have e5:=aja h5;rw[aiQ]at e5;exact ret (Rq (.inr (.inr (by rw[nY];omega)))) H1 s1
      .have e5:(p:Int)+1+2*many<=(l.length:Int):=(by have:¬((l.map V.int).length:Int)<(p:Int)+1+2*many:=fun z=>h5 (ai8 z);rw[aiQ]at this;omega);have bK:¬(many<0\/4<many\/((l.drop (p+1)).length:Int)<2*many):=(by rw[nY];omega);rw[ai0 bK]at hG;have cut:jf (l.map V.int) (some ((p:Int)+1)) (some ((p:Int)+1+2*many))=((l.drop (p+1)).take (2*many.toNat)).map V.int:=(by have z1:(p:Int)+1=((p+1:Nat):Int):=(by omega);have z2:(p:Int)+1+2*many=((p+1+2*many.toNat:Nat):Int):=(by omega);unfold jf;rw[z2,z1,HT.jL,HT.jL,aiQ,akO (show p+1+2*many.toNat<=l.length by omega),akO (show p+1<=l.length by omega),am9,amv];congr 1;omega);refine⟨_,Z,_,Z,_,_,Z,Z,_,Z,_,Z,_,Z,a,_,Z,rh,fun sl XM=>?_⟩;rw[cut];have s2:aC H1 (upd H1 sl (.lst (((l.drop (p+1)).take (2*many.toNat)).map V.int))):=zU XM;refine⟨sl,_,many.toNat,Z,ae.of aA,(by rw[ajb,nY];omega),(by omega),fun EX H3 s3=>?_,fun g wR H3 l3 s3 ym HE=>?_⟩
       .refine⟨_,Z,Z,_,Z,aO (fun _=>?_) (fun y=>absurd rfl y)⟩;refine ret ?_ H3 (aC.trans s1 (aC.trans s2 s3));unfold G3;rw[hG,EX];rfl
       .refine⟨_,Z,Z,_,Z,aO (fun y=>(nomatch (aja y))) (fun _=>?_)⟩;have eJ:=aC.trans s1 (aC.trans s2 s3);have Bz:=aC.trans s2 s3;have uA:=Bz _ _ NK;have Qs:Paired (aT H3) ls gs:=Paired.a8 jz fun _ _ z=>z.same (aC.x Bz);have Qz:H1 l3=none:=aC.free s2 ym;have Ub:gl≠l3:=(fun e=>by rw[<-e,NK]at Qz;cases Qz);obtain⟨gb,RP⟩:=PM.JN wR;have adn:g.length=many.toNat:=(by rw[RP,PM.xm many.toNat _ (by rw[ajb,nY];omega)]);refine⟨_,Z,.inl ⟨Z,_,ae.of uA⟩,_,Z,gl,_,_,Z,Z,uA,(by rw[aiQ,lgs,ai6];omega),?_⟩;refine⟨_,Z,⟨p+1+2*many.toNat,ls++[l3],gs++[g],some (V.int many),some (V.int ((p:Int)+1+2*many)),some (V.ref l3),?_,aC.upd eJ pY,?_,?_,?_,?_,?_,?_,?_,?_⟩,?_⟩
        .have z2:(p:Int)+1+2*many=((p+1+2*many.toNat:Nat):Int):=(by omega);exact akc (fun z:Int=>[some (V.ref a),some (V.ref gl),some (V.int z),some (V.int many),some (V.int ((p:Int)+1+2*many)),some (V.ref l3)]) z2
        .rw[aA,aiY];rfl
        .exact fM (by rw[uA];exact True.intro) (by simp[SI,Ub]) (bC HE Qs)
        .intro x hx;rcases ajh.mp hx with z|z
         .exact GG x z
         .rw[aiU.mp z];exact aC.free s1 Qz
        .simp[SI,Ub]
        .intro x hx;rcases ajh.mp hx with z|z
         .exact bits x z
         .rw[aiU.mp z];exact gb
        .refine⟨by rw[aiT];show _+1<=3;omega,fun x hx=>?_⟩;rcases ajh.mp hx with z|z
         .exact fD.2 x z
         .rw[aiU.mp z];omega
        .omega
        .rw[hG,wR];show((G (List.drop (2*many.toNat) (List.drop (p+1) l))).map fun t=>g::t).map (fun t=>gs++t)=_;rw[amo,Option.map_map];congr 1;funext t;simp
        .show 1000-((p:Int)+1+2*many).toNat<1000-(p:Int).toNat;omega
    .have m0:¬0<=many:=fun z=>h2 (ai8 z);refine⟨_,Z,?_⟩;exact aO (fun _=>aO (fun _=>ret (Rq (.inl (by omega))) H1 s1) (fun y=>absurd rfl y)) (fun y=>absurd rfl y)
   .have yF:l.length<=p:=(by have:¬(p:Int)<((l.map V.int).length:Int):=fun z=>hc (ai8 z);rw[aiQ]at this;omega);rw[anp yF,PM.Wg]at hG;refine⟨_,Z,q2 gs ?_ H1 gl ls s1 pY NK jz GG SI bits fD⟩;unfold G3;rw[hG];show(if 3<(gs++[]).length then none else some (gs++[]))=some gs;rw[ajs,ai0 (by have:=fD.1;omega)]
  .rintro σ H' Q1 Q2 hm ⟨v,e1,v2,e2,l2,ys,e3,e4,i1,i2,e5,e6,b,e7,q⟩;exact⟨v,e1,v2,e2,l2,ys,e3,e4,i1,i2,e5,e6,b,e7,hm _ _ q⟩
end
end Pp
namespace PM
open Vbkoac
theorem dQ{s:State}{n d k:Int}{f:Known->Nat->Nat->State×Ans}(h:∀g i e,(f g i e).1=s):(asked s n d k f).1=s:=by
 unfold asked;split
 .rfl
 .split
  .rfl
  .exact h _ _ _
theorem LL(s:State)(k i d:Nat):answerAt s k i d=0\/answerAt s k i d=1:=by
 unfold answerAt;split
 .exact .inr rfl
 .exact .inl rfl
end PM
namespace Pp
open Vbkoac
variable{C:Cs}{P:Program}{w:World}{mg:Str->Option Value}{base:Heap}{a dl dx f:Addr}{fd:FuncData}{H H' H1:Hp}{s:State}{as fp:List Addr}{l:List Decision}{i n:Nat}{c:Call}{y:Nat×Decision}{aP iZ:List (Key×V)}{α β:Type}{h:Known}
theorem fZ{t:State}(h:jh s)(e:t=s):jh t:=by rw[e];exact h
theorem nS(h:jh s)(c:Call):jh (step s c).1:=by
 cases c with
 |day k=>
  show jh (if isDay k=false then(s,[-2])else if k<Int.ofNat s.today then(s,[-5])else({s with today:=k.toNat,closed:=s.closed&&k==Int.ofNat s.today},[0])).1;split
  .exact h
  .rename_i hd;split
   .exact h
   .rename_i hk;have Lk:¬k<(s.today:Int):=hk;refine⟨h.pf,h.pn,h.rf,h.rn,h.df,?_,h.da,fun x hx=>?_,by
     show isDay (k.toNat:Int)=true;have Kk:isDay k=true:=(by simpa using hd);have e:k=(k.toNat:Int):=(by have z:=Kk;unfold isDay at z;have:=aja z;omega);rw[<-e];exact Kk⟩
    .show(s.closed&&k==(s.today:Int))=s.decisions.any fun x=>x.known==k.toNat;by_cases e:k=(s.today:Int)
     .rw[e,aka,Bool.and_true,h.cl,alI]
     .rw[ajt.mpr e,akp];symm;rw[akW];intro x hx;have:=h.dk x hx;simp;omega
    .have:=h.dk x hx;show x.known<=k.toNat;omega
 |paper i a b l=>
  show jh (if(isId i&&(isDay a&&isDay b))=false then(s,[-2])else if s.closed=true then(s,[-5])else(match groundsIn (l.length+1) l with
   |none=>(s,[-9])
   |some g=>if GROUNDS<g.length then(s,[-9])else if(s.papers.any fun p=>p.id==i.toNat)=true then(s,[-4])else if PAPERS<=s.papers.length then(s,[-6])else ({s with papers:=s.papers++[⟨i.toNat,a.toNat,b.toNat,g,s.today⟩]},[0,Int.ofNat (s.papers.length+1)]))).1
  split
  .exact h
  .split
   .exact h
   .split
    .exact h
    .split
     .exact h
     .split
      .exact h
      .split
       .exact h
       .rename_i h1 h2;have HJ:¬24<=s.papers.length:=h2;refine⟨by show(s.papers++[_]).length<=24;rw[aiT];show _+1<=24;omega,?_,h.rf,h.rn,h.df,h.cl,h.da,h.dk,h.td⟩;show((s.papers++[_]).map fun(p:Paper)=>p.id).Nodup;rw[aiY];refine akz.mpr ⟨h.pn,by simp,fun x hx y hy e=>?_⟩;have ey:y=i.toNat:=(by simpa using hy);obtain⟨p,hp,e2⟩:=ai7.mp hx;refine h1 (ajX.mpr ⟨p,hp,?_⟩);rw[e2,e,ey];exact aka _
 |revoke n i c=>
  show jh (if(isId n&&(isId i&&isDay c))=false then(s,[-2])else if s.closed=true then(s,[-5])else if(s.revokes.any fun r=>r.num==n.toNat)=true then(s,[-4])else if REVOKES<=s.revokes.length then(s,[-6])else ({s with revokes:=s.revokes++[⟨n.toNat,i.toNat,c.toNat,s.today,none⟩]},[0,Int.ofNat (s.revokes.length+1)])).1;split
  .exact h
  .split
   .exact h
   .split
    .exact h
    .split
     .exact h
     .rename_i h1 h2;have HJ:¬20<=s.revokes.length:=h2;refine⟨h.pf,h.pn,by show(s.revokes++[_]).length<=20;rw[aiT];show _+1<=20;omega,?_,h.df,h.cl,h.da,h.dk,h.td⟩;show((s.revokes++[_]).map fun(p:Revoke)=>p.num).Nodup;rw[aiY];refine akz.mpr ⟨h.rn,by simp,fun x hx y hy e=>?_⟩;have ey:y=n.toNat:=(by simpa using hy);obtain⟨p,hp,e2⟩:=ai7.mp hx;refine h1 (ajX.mpr ⟨p,hp,?_⟩);rw[e2,e,ey];exact aka _
 |back n=>
  show jh (if isId n=false then(s,[-2])else if s.closed=true then(s,[-5])else(match s.revokes.find? fun r=>r.num==n.toNat with
   |none=>(s,[-3])
   |some r=>if r.back.isSome=true then(s,[-4])else({s with revokes:=s.revokes.map fun x=>if x.num=n.toNat then{x with back:=some s.today}else x},[0]))).1
  split
  .exact h
  .split
   .exact h
   .split
    .exact h
    .split
     .exact h
     .refine⟨h.pf,h.pn,by show(s.revokes.map _).length<=20;rw[aiQ];exact h.rf,?_,h.df,h.cl,h.da,h.dk,h.td⟩;show((s.revokes.map fun x=>if x.num=n.toNat then{x with back:=some s.today}else x).map fun r=>r.num).Nodup;rw[aj0];have e:((fun r:Revoke=>r.num)∘fun x=>if x.num=n.toNat then{x with back:=some s.today}else x)=fun r=>r.num:=(by funext x;show(if x.num=n.toNat then({x with back:=some s.today}:Revoke)else x).num=x.num;split<;>rfl);rw[e];exact h.rn
 |stands i d k=>exact fZ h (PM.dQ fun _ _ _=>rfl)
 |why i d k=>exact fZ h (PM.dQ fun _ _ _=>rfl)
 |proof i d k=>exact fZ h (PM.dQ fun _ _ _=>by split<;>rfl)
 |tree i d k l=>exact fZ h (PM.dQ fun _ _ _=>by split<;>rfl)
 |shut i d k l=>exact fZ h (PM.dQ fun _ _ _=>by split<;>rfl)
 |all d k=>exact fZ h (PM.dQ fun _ _ _=>rfl)
 |spans i k=>exact fZ h (PM.dQ fun _ _ _=>rfl)
 |pulled n d k=>exact fZ h (PM.dQ fun _ _ _=>by split<;>rfl)
 |chain n i d k=>
  refine fZ h ?_;show(if isId n=false then(s,[-2])else asked s i d k _).1=s;split
  .rfl
  .exact PM.dQ fun _ _ _=>by
    split
    .rfl
    .split<;>rfl
 |moved d k m=>exact fZ h (PM.dQ fun _ _ _=>PM.dQ fun _ _ _=>rfl)
 |decide_ i d=>
  show jh (asked s i d (Int.ofNat s.today) fun _ i e=>if DECISIONS<=s.decisions.length then(s,[-6])else ({s with decisions:=s.decisions++[⟨i,e,s.today,answerAt s s.today i e⟩],closed:=true},0::Vbkoac.ints [s.decisions.length+1,answerAt s s.today i e])).1;unfold asked;split
  .exact h
  .split
   .exact h
   .split
    .exact h
    .rename_i h2;have HJ:¬30<=s.decisions.length:=h2;refine⟨h.pf,h.pn,h.rf,h.rn,by show(s.decisions++[_]).length<=30;rw[aiT];show _+1<=30;omega,?_,fun x hx=>?_,fun x hx=>?_,h.td⟩
     .show true=(s.decisions++[_]).any fun x=>x.known==s.today;rw[List.any_append];simp
     .rcases ajh.mp hx with z|z
      .exact h.da x z
      .rw[aiU.mp z];exact PM.LL _ _ _ _
     .rcases ajh.mp hx with z|z
      .exact h.dk x z
      .rw[aiU.mp z];exact ai2 _
 |review=>exact h
 |told i=>
  refine fZ h ?_;show(if isId i=false then(s,[-2])else(match s.papers.find? fun p=>p.id==i.toNat with
   |none=>(s,[-3])
   |some p=>(s,_))).1=s
  split
  .rfl
  .split<;>rfl
 |sizes=>exact h
theorem Hn:jh start:=⟨ajo _,ako,ajo _,ako,ajo _,rfl,fun x hx=>(nomatch hx),fun x hx=>(nomatch hx),by decide⟩
open PySem PySem.Spec PyProof.Rows L2
structure Apart(C:Cs):Prop where
 hp:C.cw≠C.paper
 hr:C.cw≠C.rev
 hd:C.cw≠C.dec
 rp:C.rev≠C.paper
 rd:C.rev≠C.dec
structure Lo(H H':Hp)(fp nG:List Addr):Prop where
 kp:∀b o,H b=some o->b∉fp->H' b=some o
 nw:∀b∈nG,b∈fp\/H b=none
theorem Lo.of(s:aC H H'):Lo H H' fp fp:=⟨fun b o e _=>s b o e,fun b hb=> .inl hb⟩
theorem gj{x:Nat×Decision}(h:(numbered l)[i]?=some x):l[i]?=some x.2/\x.1=i+1:=by
 unfold numbered at h;rw[am6]at h;obtain⟨h1,h2⟩:=h;refine⟨h2,?_⟩;rw[ajd]at h1;cases q:(List.range l.length)[i]? with
 |none=>rw[q]at h1;cases h1
 |some j=>
  rw[q]at h1;have:=ai3.mp q;obtain⟨_,e⟩:=this;rw[akM]at e;have Kt:j+1=x.1:=ajr h1;omega
theorem u6(l:List Decision)(x:Decision):numbered (l++[x])=numbered l++[(l.length+1,x)]:=by unfold numbered;rw[aiT];show((List.range (l.length+1)).map (·+1)).zip (l++[x])=_;rw[alc,aiY,amT (by simp)];rfl
section
variable{K:W.Frag}
abbrev Yq:=top 129
theorem Pe:aM ["house","decision"] ["house"] (aF Yq):=dc
def Tq(C:Cs):Sp:=fun vs H Q _=>∃a s fp,vs=[.ref a]/\aW C H a s fp/\∀H',aC H H'->Q (.bl s.closed) H'
theorem UP(F:bL "decided_today" Yq)(T:Txt K mg C):de 1 ["house"] (Tq C):=by
 refine d9 Pe
 .obtain⟨a,s,fp,rfl,_⟩:=h;rfl
 .obtain⟨a,st,fp,rfl,hH,hQ⟩:=h;obtain⟨dx,fs,pd,rd,dl,pk,rk,ds,e1,e2,e3,e4,e5,e6,e7,e8,e9,o9,iU,iT,wo,r6⟩:=hH.ex;refine⟨_,aE (aH (bA qf (by rfl) T.dZ PyProof.Rows.Boot.«any» (bb (fw (own:=[("decision",1)]) rfl Pe.nd (ax (aL (pv 0) rfl)) (cV rfl) (fun _ _ _ _ _=>zG 1 Pe.nd) (fun _ _ _ _ _=>eZ) (fun _ _ _ _ _=>fe eO (eF (K:=K) (pv 1) rfl) (eF (K:=K) (pv 0) rfl))) cA))),?_⟩;have rD:ds.length=st.decisions.length:=(by rw[Paired.length iT,ff]);refine⟨_,Z,a,_,dx,fs,_,Z,e1,T.cH,T.Gq,e6,dl,Z,⟨_,ae.of iU⟩,fun D hD=>eG (K:=K) (a:=dl) (xs:=ds.map V.ref) (fun i H'=>aC H H'/\H' D=some (.lst (((st.decisions.take i).map fun x=>x.known==st.today).map V.bl))) ⟨zU hD,aA⟩ (fun i H' _ ⟨s1,_⟩=>ae.of (s1 _ _ iU)) ?_ ?_⟩
  .rintro i y H1 hi ⟨s1,kC⟩;obtain⟨b,hb,rfl⟩:=bT hi;obtain⟨x,hx,CW⟩:=aR iT hb;obtain⟨Lf,_⟩:=gj hx;obtain⟨dy,gs,pZ,g1,g2,g3,g4,g5⟩:=(CW.same (aC.x s1)).ex;refine⟨Z,?_⟩;dsimp only[nQ];rw[ai5 rfl];refine⟨_,Z,b,_,dy,gs,_,Z,pZ,T.cD,T.yY,g5,_,Z,a,_,dx,fs,_,Z,s1 _ _ e1,T.cH,T.Gq,e3,Z,?_⟩;have ev:decide (V.int (x.2.known:Nat)=V.int (st.today:Nat))=(x.2.known==st.today):=by
    by_cases q:x.2.known=st.today
    .rw[q];simp
    .have:¬V.int (x.2.known:Nat)=V.int (st.today:Nat):=(fun z=>by injection z with z;omega);rw[ajl this,ajt.mpr q]
   rw[ev];refine⟨_,kC,?_,aC.upd s1 hD,?_⟩
   .rw[aiQ,aiQ,ajb,ai6];have:=hH.ok.df;omega
   .rw[aA,aa Lf,aiY,aiY];rfl
  .rintro H1 ⟨s1,kC⟩;rw[aiQ,rD,ai9]at kC;refine⟨D,_,Z,ae.of kC,?_⟩;have e:((st.decisions.map fun x=>x.known==st.today).any id)=st.closed:=(by rw[amD,hH.ok.cl];rfl);rw[e];exact hQ H1 s1
def gS(C:Cs)(mk:List V->Call->Hp->Prop):Sp:=fun vs H Q _=>∃a s fp us c,vs= .ref a::us/\mk us c H/\aW C H a s fp/\∀H' l nG,Lo H H' fp nG->aW C H' a (Vbkoac.step s c).1 nG->H l=none->l∉nG->fU H' l (Vbkoac.step s c).2->(Vbkoac.step s c).2.length<=1000000->Q (.ref l) H'
theorem bQ{Q:VK}{z:Int}(hH:aW C H a s fp)(hQ:∀H' l nG,Lo H H' fp nG->aW C H' a (Vbkoac.step s c).1 nG->H l=none->l∉nG->fU H' l (Vbkoac.step s c).2->(Vbkoac.step s c).2.length<=1000000->Q (.ref l) H')(s1:aC H H1)(e:Vbkoac.step s c=(s,[z])):([V.int z]:List V).length<=sizeLine/\∀p,H1 p=none->Q (.ref p) (upd H1 p (.lst [V.int z])):=by refine⟨zL rfl,fun l hl=>?_⟩;rw[e]at hQ;have s2:aC H (upd H1 l (.lst [V.int z])):=aC.trans s1 (zU hl);have mv:=aC.free s1 hl;refine hQ _ l fp (Lo.of s2) (hH.same (aC.x s2)) mv (fun hm=>?_) aA (by show 1<=1000000;decide);obtain⟨o,ho⟩:=hH.there hm;rw[mv]at ho;cases ho
abbrev Yg:=top 130
theorem Yb:aM ["house","day"] ["house","day"] (aF Yg):=dc
def OU:List V->Call->Hp->Prop:=fun us c _=>∃k,us=[.int k]/\c= .day k
theorem sT(s:State)(k:Int):Vbkoac.step s (.day k)=if isDay k=false then(s,[-2])else if k<Int.ofNat s.today then(s,[-5])else({s with today:=k.toNat,closed:=s.closed&&k==Int.ofNat s.today},[0]):=rfl
theorem aW.ins{s':State}(h:aW C H a s fp)(A:Apart C){fs NR:List (Str×V)}(e:H a=some (.ins C.cw dx fs))(hl:NR.length<=10)(ht:Fd NR "today" (.int s'.today))(hf:∀f∈(["papers","revocations","decisions"]:List Str),NR.lookup f=fs.lookup f) (e1:s'.papers=s.papers)(e2:s'.revokes=s.revokes)(e3:s'.decisions=s.decisions)(ok:jh s'):aW C (upd H a (.ins C.cw dx NR)) a s' fp:=by
 obtain⟨WQ,WC,pd,rd,dl,pk,rk,ds,q1,q2,q3,q4,q5,q6,q7,q8,q9,Dt,vv,Ds,BD,B3⟩:=h.ex;rw[e]at q1;cases q1;have CD:pd≠a:=ak q7 e nofun;have Mu:rd≠a:=ak q9 e nofun;have ZN:dl≠a:=ak vv e nofun;refine⟨⟨dx,NR,pd,rd,dl,pk,rk,ds,aA,hl,ht,(hf _ (by decide)).trans q4,(hf _ (by decide)).trans q5,(hf _ (by decide)).trans q6,by rw[aB CD];exact q7,?_,by rw[aB Mu];exact q9,?_,by rw[aB ZN];exact vv,?_,BD,B3⟩,ok⟩
 .rw[e1];have eo:off (upd H a (.ins C.cw dx NR)) dl=upd (off H dl) a (.ins C.cw dx NR):=ip (ajC ZN);rw[eo];exact Paired.a8 q8 fun _ _ z=>z.put (by show fI C.paper (upd H dl _ a);rw[aB (ajC ZN),e];exact A.hp)
 .rw[e2];exact Paired.a8 Dt fun _ _ z=>z.put (by rw[e];exact A.hr)
 .rw[e3];exact Paired.a8 Ds fun _ _ z=>z.put (by rw[e];exact A.hd)
theorem aW.self(h:aW C H a s fp):a∈fp:=by obtain⟨WQ,WC,pd,rd,dl,pk,rk,ds,q1,q2,q3,q4,q5,q6,q7,q8,q9,Dt,vv,Ds,BD,B3⟩:=h.ex;rw[B3];exact aiV ..
theorem UH(F:bL "tell_day" Yg)(T:Txt K mg C)(A0:Apart C)(dD:gz 1)(c2:Num mg "OUT_OF_RANGE" (-2))(c5:Num mg "GONE_BY" (-5))(c0:Num mg "ACCEPTED" 0):de 2 ["house","day"] (gS C OU):=by
 refine d9 Yb
 .obtain⟨a,s,fp,us,c,rfl,⟨k,rfl,_⟩,_⟩:=h;rfl
 .obtain⟨a,st,fp,us,c,rfl,⟨k,rfl,rfl⟩,hH,hQ⟩:=h;obtain⟨dx,fs,pd,rd,dl,pk,rk,ds,e1,e2,e3,e4,e5,e6,e7,e8,e9,o9,iU,iT,wo,r6⟩:=hH.ex;refine⟨_,aD (aZ (cn (bF (aJ dD hr (bM (pv 1))))) (aE (aH (aU (bM (aQ c2))))) aN) (aD (aZ (aY n9 (pv 1) (aL (pv 0) rfl)) (aE (aH (aU (bM (aQ c5))))) aN) (aD (bf (pv 0) (pv 1) rfl) (aE (aH (aU (bM (aQ c0))))))),?_⟩;refine⟨_,Z,k,Z,_,Z,?_⟩;cases hk:isDay k with
  |false=>
   refine aO (fun _=>?_) (fun z=>absurd rfl z);exact bQ hH hQ (aC.refl H) (by rw[sT,hk,ai5 rfl])
  |true=>
   refine aO nofun (fun _=>?_);refine⟨_,Z,_,Z,a,_,dx,fs,_,Z,e1,T.cH,T.Gq,e3,_,_,Z,Z,_,Z,aO (fun h1=>?_) (fun h1=>?_)⟩
   .exact bQ hH hQ (aC.refl H) (by rw[sT,hk,ai0 nofun,ai5 (show k<Int.ofNat st.today from aja h1)])
   .have Kt:¬k<Int.ofNat st.today:=fun z=>h1 (ai8 z);have lx:Vbkoac.step st (.day k)=({st with today:=k.toNat,closed:=st.closed&&k==Int.ofNat st.today},[0]):=(by rw[sT,hk,ai0 nofun,ai0 Kt]);have EA:=nS hH.ok (.day k);rw[lx]at EA hQ;have kn:=dv hk;refine⟨_,Z,_,Z,a,_,dx,fs,Z,e1,T.cH,T.Gq,(by omega),?_⟩;have hH':aW C (upd H a (.ins C.cw dx (be "today" (.int k) fs))) a {st with today:=k.toNat,closed:=st.closed&&k==Int.ofNat st.today} fp:=hH.ins A0 e1 (ajq (alE (iG _ _ fs (by rw[(e3:fs.lookup _=_)];rfl))) e2) (by show(be _ (V.int k) fs).lookup _=some (V.int (k.toNat:Int));rw[zu,<-kn]) (fun f hf=>kq (fun q=>by rw[q]at hf;revert hf;decide)) rfl rfl rfl EA;refine⟨(zL rfl),fun l hl=>?_⟩;have SH:l≠a:=(fun q=>by rw[q,aA]at hl;cases hl);have mv:H l=none:=(by rw[aB SH]at hl;exact hl);have s2:aC (upd H a (.ins C.cw dx (be "today" (.int k) fs))) (upd (upd H a (.ins C.cw dx (be "today" (.int k) fs))) l (.lst [V.int 0])):=zU hl;refine hQ _ l fp ⟨fun b o e nb=>?_,fun b hb=> .inl hb⟩ (hH'.same (aC.x s2)) mv (fun hm=>?_) aA (by show 1<=1000000;decide)
    .rw[aB (aG e mv),aB (fun q=>nb (by rw[q];exact hH.self))];exact e
    .obtain⟨o,ho⟩:=hH.there hm;rw[mv]at ho;cases ho
end
theorem xk{C:Cs}{H:Hp}:∀{aP:List (Key×V)} {ps:List Revoke} (i:Nat),Paired (iW C H) aP ps->(ps.find? (fun p=>p.num==i)=none->bc aP (Sum.inl (i:Int))=none)/\∀p,ps.find? (fun p=>p.num==i)=some p->∃a,bc aP (Sum.inl (i:Int))=some (.ref a)/\dX C H a p
 |_,_,i,.nil=>⟨fun _=>rfl,fun p e=>(nomatch e)⟩
 |_,_,i,.cons (a:=kv) (b:=q) ⟨e1,a,e2,hp⟩ t=>by
  obtain⟨Le,ET⟩:=xk i t;unfold bc at Le ET⊢;rw[ajG,ajG];by_cases e:q.num=i
  .have d:decide (kv.1=Sum.inl (i:Int))=true:=(by rw[e1,e];exact ai8 rfl);have b:(q.num==i)=true:=(by rw[e];exact aka i);rw[d,b];exact⟨nofun,fun p z=>by cases z;exact⟨a,by rw[<-e2];rfl,hp⟩⟩
  .have d:decide (kv.1=Sum.inl (i:Int))=false:=(by rw[e1];refine ajl fun z=>e ?_;injection z with z;omega);have b:(q.num==i)=false:=ajt.mpr e;rw[d,b];exact⟨Le,ET⟩
theorem aW.revoke(h:aW C H a s fp){rd x:Addr}{fs:List (Str×V)}{rk:List (Key×V)}{r:Revoke}(e:H a=some (.ins C.cw dx fs))(er:Fd fs "revocations" (.ref rd))(ek:H rd=some (.dK rk))(hx:dX C H x r)(ok:jh {s with revokes:=s.revokes++[r]}):aW C (upd H rd (.dK (rk++[(Sum.inl (r.num:Int),V.ref x)]))) a {s with revokes:=s.revokes++[r]} (fp++[x]):=by
 obtain⟨WQ,WC,pd,FX,dl,pk,rk0,ds,q1,q2,q3,q4,q5,q6,q7,q8,q9,Dt,vv,Ds,BD,B3⟩:=h.ex;rw[e]at q1;cases q1;obtain rfl:FX=rd:=by have z:fs.lookup _=some (V.ref rd):=er;rw[show fs.lookup _=some (V.ref FX)from q5]at z;cases z;rfl
 rw[ek]at q9;cases q9;have na:a≠FX:=ak e ek nofun;have nd:dl≠FX:=ak vv ek nofun;refine⟨⟨dx,fs,pd,FX,dl,pk,_,ds,by rw[aB na];exact e,q2,q3,q4,q5,q6,by rw[aB BD];exact q7,?_,aA,?_,by rw[aB nd];exact vv,?_,BD,?_⟩,ok⟩
 .have eo:off (upd H FX (.dK (rk++[(Sum.inl (r.num:Int),V.ref x)]))) dl=upd (off H dl) FX (.dK (rk++[(Sum.inl (r.num:Int),V.ref x)])):=ip (ajC nd);rw[eo];exact Paired.a8 q8 fun _ _ z=>z.put (by show fI C.paper (upd H dl _ FX);rw[aB (ajC nd),ek];exact True.intro)
 .exact bC ⟨rfl,x,rfl,hx.put (by rw[ek];exact True.intro)⟩ (Paired.a8 Dt fun _ _ z=>z.put (by rw[ek];exact True.intro))
 .exact Paired.a8 Ds fun _ _ z=>z.put (by rw[ek];exact True.intro)
 .rw[B3,aiY];rfl
theorem aW.paper(h:aW C H a s fp){pd x:Addr}{fs:List (Str×V)}{pk:List (Key×V)}{p:Paper}(e:H a=some (.ins C.cw dx fs))(er:Fd fs "papers" (.ref pd))(ed:Fd fs "decisions" (.ref dl))(ek:H pd=some (.dK pk))(hx:fH C (off H dl) x p)(ok:jh {s with papers:=s.papers++[p]}):aW C (upd H pd (.dK (pk++[(Sum.inl (p.id:Int),V.ref x)]))) a {s with papers:=s.papers++[p]} fp:=by
 obtain⟨WQ,WC,MJ,rd,yp,pk0,rk,ds,q1,q2,q3,q4,q5,q6,q7,q8,q9,Dt,vv,Ds,BD,B3⟩:=h.ex;rw[e]at q1;cases q1;obtain rfl:MJ=pd:=by have z:fs.lookup _=some (V.ref pd):=er;rw[show fs.lookup _=some (V.ref MJ)from q4]at z;cases z;rfl
 obtain rfl:yp=dl:=by have z:fs.lookup _=some (V.ref dl):=ed;rw[show fs.lookup _=some (V.ref yp)from q6]at z;cases z;rfl
 rw[ek]at q7;cases q7;have na:a≠MJ:=ak e ek nofun;have nd:yp≠MJ:=ak vv ek nofun;refine⟨⟨dx,fs,MJ,rd,yp,_,rk,ds,by rw[aB na];exact e,q2,q3,q4,q5,q6,aA,?_,by rw[aB (ajC BD)];exact q9,?_,by rw[aB nd];exact vv,?_,BD,B3⟩,ok⟩
 .have eo:off (upd H MJ (.dK (pk++[(Sum.inl (p.id:Int),V.ref x)]))) yp=upd (off H yp) MJ (.dK (pk++[(Sum.inl (p.id:Int),V.ref x)])):=ip (ajC nd);rw[eo];have fo:fI C.paper (off H yp MJ):=(by show fI C.paper (upd H yp _ MJ);rw[aB (ajC nd),ek];exact True.intro);exact bC ⟨Z,x,Z,hx.put fo⟩ (Paired.a8 q8 fun _ _ z=>z.put fo)
 .exact Paired.a8 Dt fun _ _ z=>z.put (by rw[ek];exact True.intro)
 .exact Paired.a8 Ds fun _ _ z=>z.put (by rw[ek];exact True.intro)
theorem Ax{x:Addr}{gs gs':List (Str×V)}{t:Nat}(hx:H x=some (.ins C.rev dx gs))(hn:Fd gs "number" (.int n))(hr:∀r,dX C H x r->dX C (upd H x (.ins C.rev dx gs')) x {r with back:=some t}):∀{rk:List (Key×V)} {rs:List Revoke},Paired (iW C H) rk rs->(rs.map fun r=>r.num).Nodup->bc rk (Sum.inl (n:Int))=some (.ref x)->Paired (iW C (upd H x (.ins C.rev dx gs'))) rk (rs.map fun r=>if r.num=n then{r with back:=some t}else r):=by
 have keep:∀kv r,iW C H kv r->r.num≠n->iW C (upd H x (.ins C.rev dx gs')) kv (if r.num=n then{r with back:=some t}else r):=(by rintro kv r ⟨e1,c,e2,hc⟩ ne;rw[ai0 ne];obtain⟨dy,fs,q,q1,q2⟩:=hc.ex;have nc:c≠x:=(fun z=>by rw[z,hx]at q;cases q;have z1:gs.lookup _=some (V.int (n:Nat)):=hn;rw[show gs.lookup _=some (V.int (r.num:Nat))from q1]at z1;injection z1 with z1;injection z1 with z1;omega);exact⟨e1,c,e2,⟨dy,fs,by rw[aB nc];exact q,q1,q2⟩⟩);intro rk rs hP
 induction hP with
 |nil=>intro _ _;exact .nil
 | @cons kv r rk rs h1 h2 ih=>
  intro nd hv;rw[aji,ajP]at nd;rw[aji];obtain⟨e1,c,e2,hc⟩:=h1;unfold bc at hv ih;rw[ajG]at hv;by_cases q:r.num=n
  .have d:decide (kv.1=Sum.inl (n:Int))=true:=(by rw[e1,q];exact ai8 rfl);rw[d]at hv;have wQ:some kv.2=some (V.ref x):=hv;rw[e2]at wQ;cases wQ;refine .cons ⟨by rw[ai5 q];exact e1,x,e2,by rw[ai5 q];exact hr r hc⟩ ?_;have tl:∀r'∈rs,r'.num≠n:=fun r' gO z=>nd.1 (ai7.mpr ⟨r',gO,by rw[z,q]⟩);clear ih hv nd
   induction h2 with
   |nil=>exact .nil
   | @cons kv' r' T2 rs' g1 g2 ET=>exact .cons (keep _ _ g1 (tl _ (aiV ..))) (ET fun r'' h=>tl _ (aiS _ h))
  .have d:decide (kv.1=Sum.inl (n:Int))=false:=(by rw[e1];refine ajl fun z=>q ?_;injection z with z;omega);rw[d]at hv;exact .cons (keep _ _ ⟨e1,c,e2,hc⟩ q) (ih nd.2 hv)
theorem aW.back{C:Cs}{H:Hp}{a:Addr}{s:State}{fp:List Addr}(h:aW C H a s fp)(A:Apart C){dx rd x dy:Addr}{fs gs gs':List (Str×V)}{rk:List (Key×V)}{n t:Nat}(e:H a=some (.ins C.cw dx fs))(er:Fd fs "revocations" (.ref rd))(ek:H rd=some (.dK rk))(hx:H x=some (.ins C.rev dy gs))(hn:Fd gs "number" (.int n))(hv:bc rk (Sum.inl (n:Int))=some (.ref x)) (hr:∀r,dX C H x r->dX C (upd H x (.ins C.rev dy gs')) x {r with back:=some t})(ok:jh {s with revokes:=s.revokes.map fun r=>if r.num=n then{r with back:=some t}else r}):aW C (upd H x (.ins C.rev dy gs')) a {s with revokes:=s.revokes.map fun r=>if r.num=n then{r with back:=some t}else r} fp:=by
 obtain⟨WQ,WC,pd,FX,dl,pk,rk0,ds,q1,q2,q3,q4,q5,q6,q7,q8,q9,Dt,vv,Ds,BD,B3⟩:=h.ex;rw[e]at q1;cases q1;obtain rfl:FX=rd:=by have z:fs.lookup _=some (V.ref rd):=er;rw[show fs.lookup _=some (V.ref FX)from q5]at z;cases z;rfl
 rw[ek]at q9;cases q9;have na:a≠x:=ak e hx (fun z=>by injection z with z1;exact A.hr z1);have np:pd≠x:=ak q7 hx nofun;have nr:FX≠x:=ak ek hx nofun;have nd:dl≠x:=ak vv hx nofun;refine⟨⟨dx,fs,pd,FX,dl,pk,rk,ds,by rw[aB na];exact e,q2,q3,q4,q5,q6,by rw[aB np];exact q7,?_,by rw[aB nr];exact ek,Ax hx hn hr Dt h.ok.rn hv,by rw[aB nd];exact vv,?_,BD,B3⟩,ok⟩
 .have eo:off (upd H x (.ins C.rev dy gs')) dl=upd (off H dl) x (.ins C.rev dy gs'):=ip (ajC nd);rw[eo];exact Paired.a8 q8 fun _ _ z=>z.put (by show fI C.paper (upd H dl _ x);rw[aB (ajC nd),hx];exact A.rp)
 .exact Paired.a8 Ds fun _ _ z=>z.put (by rw[hx];exact A.rd)
theorem jE{α:Type}(p:α->Bool):∀l:List α,l.any p=(l.find? p).isSome
 | []=>rfl
 |x::l=>by rw[ak0,ajG,jE p l];cases p x<;>rfl
theorem EH{C:Addr}{fs:List V->List (Str×V)}{vs:List V}{R:VK}{E:XK}{x:Addr}(hl:vs.length=n)(hx:H1 x=none)(hd:H1 dx=none)(ne:dx≠x)(h:∀H2,aC H1 H2->H2 x=some (.ins C dx (fs vs))->H2 dx=some (.own x)->(∀b,b≠x->b≠dx->H2 b=H1 b)->R .cW H2):fY C fs n (.ref x::(vs++[])) (upd (upd H1 dx (.own x)) x (.ins C dx [])) R E:=by
 refine⟨x,dx,vs++[],Z,by rw[ajs];exact hl,aA,fun H' h1 h2=>?_⟩;rw[ajs]at h1;refine h H' (fun b o e=>?_) h1 ?_ (fun b b1 b2=>?_)
 .rw[h2 b (aG e hx),aB (aG e hx),aB (aG e hd)];exact e
 .rw[h2 dx ne,aB ne,aA]
 .rw[h2 b b1,aB b1,aB b2]
section
variable{K:W.Frag}
abbrev Ye:=top 132
theorem Ya:aM ["house","number","paper","since"] ["house","number","paper","since"] (aF Ye):=dc
def OT:List V->Call->Hp->Prop:=fun us c _=>∃n i d,us=[.int n,.int i,.int d]/\c= .revoke n i d
theorem gL(s:State)(n id since:Int):Vbkoac.step s (.revoke n id since)=if(isId n&&(isId id&&isDay since))=false then(s,[-2])else if s.closed=true then(s,[-5])else if(s.revokes.any fun r=>r.num==n.toNat)=true then(s,[-4])else if Vbkoac.REVOKES<=s.revokes.length then(s,[-6])else ({s with revokes:=s.revokes++[⟨n.toNat,id.toNat,since.toNat,s.today,none⟩]},[0,Int.ofNat (s.revokes.length+1)]):=rfl
theorem UE(F:bL "tell_revocation" Ye)(T:Txt K mg C)(A0:Apart C)(dD:gz 2)(dN:cB 2)(dT:gD 2)(cR:jt P w K mg base 1 "Revocation" C.rev ["self","number","paper","since","heard"] (fY C.rev GV 4)) (c2:Num mg "OUT_OF_RANGE" (-2))(c5:Num mg "GONE_BY" (-5))(c0:Num mg "ACCEPTED" 0)(c4:Num mg "TOLD_ALREADY" (-4))(c6:Num mg "FULL" (-6))(cM:Num mg "MOST_REVOCATIONS" 20):de 3 ["house","number","paper","since"] (gS C OT):=by
 refine d9 Ya
 .obtain⟨a,s,fp,us,c,rfl,⟨k,i,d,rfl,_⟩,_⟩:=h;rfl
 .obtain⟨a,st,fp,us,c,rfl,⟨n,i,d,rfl,rfl⟩,hH,hQ⟩:=h;have hu:=bu hr;obtain⟨dx,fs,pd,rd,dl,pk,rk,ds,e1,e2,e3,e4,e5,e6,e7,e8,e9,o9,iU,iT,wo,r6⟩:=hH.ex;have n1:=T.nH "revocations" (by decide);have n2:=T.nH "today" (by decide);refine⟨_,aD (aZ (cn (jP (bF (aJ dN hr (bM (pv 1)))) (jP (bF (aJ dN hr (bM (pv 2)))) (jO (bF (aJ dD hr (bM (pv 3))))))).pt) (aE (aH (aU (bM (aQ c2))))) aN) (aD (aZ (bF (aJ dT hr (bM (pv 0)))) (aE (aH (aU (bM (aQ c5))))) aN) (aD (aZ (b9 (fB hu (pv 1) (aL (pv 0) rfl))) (aE (aH (aU (bM (aQ c4))))) aN) (aD (aZ (aY eO (bA g8 (by rfl) T.dZ ajK (bM (aL (pv 0) rfl))) (aQ cM)) (aE (aH (aU (bM (aQ c6))))) aN) (aD (ee hu (aL (pv 0) rfl) (pv 1) (mZ cR hr (G5 (pv 1) (pv 2) (pv 3) (aL (pv 0) rfl))) rfl) (aE (aH (aU (cY (aQ c0) (bA g8 (by rfl) T.dZ ajK (bM (aL (pv 0) rfl))))))))))),?_⟩;have bad:(isId n&&(isId i&&isDay d))=false->([V.int (-2)]:List V).length<=sizeLine/\∀p,H p=none->Q (.ref p) (upd H p (.lst [V.int (-2)])):=fun z=>bQ hH hQ (aC.refl H) (by rw[gL,ai5 z]);refine⟨_,Z,n,Z,_,Z,aO (fun h1=>?_) (fun h1=>?_)⟩
  case refine_2=>exact aO (fun _=>bad (by rw[akX.mpr h1];rfl)) (fun z=>absurd rfl z)
  refine⟨_,Z,i,Z,_,Z,aO (fun h2=>?_) (fun h2=>?_)⟩
  case refine_2=>exact aO (fun _=>bad (by rw[akX.mpr h2,akB,akp])) (fun z=>absurd rfl z)
  refine⟨_,Z,d,Z,_,Z,aO (fun h3=>?_) (fun h3=>?_)⟩
  .exact bad (by have HI:isDay d=false:=(by simpa using h3);rw[HI,akp,akp])
  have HI:isDay d=true:=(by simpa using h3);have fF:¬(isId n&&(isId i&&isDay d))=false:=(by rw[h1,h2,HI];exact fun z=>nomatch z);refine⟨_,Z,a,st,fp,Z,hH,fun H1 s1=>⟨_,Z,aO (fun hc=>?_) (fun hc=>?_)⟩⟩
  .exact bQ hH hQ s1 (by rw[gL,ai0 fF,ai5 hc])
  have nn:=ia h1;obtain⟨v1,v2⟩:=xk (C:=C) (H:=H) n.toNat o9;rw[<-nn]at v1 v2;refine⟨_,Z,_,Z,a,_,dx,fs,_,Z,s1 _ _ e1,T.cH,n1,e5,rd,_,Z,ba.k (k:=Sum.inl n) (s1 _ _ e9),_,Z,?_⟩;cases hp:st.revokes.find? fun r=>r.num==n.toNat with
  |some r=>
   obtain⟨ra,hv,_⟩:=v2 r hp;rw[hv];refine aO (fun _=>?_) (fun z=>absurd rfl z);exact bQ hH hQ s1 (by rw[gL,ai0 fF,ai0 hc,ai5 (by rw[jE,hp];rfl)])
  |none=>
   rw[v1 hp];refine aO nofun (fun _=>?_);have Ko:¬(st.revokes.any fun r=>r.num==n.toNat)=true:=(by rw[jE,hp];exact fun z=>nomatch z);have hlen:rk.length=st.revokes.length:=Paired.length o9;refine⟨_,Z,a,_,dx,fs,_,Z,s1 _ _ e1,T.cH,n1,e5,rd,rk,Z,s1 _ _ e9,Z,_,Z,aO (fun hf=>?_) (fun hf=>?_)⟩
   .have hf':rk.length=20:=(by have z:=aja hf;injection z with z;omega);exact bQ hH hQ s1 (by rw[gL,ai0 fF,ai0 hc,ai0 Ko,ai5 (show Vbkoac.REVOKES<=st.revokes.length by show 20<=_;omega)])
   .have EA:=nS hH.ok (.revoke n i d);have lt:st.revokes.length<20:=(by have l0:=hH.ok.rf;have:rk.length≠20:=fun z=>hf (ai8 (by rw[z];rfl));omega);have lx:Vbkoac.step st (.revoke n i d)=({st with revokes:=st.revokes++[⟨n.toNat,i.toNat,d.toNat,st.today,none⟩]},[0,Int.ofNat (st.revokes.length+1)]):=(by rw[gL,ai0 fF,ai0 hc,ai0 Ko,ai0 (show¬Vbkoac.REVOKES<=st.revokes.length by show¬20<=_;omega)]);rw[lx]at EA hQ;refine⟨_,Z,_,Z,_,Z,_,Z,a,_,dx,fs,_,Z,s1 _ _ e1,T.cH,n2,e3,?_⟩;refine fun x NW hx HG jZ=>EH (H1:=H1) (C:=C.rev) (fs:=GV) (n:=4) (vs:=[V.int n,V.int i,V.int d,V.int (st.today:Nat)]) rfl hx HG jZ fun H2 s2 Lf aaH VH=>⟨Z,?_⟩;have b0:aC H H2:=aC.trans s1 s2;refine⟨_,Z,a,_,dx,fs,_,Z,b0 _ _ e1,T.cH,n1,e5,_,Z,rd,_,Z,ji.k (k:=Sum.inl n) (b0 _ _ e9) (by rw[ai6];omega),?_⟩;have RY:putK rk (Sum.inl n) (V.ref x)=rk++[(Sum.inl n,V.ref x)]:=L2.iz _ (v1 hp);rw[RY];have Zw:dX C H2 x ⟨n.toNat,i.toNat,d.toNat,st.today,none⟩:=by
     refine⟨NW,_,Lf,?_,?_,?_,?_,?_,?_⟩
     .show List.lookup _ (GV [V.int n,V.int i,V.int d,V.int (st.today:Nat)])=some (V.int (n.toNat:Int));rw[<-nn];rfl
     .show List.lookup _ (GV [V.int n,V.int i,V.int d,V.int (st.today:Nat)])=some (V.int (i.toNat:Int));rw[<-ia h2];rfl
     .show List.lookup _ (GV [V.int n,V.int i,V.int d,V.int (st.today:Nat)])=some (V.int (d.toNat:Int));rw[<-dv HI];rfl
     .rfl
     .rfl
     .exact Nat.le_of_ble_eq_true rfl
    have V6:=(hH.same (aC.x b0)).revoke (b0 _ _ e1) e5 (b0 _ _ e9) Zw EA;have jn:((Sum.inl ((n.toNat:Nat):Int),V.ref x):Key×V)=(Sum.inl n,V.ref x):=(by rw[<-nn]);rw[show rk++[((Sum.inl ((n.toNat:Nat):Int),V.ref x):Key×V)]=rk++[(Sum.inl n,V.ref x)] by rw[jn]]at V6;have Mu:a≠rd:=ak e1 e9 nofun;refine⟨_,Z,a,_,dx,fs,_,Z,(by rw[aB Mu];exact b0 _ _ e1),T.cH,n1,e5,rd,_,Z,aA,(zL rfl),fun l hl=>?_⟩;have OP:l≠rd:=(fun z=>by rw[z,aA]at hl;cases hl);have ky:H2 l=none:=(by rw[aB OP]at hl;exact hl);have mv:=aC.free b0 ky;have s3:=aC.upd (o:= .lst [V.int 0,V.int ((rk++[((Sum.inl n,V.ref x):Key×V)]).length:Int)]) (aC.refl _) hl;have KY:(rk++[((Sum.inl n,V.ref x):Key×V)]).length=st.revokes.length+1:=(by rw[aiT,hlen];rfl);have hxH:H x=none:=aC.free s1 hx;refine hQ _ l (fp++[x]) ⟨fun b o e nb=>?_,fun b hb=>?_⟩ (V6.same (aC.x s3)) mv (fun hm=>?_) ?_ (by show 2<=1000000;decide)
    .rw[aB (aG e mv),aB (fun q=>nb (by rw[q,r6];exact aiS _ (aiS _ (aiV ..))))];exact b0 _ _ e
    .rcases ajh.mp hb with hb|hb
     .exact .inl hb
     .rw[aiU.mp hb];exact .inr hxH
    .rcases ajh.mp hm with hm|hm
     .obtain⟨o,ho⟩:=hH.there hm;rw[mv]at ho;cases ho
     .rw[aiU.mp hm,Lf]at ky;cases ky
    .show upd _ _ _ l=some (.lst (([0,Int.ofNat (st.revokes.length+1)]:List Int).map V.int));rw[aA,KY];rfl
end
section
variable{K:W.Frag}
abbrev Yh:=top 133
theorem Tv:aM ["house","number","revocation"] ["house","number"] (aF Yh):=dc
def J0:List V->Call->Hp->Prop:=fun us c _=>∃n,us=[.int n]/\c= .back n
theorem iq(s:State)(n:Int):Vbkoac.step s (.back n)=if isId n=false then(s,[-2])else if s.closed=true then(s,[-5])else(match s.revokes.find? fun r=>r.num==n.toNat with
  |none=>(s,[-3])
  |some r=>if r.back.isSome=true then(s,[-4])else({s with revokes:=s.revokes.map fun x=>if x.num=n.toNat then{x with back:=some s.today}else x},[0])):=rfl
theorem UI(F:bL "take_back" Yh)(T:Txt K mg C)(A0:Apart C)(dN:cB 1)(dT:gD 1) (c2:Num mg "OUT_OF_RANGE" (-2))(c5:Num mg "GONE_BY" (-5))(c0:Num mg "ACCEPTED" 0)(c4:Num mg "TOLD_ALREADY" (-4))(c3:Num mg "NONE_SUCH" (-3)):de 2 ["house","number"] (gS C J0):=by
 refine d9 Tv
 .obtain⟨a,s,fp,us,c,rfl,⟨k,rfl,_⟩,_⟩:=h;rfl
 .obtain⟨a,st,fp,us,c,rfl,⟨n,rfl,rfl⟩,hH,hQ⟩:=h;have hu:=bu hr;obtain⟨dx,fs,pd,rd,dl,pk,rk,ds,e1,e2,e3,e4,e5,e6,e7,e8,e9,o9,iU,iT,wo,r6⟩:=hH.ex;have n1:=T.nH "revocations" (by decide);have n2:=T.nH "today" (by decide);refine⟨_,aD (aZ (cn (bF (aJ dN hr (bM (pv 1))))) (aE (aH (aU (bM (aQ c2))))) aN) (aD (aZ (bF (aJ dT hr (bM (pv 0)))) (aE (aH (aU (bM (aQ c5))))) aN) (aD (aZ (b9 (cJ hu (pv 1) (aL (pv 0) rfl))) (aE (aH (aU (bM (aQ c3))))) aN) (aD (zS 2 Tv.nd (dq hu (aL (pv 0) rfl) (pv 1))) (aD (aZ (b9 (xo (aL (pv 2) rfl))) (aE (aH (aU (bM (aQ c4))))) aN) (aD (bf (pv 2) (aL (pv 0) rfl) rfl) (aE (aH (aU (bM (aQ c0)))))))))),?_⟩;refine⟨_,Z,n,Z,_,Z,?_⟩;cases hn:isId n with
  |false=>
   refine aO (fun _=>?_) (fun z=>absurd rfl z);exact bQ hH hQ (aC.refl H) (by rw[iq,hn,ai5 rfl])
  |true=>
   refine aO nofun (fun _=>?_);refine⟨_,Z,a,st,fp,Z,hH,fun H1 s1=>⟨_,Z,aO (fun hc=>?_) (fun hc=>?_)⟩⟩
   .exact bQ hH hQ s1 (by rw[iq,hn,ai0 nofun,ai5 hc])
   have nn:=ia hn;have abc:Paired (iW C H1) rk st.revokes:=Paired.a8 o9 fun _ _ z=>z.same (aC.x s1);obtain⟨v1,v2⟩:=xk (C:=C) (H:=H1) n.toNat abc;have v1':=v1;have Wl:=v2;rw[<-nn]at v1' Wl;refine⟨_,Z,_,Z,a,_,dx,fs,_,Z,s1 _ _ e1,T.cH,n1,e5,rd,_,Z,ba.k (k:=Sum.inl n) (s1 _ _ e9),_,Z,?_⟩;cases hp:st.revokes.find? fun r=>r.num==n.toNat with
   |none=>
    rw[v1' hp];refine aO (fun _=>?_) (fun z=>absurd rfl z);exact bQ hH hQ s1 (by rw[iq,hn,ai0 nofun,ai0 hc,hp])
   |some r=>
    obtain⟨ra,hv,NA⟩:=Wl r hp;obtain⟨SD,wQ,_⟩:=v2 r hp;obtain rfl:SD=ra:=by rw[<-nn,hv]at wQ;cases wQ;rfl
    rw[hv];refine aO nofun (fun _=>?_);obtain⟨dy,gs,SX,g1,g2,g3,g4,g5,g6⟩:=NA.ex;refine⟨_,Z,a,_,dx,fs,_,Z,s1 _ _ e1,T.cH,n1,e5,_,Z,rd,_,Z,(by rw[<-hv];exact ba.k (k:=Sum.inl n) (s1 _ _ e9)),?_⟩;refine⟨_,Z,SD,_,dy,gs,_,Z,SX,T.cR,T.HM,g5,_,Z,?_⟩;cases hb:r.back with
    |some b=>
     refine aO (fun _=>?_) (fun z=>absurd rfl z);exact bQ hH hQ s1 (by rw[iq,hn,ai0 nofun,ai0 hc,hp];show(if r.back.isSome=true then _ else _)=_;rw[hb];rfl)
    |none=>
     refine aO nofun (fun _=>?_);have EA:=nS hH.ok (.back n);have lx:Vbkoac.step st (.back n)=({st with revokes:=st.revokes.map fun x=>if x.num=n.toNat then{x with back:=some st.today}else x},[0]):=(by rw[iq,hn,ai0 nofun,ai0 hc,hp];show(if r.back.isSome=true then _ else _)=_;rw[hb];rfl);rw[lx]at EA hQ;refine⟨_,Z,a,_,dx,fs,_,Z,s1 _ _ e1,T.cH,n2,e3,_,Z,SD,_,dy,gs,Z,SX,T.cR,T.HM,(by omega),?_⟩;have JI:r.num=n.toNat:=(by have z:=ald hp;exact akY.mp z);have Xr:=hH.same (aC.x s1);have hHB:=Xr.back A0 (gs':=be "taken_back" (.int st.today) gs) (n:=n.toNat) (t:=st.today) (s1 _ _ e1) e5 (s1 _ _ e9) SX (by rw[<-JI];exact g1) wQ (fun r1 h1=>by
      obtain⟨dy1,gs1,U6,p1,p2,p3,p4,p5,p6⟩:=h1.ex;rw[SX]at U6;cases U6;refine⟨dy,_,aA,?_,?_,?_,?_,?_,?_⟩
      .exact(kq (by decide)).trans p1
      .exact(kq (by decide)).trans p2
      .exact(kq (by decide)).trans p3
      .exact(kq (by decide)).trans p4
      .exact zu
      .exact ajq (alE (iG _ _ gs (by rw[(p5:gs.lookup _=_)];rfl))) p6) EA
     refine⟨(zL rfl),fun l hl=>?_⟩;have OP:l≠SD:=(fun z=>by rw[z,aA]at hl;cases hl);have rh:H1 l=none:=(by rw[aB OP]at hl;exact hl);have mv:=aC.free s1 rh;have s3:=zU (o:= .lst [V.int 0]) hl;refine hQ _ l fp ⟨fun b o e nb=>?_,fun b hb=> .inl hb⟩ (hHB.same (aC.x s3)) mv (fun hm=>?_) aA (by show 1<=1000000;decide)
     .have nbr:b≠SD:=fun z=>nb (by
       rw[r6];refine aiS _ (aiS _ (aiS _ (aiS _ ?_)));unfold bc at hv;cases Xg:rk.find? fun kv=>decide (kv.1=Sum.inl n)with
       |none=>rw[Xg]at hv;cases hv
       |some kv=>
        rw[Xg]at hv;have Zj:some kv.2=some (V.ref SD):=hv;injection Zj with Zj;refine ai7.mpr ⟨kv,akk Xg,?_⟩;rw[Zj,z];rfl)
      rw[aB (aG e mv),aB nbr];exact s1 _ _ e
     .obtain⟨o,ho⟩:=hH.there hm;rw[mv]at ho;cases ho
end
section
variable{K:W.Frag}
abbrev Yf:=top 131
theorem Tt:aM ["house","number","first","last","row","grounds"] ["house","number","first","last","row"] (aF Yf):=dc
def EF(K:W.Frag):List V->Call->Hp->Prop:=fun us c H=>∃n i d ra l,us=[.int n,.int i,.int d,.ref ra]/\c= .paper n i d l/\ae K H ra (l.map V.int)/\l.length<=200/\∀H',aC H H'->ae K H' ra (l.map V.int)
theorem fz(s:State)(id a b:Int)(l:List Int):Vbkoac.step s (.paper id a b l)=if(isId id&&(isDay a&&isDay b))=false then(s,[-2])else if s.closed=true then(s,[-5])else(match G3 l with
  |none=>(s,[-9])
  |some g=>if(s.papers.any fun p=>p.id==id.toNat)=true then(s,[-4])else if Vbkoac.PAPERS<=s.papers.length then(s,[-6])else ({s with papers:=s.papers++[⟨id.toNat,a.toNat,b.toNat,g,s.today⟩]},[0,Int.ofNat (s.papers.length+1)])):=by
 show(if(isId id&&(isDay a&&isDay b))=false then(s,[-2])else if s.closed=true then(s,[-5])else(match Vbkoac.groundsIn (l.length+1) l with
  |none=>(s,[-9])
  |some g=>if Vbkoac.GROUNDS<g.length then(s,[-9])else if(s.papers.any fun p=>p.id==id.toNat)=true then(s,[-4])else if Vbkoac.PAPERS<=s.papers.length then(s,[-6])else ({s with papers:=s.papers++[⟨id.toNat,a.toNat,b.toNat,g,s.today⟩]},[0,Int.ofNat (s.papers.length+1)])))=_
 unfold G3 PM.G;cases Vbkoac.groundsIn (l.length+1) l with
 |none=>rfl
 |some g=>
  show _=if _ then _ else if _ then _ else(match(if 3<g.length then none else some g)with|none=>_|some g=>_)
  by_cases q:3<g.length
  .rw[ai5 q];show(if _ then _ else if _ then _ else if Vbkoac.GROUNDS<g.length then _ else _)=_;rw[ai5 (show Vbkoac.GROUNDS<g.length from q)]
  .rw[ai0 q];show(if _ then _ else if _ then _ else if Vbkoac.GROUNDS<g.length then _ else _)=_;rw[ai0 (show¬Vbkoac.GROUNDS<g.length from q)]
theorem UG(F:bL "tell_paper" Yf)(T:Txt K mg C)(A0:Apart C)(dD:gz 4)(dN:cB 4)(dT:gD 4)(dG:cO 4 "read_grounds" ["row"] (Ti K))(cR:jt P w K mg base 3 "Paper" C.paper ["self","number","first","last","grounds","heard"] (fY C.paper pz 5)) (c2:Num mg "OUT_OF_RANGE" (-2))(c5:Num mg "GONE_BY" (-5))(c0:Num mg "ACCEPTED" 0)(c4:Num mg "TOLD_ALREADY" (-4))(c6:Num mg "FULL" (-6))(c9:Num mg "WRONG_LIST" (-9))(cM:Num mg "MOST_PAPERS" 24):de 5 ["house","number","first","last","row"] (gS C (EF K)):=by
 refine d9 Tt
 .obtain⟨a,s,fp,us,c,rfl,⟨k,i,d,ra,l,rfl,_⟩,_⟩:=h;rfl
 .obtain⟨a,st,fp,us,c,rfl,⟨n,i,d,ra,row,rfl,rfl,_,ic,Qg⟩,hH,hQ⟩:=h;have hu:=bu hr;obtain⟨dx,fs,pd,rd,dl,pk,rk,ds,e1,e2,e3,e4,e5,e6,e7,e8,e9,o9,iU,iT,wo,r6⟩:=hH.ex;have n1:=T.nH "papers" (by decide);have n2:=T.nH "today" (by decide);refine⟨_,aD (aZ (cn (jP (bF (aJ dN hr (bM (pv 1)))) (jP (bF (aJ dD hr (bM (pv 2)))) (jO (bF (aJ dD hr (bM (pv 3))))))).pt) (aE (aH (aU (bM (aQ c2))))) aN) (aD (aZ (bF (aJ dT hr (bM (pv 0)))) (aE (aH (aU (bM (aQ c5))))) aN) (aD (zS 5 Tt.nd (aJ dG hr (bM (pv 4)))) (aD (aZ (aY tJ (pv 5) iA) (aE (aH (aU (bM (aQ c9))))) aN) (aD (aZ (b9 (fB hu (pv 1) (aL (pv 0) rfl))) (aE (aH (aU (bM (aQ c4))))) aN) (aD (aZ (aY eO (bA g8 (by rfl) T.dZ ajK (bM (aL (pv 0) rfl))) (aQ cM)) (aE (aH (aU (bM (aQ c6))))) aN) (aD (ee hu (aL (pv 0) rfl) (pv 1) (mZ cR hr (T9 (pv 1) (pv 2) (pv 3) (pv 5) (aL (pv 0) rfl))) rfl) (aE (aH (aU (cY (aQ c0) (bA g8 (by rfl) T.dZ ajK (bM (aL (pv 0) rfl))))))))))))),?_⟩;have bad:(isId n&&(isDay i&&isDay d))=false->([V.int (-2)]:List V).length<=sizeLine/\∀p,H p=none->Q (.ref p) (upd H p (.lst [V.int (-2)])):=fun z=>bQ hH hQ (aC.refl H) (by rw[fz,ai5 z]);refine⟨_,Z,n,Z,_,Z,aO (fun h1=>?_) (fun h1=>?_)⟩
  case refine_2=>exact aO (fun _=>bad (by rw[akX.mpr h1];rfl)) (fun z=>absurd rfl z)
  refine⟨_,Z,i,Z,_,Z,aO (fun h2=>?_) (fun h2=>?_)⟩
  case refine_2=>exact aO (fun _=>bad (by rw[akX.mpr h2,akB,akp])) (fun z=>absurd rfl z)
  refine⟨_,Z,d,Z,_,Z,aO (fun h3=>?_) (fun h3=>?_)⟩
  .exact bad (by have HI:isDay d=false:=(by simpa using h3);rw[HI,akp,akp])
  have HI:isDay d=true:=(by simpa using h3);have fF:¬(isId n&&(isDay i&&isDay d))=false:=(by rw[h1,h2,HI];exact fun z=>nomatch z);refine⟨_,Z,a,st,fp,Z,hH,fun H0 s0=>⟨_,Z,aO (fun hc=>?_) (fun hc=>?_)⟩⟩
  .exact bQ hH hQ s0 (by rw[fz,ai0 fF,ai5 hc])
  refine⟨_,Z,ra,row,Z,Qg H0 s0,ic,fun hg H1 La=>?_,fun gs hg H1 gl ls La Vo pY jz aah agE bits fD=>?_⟩
  .have s1:aC H H1:=aC.trans s0 La;refine⟨_,Z,Z,_,Z,aO (fun _=>?_) (fun z=>absurd rfl z)⟩;exact bQ hH hQ s1 (by rw[fz,ai0 fF,ai0 hc,hg])
  have s1:aC H H1:=aC.trans s0 La;refine⟨_,Z,Z,_,Z,aO nofun (fun _=>?_)⟩;have nn:=ia h1;have hP:Paired (fR C H) pk st.papers:=Paired.a8 e8 fun _ _ z=>z.on iU;obtain⟨v1,v2⟩:=gh (C:=C) (H:=H) n.toNat hP;rw[<-nn]at v1 v2;refine⟨_,Z,_,Z,a,_,dx,fs,_,Z,s1 _ _ e1,T.cH,n1,e4,pd,_,Z,ba.k (k:=Sum.inl n) (s1 _ _ e7),_,Z,?_⟩;cases hp:st.papers.find? fun r=>r.id==n.toNat with
  |some r=>
   obtain⟨ra,hv,_⟩:=v2 r hp;rw[hv];refine aO (fun _=>?_) (fun z=>absurd rfl z);exact bQ hH hQ s1 (by rw[fz,ai0 fF,ai0 hc,hg];show(if(st.papers.any fun p=>p.id==n.toNat)=true then _ else _)=_;rw[ai5 (by rw[jE,hp];rfl)])
  |none=>
   rw[v1 hp];refine aO nofun (fun _=>?_);have Ko:¬(st.papers.any fun p=>p.id==n.toNat)=true:=(by rw[jE,hp];exact fun z=>nomatch z);have hlen:pk.length=st.papers.length:=Paired.length e8;refine⟨_,Z,a,_,dx,fs,_,Z,s1 _ _ e1,T.cH,n1,e4,pd,pk,Z,s1 _ _ e7,Z,_,Z,aO (fun hf=>?_) (fun hf=>?_)⟩
   .have hf':pk.length=24:=(by have z:=aja hf;injection z with z;omega);exact bQ hH hQ s1 (by rw[fz,ai0 fF,ai0 hc,hg];show(if(st.papers.any fun p=>p.id==n.toNat)=true then _ else _)=_;rw[ai0 Ko,ai5 (show Vbkoac.PAPERS<=st.papers.length by show 24<=_;omega)])
   .have EA:=nS hH.ok (.paper n i d row);have lt:st.papers.length<24:=(by have l0:=hH.ok.pf;have:pk.length≠24:=fun z=>hf (ai8 (by rw[z];rfl));omega);have lx:Vbkoac.step st (.paper n i d row)=({st with papers:=st.papers++[⟨n.toNat,i.toNat,d.toNat,gs,st.today⟩]},[0,Int.ofNat (st.papers.length+1)]):=(by rw[fz,ai0 fF,ai0 hc,hg];show(if(st.papers.any fun p=>p.id==n.toNat)=true then _ else _)=_;rw[ai0 Ko,ai0 (show¬Vbkoac.PAPERS<=st.papers.length by show¬24<=_;omega)]);rw[lx]at EA hQ;refine⟨_,Z,_,Z,_,Z,_,Z,_,Z,a,_,dx,fs,_,Z,s1 _ _ e1,T.cH,n2,e3,?_⟩;refine fun x NW hx HG jZ=>EH (H1:=H1) (C:=C.paper) (fs:=pz) (n:=5) (vs:=[V.int n,V.int i,V.int d,V.ref gl,V.int (st.today:Nat)]) rfl hx HG jZ fun H2 s2 Lf aaH VH=>⟨Z,?_⟩;have b0:aC H H2:=aC.trans s1 s2;refine⟨_,Z,a,_,dx,fs,_,Z,b0 _ _ e1,T.cH,n1,e4,_,Z,pd,_,Z,ji.k (k:=Sum.inl n) (b0 _ _ e7) (by rw[ai6];omega),?_⟩;have RY:putK pk (Sum.inl n) (V.ref x)=pk++[(Sum.inl n,V.ref x)]:=L2.iz _ (v1 hp);rw[RY];have agO:=s1 _ _ iU;have SK:∀b o,H2 b=some o->b≠dl->off H2 dl b=some o:=(fun b o e ne=>by show upd H2 dl _ b=_;rw[aB ne];exact e);have Vu:=b0 _ _ iU;have Z9:fH C (off H2 dl) x ⟨n.toNat,i.toNat,d.toNat,gs,st.today⟩:=by
     refine⟨⟨NW,_,gl,SK _ _ Lf (ak Lf Vu nofun),?_,?_,?_,Z,Z,ls,SK _ _ (s2 _ _ pY) (fun z=>?_),?_⟩,bits,fD⟩
     .show List.lookup _ (pz [V.int n,V.int i,V.int d,V.ref gl,V.int (st.today:Nat)])=some (V.int (n.toNat:Int));rw[<-nn];rfl
     .show List.lookup _ (pz [V.int n,V.int i,V.int d,V.ref gl,V.int (st.today:Nat)])=some (V.int (i.toNat:Int));rw[<-dv h2];rfl
     .show List.lookup _ (pz [V.int n,V.int i,V.int d,V.ref gl,V.int (st.today:Nat)])=some (V.int (d.toNat:Int));rw[<-dv HI];rfl
     .rw[z,s0 _ _ iU]at Vo;cases Vo
     .have key:∀{ls:List Addr} {gs:List (List Nd)},Paired (aT H1) ls gs->(∀x∈ls,H0 x=none)->Paired (aT (off H2 dl)) ls gs:=by
       intro ls gs hP
       induction hP with
       |nil=>intro _;exact .nil
       | @cons b g bs gs' g1 g2 ih=>
        intro hn;obtain⟨as,q1,q2⟩:=g1;refine .cons ⟨as,SK _ _ (s2 _ _ q1) (fun z=>?_),Paired.a8 q2 fun y _ z=>SK _ _ (s2 _ _ z) (ak (s2 _ _ z) Vu nofun)⟩ (ih fun x hx=>hn x (aiS _ hx));have:=hn b (aiV ..);rw[z,s0 _ _ iU]at this;cases this
      exact key jz aah
    have V6:=(hH.same (aC.x b0)).paper (b0 _ _ e1) e4 e6 (b0 _ _ e7) Z9 EA;have jn:((Sum.inl ((n.toNat:Nat):Int),V.ref x):Key×V)=(Sum.inl n,V.ref x):=(by rw[<-nn]);rw[show pk++[((Sum.inl ((n.toNat:Nat):Int),V.ref x):Key×V)]=pk++[(Sum.inl n,V.ref x)] by rw[jn]]at V6;have Mu:a≠pd:=ak e1 e7 nofun;refine⟨_,Z,a,_,dx,fs,_,Z,(by rw[aB Mu];exact b0 _ _ e1),T.cH,n1,e4,pd,_,Z,aA,(zL rfl),fun l hl=>?_⟩;have OP:l≠pd:=(fun z=>by rw[z,aA]at hl;cases hl);have ky:H2 l=none:=(by rw[aB OP]at hl;exact hl);have mv:=aC.free b0 ky;have s3:=aC.upd (o:= .lst [V.int 0,V.int ((pk++[((Sum.inl n,V.ref x):Key×V)]).length:Int)]) (aC.refl _) hl;have KY:(pk++[((Sum.inl n,V.ref x):Key×V)]).length=st.papers.length+1:=(by rw[aiT,hlen];rfl);refine hQ _ l fp ⟨fun b o e nb=>?_,fun b hb=> .inl hb⟩ (V6.same (aC.x s3)) mv (fun hm=>?_) ?_ (by show 2<=1000000;decide)
    .rw[aB (aG e mv),aB (fun q=>nb (by rw[q,r6];exact aiS _ (aiV ..)))];exact b0 _ _ e
    .obtain⟨o,ho⟩:=hH.there hm;rw[mv]at ho;cases ho
    .show upd _ _ _ l=some (.lst (([0,Int.ofNat (st.papers.length+1)]:List Int).map V.int));rw[aA,KY];rfl
end
def xK(C:Cs)(ok:Call->Prop):Sp:=fun vs H Q _=>∃a s fp ca c,vs=[.ref a,.ref ca]/\aW C H a s fp/\ig C H ca c/\ok c/\(bJ c).length<=200/\∀H' l nG,Lo H H' fp nG->aW C H' a (Vbkoac.step s c).1 nG->H l=none->l∉nG->fU H' l (Vbkoac.step s c).2->(Vbkoac.step s c).2.length<=1000000->Q (.ref l) H'
def wL(c:Call):Prop:=0<=fk c/\fk c<=3
theorem eQ{x y:Int}(h:x≠y):¬decide (V.int x=V.int y)=true:=fun z=>h (by have:=aja z;injection this)
section
variable{K:W.Frag}
abbrev JC:=top 128
theorem IX:aM ["house","call","numbers"] ["house","call"] (aF JC):=dc
theorem Mi(F:bL "answer_telling" JC)(T:Txt K mg C)(dD:cO 5 "tell_day" ["house","day"] (gS C OU))(dP:cO 5 "tell_paper" ["house","number","first","last","row"] (gS C (EF K)))(dR:cO 5 "tell_revocation" ["house","number","paper","since"] (gS C OT))(dB:cO 5 "take_back" ["house","number"] (gS C J0)) (c0:Num mg "DAY" 0)(c1:Num mg "PAPER" 1)(c2:Num mg "REVOKE" 2):de 6 ["house","call"] (xK C wL):=by
 refine d9 IX
 .obtain⟨a,s,fp,ca,c,rfl,_⟩:=h;rfl
 .obtain⟨a,st,fp,ca,c,rfl,hH,hC,bK,ic,hQ⟩:=h;obtain⟨dx,fs,nl,rl,e1,e2,e3,e4,e5,e6⟩:=hC.ex;have n1:=T.nC "numbers" (by decide);have n2:=T.nC "number" (by decide);have n3:=T.nC "row" (by decide);refine⟨_,aD (zS 2 IX.nd (aL (pv 1) rfl)) (aD (aZ (aY eO (aL (pv 1) rfl) (aQ c0)) (aE (aH (aJ dD hr (cY (pv 0) (af aX (pv 2) aK))))) aN) (aD (aZ (aY eO (aL (pv 1) rfl) (aQ c1)) (aE (aH (aJ dP hr (T9 (pv 0) (af aX (pv 2) aK) (af aX (pv 2) aK) (af aX (pv 2) aK) (aL (pv 1) rfl))))) aN) (aD (aZ (aY eO (aL (pv 1) rfl) (aQ c2)) (aE (aH (aJ dR hr (G5 (pv 0) (af aX (pv 2) aK) (af aX (pv 2) aK) (af aX (pv 2) aK))))) aN) (aE (aH (aJ dB hr (cY (pv 0) (af aX (pv 2) aK)))))))),?_⟩;refine⟨_,Z,ca,_,dx,fs,_,Z,e1,T.cC,n1,e3,?_⟩;cases c with
  |day k=>
   refine⟨_,Z,ca,_,dx,fs,_,Z,e1,T.cC,n2,e2,Z,_,Z,aO (fun _=>?_) (fun z=>absurd (ai8 rfl) z)⟩;exact⟨_,Z,_,Z,nl,_,_,_,Z,Z,ae.of e5,aS (j:=0) rfl,a,st,fp,_,_,Z,⟨k,Z,Z⟩,hH,hQ⟩
  |paper i b d l=>
   refine⟨_,Z,ca,_,dx,fs,_,Z,e1,T.cC,n2,e2,Z,_,Z,aO (fun z=>absurd z (eQ (show(1:Int)≠0 by decide))) (fun _=>?_)⟩;refine⟨_,Z,ca,_,dx,fs,_,Z,e1,T.cC,n2,e2,Z,_,Z,aO (fun _=>?_) (fun z=>absurd (ai8 rfl) z)⟩;exact⟨_,Z,_,Z,nl,_,_,_,Z,Z,ae.of e5,aS (j:=0) rfl,_,Z,nl,_,_,_,Z,Z,ae.of e5,aS (j:=1) rfl,_,Z,nl,_,_,_,Z,Z,ae.of e5,aS (j:=2) rfl,_,Z,ca,_,dx,fs,_,Z,e1,T.cC,n3,e4,a,st,fp,_,_,Z,⟨i,b,d,rl,l,Z,Z,ae.of e6,ic,fun H' s'=>ae.of (s' _ _ e6)⟩,hH,hQ⟩
  |revoke n i d=>
   refine⟨_,Z,ca,_,dx,fs,_,Z,e1,T.cC,n2,e2,Z,_,Z,aO (fun z=>absurd z (eQ (show(2:Int)≠0 by decide))) (fun _=>?_)⟩;refine⟨_,Z,ca,_,dx,fs,_,Z,e1,T.cC,n2,e2,Z,_,Z,aO (fun z=>absurd z (eQ (show(2:Int)≠1 by decide))) (fun _=>?_)⟩;refine⟨_,Z,ca,_,dx,fs,_,Z,e1,T.cC,n2,e2,Z,_,Z,aO (fun _=>?_) (fun z=>absurd (ai8 rfl) z)⟩;exact⟨_,Z,_,Z,nl,_,_,_,Z,Z,ae.of e5,aS (j:=0) rfl,_,Z,nl,_,_,_,Z,Z,ae.of e5,aS (j:=1) rfl,_,Z,nl,_,_,_,Z,Z,ae.of e5,aS (j:=2) rfl,a,st,fp,_,_,Z,⟨n,i,d,Z,Z⟩,hH,hQ⟩
  |back n=>
   refine⟨_,Z,ca,_,dx,fs,_,Z,e1,T.cC,n2,e2,Z,_,Z,aO (fun z=>absurd z (eQ (show(3:Int)≠0 by decide))) (fun _=>?_)⟩;refine⟨_,Z,ca,_,dx,fs,_,Z,e1,T.cC,n2,e2,Z,_,Z,aO (fun z=>absurd z (eQ (show(3:Int)≠1 by decide))) (fun _=>?_)⟩;refine⟨_,Z,ca,_,dx,fs,_,Z,e1,T.cC,n2,e2,Z,_,Z,aO (fun z=>absurd z (eQ (show(3:Int)≠2 by decide))) (fun _=>?_)⟩;exact⟨_,Z,_,Z,nl,_,_,_,Z,Z,ae.of e5,aS (j:=0) rfl,a,st,fp,_,_,Z,⟨n,Z,Z⟩,hH,hQ⟩
  |_=>exact absurd bK.2 (by show¬(_:Int)<=3;dsimp only[fk];omega)
end
open PM (fS)
section
variable{K:W.Frag}
abbrev Br:=top 102
theorem xV:aM ["decisions","decision"] ["decisions"] (aF Br):=dc
def Mt(x:Nat×Decision):Nd:=(x.2.id,x.2.day)
def DX(C:Cs):Sp:=fun vs H Q _=>∃a ds xs,vs=[.ref a]/\H a=some (.lst (ds.map V.ref))/\Paired (fT C H) ds xs/\xs.length<=1000/\∀H' l,aC H H'->H l=none->aT H' l (xs.map Mt)->Q (.ref l) H'
theorem Jj(F:bL "pairs_of" Br)(T:Txt K mg C):de 1 ["decisions"] (DX C):=by
 refine d9 xV
 .obtain⟨ka,ds,xs,rfl,_⟩:=h;rfl
 .obtain⟨dl,ds,xs,rfl,uq,hP,hlen,hQ⟩:=h;refine⟨_,aE (aH (fw (own:=[("decision",1)]) rfl xV.nd (ax (pv 0)) (cV rfl) (fun _ _ _ _ _=>zG 1 xV.nd) (fun _ _ _ _ _=>eZ) (fun _ _ _ _ _=>cZ (cY (eF (K:=K) (pv 1) rfl) (eF (K:=K) (pv 1) rfl))))),?_⟩;have rD:ds.length=xs.length:=Paired.length hP;refine⟨_,Z,dl,Z,⟨_,ae.of uq⟩,fun D hD=>eG (K:=K) (a:=dl) (xs:=ds.map V.ref) (fun i H'=>∃as,aC H H'/\H' D=some (.lst (as.map V.ref))/\aI H' as ((xs.take i).map Mt)) ⟨[],zU hD,aA,.nil⟩ (fun i H' _ ⟨_,s1,_⟩=>ae.of (s1 _ _ uq)) ?_ ?_⟩
  .rintro i y H1 hi ⟨as,s1,kC,has⟩;obtain⟨b,hb,rfl⟩:=bT hi;obtain⟨x,hx,CW⟩:=aR hP hb;obtain⟨dy,gs,pZ,g1,g2,g3,g4,g5⟩:=(CW.same (aC.x s1)).ex;refine⟨Z,?_⟩;dsimp only[nQ];rw[ai5 rfl];refine⟨_,Z,b,_,dy,gs,_,Z,pZ,T.cD,T.yY,g2,_,Z,b,_,dy,gs,_,Z,pZ,T.cD,T.yY,g3,(zL rfl),fun t ht=>?_⟩;have Fw:D≠t:=aG kC ht;refine⟨_,(by rw[aB Fw];exact kC),?_,as++[t],aC.upd (aC.upd s1 (aC.free s1 ht)) hD,?_,?_⟩
   .rw[aiQ,Paired.length has,aiQ,ajb,ai6];omega
   .rw[aA,aiY];rfl
   .rw[aa hx,aiY];refine aI.upd (aI.snoc (n:=(x.2.id,x.2.day)) aA (aI.upd has (by rw[ht];exact True.intro))) (by rw[aB Fw,kC];exact True.intro)
  .rintro H1 ⟨as,s1,kC,has⟩;rw[aiQ,rD,ai9]at has;exact hQ H1 D s1 hD ⟨as,kC,has⟩
abbrev xh:=top 97
theorem sf:aM ["house","paper","day","stood","number"] ["house","paper","day"] (aF xh):=dc
def mkDecide:List V->Call->Hp->Prop:=fun us c _=>∃i d,us=[.int i,.int d]/\c= .decide_ i d
theorem kP(s:State)(i d:Int):Vbkoac.step s (.decide_ i d)=asked s i d (Int.ofNat s.today) fun _ i e=>if Vbkoac.DECISIONS<=s.decisions.length then(s,[-6])else
  let x:Decision:=⟨i,e,s.today,answerAt s s.today i e⟩
  ({s with decisions:=s.decisions++[x],closed:=true},0::Vbkoac.ints [s.decisions.length+1,x.answer]):=rfl
theorem aW.decided(h:aW C H a s fp){x:Addr}{fs:List (Str×V)}{xs:List V}{r:Decision}(e:H a=some (.ins C.cw dx fs))(er:Fd fs "decisions" (.ref dl))(ek:H dl=some (.lst xs))(hx:fT C H x (s.decisions.length+1,r))(ok:jh {s with decisions:=s.decisions++[r],closed:=true}):aW C (upd H dl (.lst (xs++[V.ref x]))) a {s with decisions:=s.decisions++[r],closed:=true} fp:=by
 obtain⟨WQ,WC,pd,rd,yp,pk,rk,ds,q1,q2,q3,q4,q5,q6,q7,q8,q9,Dt,vv,Ds,BD,B3⟩:=h.ex;rw[e]at q1;cases q1;obtain rfl:yp=dl:=by have z:fs.lookup _=some (V.ref dl):=er;rw[show fs.lookup _=some (V.ref yp)from q6]at z;cases z;rfl
 rw[ek]at vv;cases vv;have na:a≠yp:=ak e ek nofun;have np:pd≠yp:=ak q7 ek nofun;have nr:rd≠yp:=ak q9 ek nofun;refine⟨⟨dx,fs,pd,rd,yp,pk,rk,ds++[x],by rw[aB na];exact e,q2,q3,q4,q5,q6,by rw[aB np];exact q7,?_,by rw[aB nr];exact q9,?_,by rw[aA,aiY];rfl,?_,BD,B3⟩,ok⟩
 .have eo:off (upd H yp (.lst (ds.map V.ref++[V.ref x]))) yp=off H yp:=eX;rw[eo];exact q8
 .exact Paired.a8 Dt fun _ _ z=>z.put (by rw[ek];exact True.intro)
 .show Paired _ _ (numbered (s.decisions++[r]));rw[u6];exact bC (hx.put (by rw[ek];exact True.intro)) (Paired.a8 Ds fun _ _ z=>z.put (by rw[ek];exact True.intro))
theorem Fl(F:bL "decide" xh)(T:Txt K mg C)(dD:gz 7)(dN:cB 7)(dS:iE 7)(dK:dg 7)(cD:jt P w K mg base 6 "Decision" C.dec ["self","number","paper","day","stood","made"] (fY C.dec Cy 5)) (c2:Num mg "OUT_OF_RANGE" (-2))(c0:Num mg "ACCEPTED" 0)(c6:Num mg "FULL" (-6))(cM:Num mg "MOST_DECISIONS" 30):de 8 ["house","paper","day"] (gS C mkDecide):=by
 refine d9 sf
 .obtain⟨a,s,fp,us,c,rfl,⟨i,d,rfl,_⟩,_⟩:=h;rfl
 .obtain⟨a,st,fp,us,c,rfl,⟨i,d,rfl,rfl⟩,hH,hQ⟩:=h;have hu:=bu hr;obtain⟨dx,fs,pd,rd,dl,pk,rk,ds,e1,e2,e3,e4,e5,e6,e7,e8,e9,o9,iU,iT,wo,r6⟩:=hH.ex;have n1:=T.nH "decisions" (by decide);have n2:=T.nH "today" (by decide);refine⟨_,aD (aZ (cn (jP (bF (aJ dN hr (bM (pv 1)))) (jO (bF (aJ dD hr (bM (pv 2)))))).pt) (aE (aH (aU (bM (aQ c2))))) aN) (aD (aZ (aY eO (bA az (by rfl) T.dZ ajK (bM (aL (pv 0) rfl))) (aQ cM)) (aE (aH (aU (bM (aQ c6))))) aN) (aD (zS 3 sf.nd (aJ dS hr (cY (aJ dK hr (cY (pv 0) (aL (pv 0) rfl))) (cZ (cY (pv 1) (pv 2)))))) (aD (zS 4 sf.nd (cE gC (bA az (by rfl) T.dZ ajK (bM (aL (pv 0) rfl))) aK)) (aD (bp (fN aju ajM ajL cN (aL (pv 0) rfl) (bM (mZ cD hr (T9 (pv 4) (pv 1) (pv 2) (pv 3) (aL (pv 0) rfl)))))) (aE (aH (aU (ny (aQ c0) (pv 4) (i5 (bF (pv 3)) aK aK))))))))),?_⟩;have Ke:kU st (st.today:Int)=0:=(by unfold kU;rw[hH.ok.td,ai0 nofun,ai0 (by omega)]);have RE:isId i=true->isDay d=true->fV st i d (st.today:Int)=0:=(fun h1 h2=>by unfold fV qo;rw[h1,h2,ai0 nofun,ai0 nofun];exact Ke);have V1:(isId i=false\/isDay d=false)->Vbkoac.step st (.decide_ i d)=(st,[-2]):=(fun z=>by rw[kP];unfold asked;rw[ai5 (by rcases z with z|z<;>rw[z]<;>simp)]);refine⟨_,Z,i,Z,_,Z,aO (fun h1=>?_) (fun h1=>?_)⟩
  case refine_2=>exact aO (fun _=>bQ hH hQ (aC.refl H) (V1 (.inl (akX.mpr h1)))) (fun z=>absurd rfl z)
  refine⟨_,Z,d,Z,_,Z,aO (fun h3=>?_) (fun h3=>?_)⟩
  .exact bQ hH hQ (aC.refl H) (V1 (.inr (by simpa using h3)))
  have h2:isDay d=true:=(by simpa using h3);have rD:ds.length=st.decisions.length:=(by rw[Paired.length iT,ff]);have yes:=cb (RE h1 h2);refine⟨_,Z,a,_,dx,fs,_,Z,e1,T.cH,n1,e6,dl,_,Z,.inl (ae.of iU),Z,_,Z,aO (fun hf=>?_) (fun hf=>?_)⟩
  .have hf':(ds.map V.ref).length=30:=(by have z:=aja hf;injection z with z;omega);rw[aiQ]at hf';exact bQ hH hQ (aC.refl H) (by rw[kP,show asked st i d (Int.ofNat st.today) _=_ from yes _,ai5 (show Vbkoac.DECISIONS<=st.decisions.length by show 30<=_;omega)])
  have lt:st.decisions.length<30:=(by have l0:=hH.ok.df;have:(ds.map V.ref).length≠30:=fun z=>hf (ai8 (by rw[z];rfl));rw[aiQ]at this;omega);have EA:=nS hH.ok (.decide_ i d);have lx:Vbkoac.step st (.decide_ i d)=({st with decisions:=st.decisions++[⟨i.toNat,d.toNat,st.today,answerAt st st.today i.toNat d.toNat⟩],closed:=true},0::Vbkoac.ints [st.decisions.length+1,answerAt st st.today i.toNat d.toNat]):=(by rw[kP,show asked st i d (Int.ofNat st.today) _=_ from yes _,ai0 (show¬Vbkoac.DECISIONS<=st.decisions.length by show¬30<=_;omega)]);rw[lx]at EA hQ;have ni:=ia h1;have nd:=dv h2;refine⟨_,Z,_,Z,a,_,dx,fs,_,Z,e1,T.cH,n2,e3,a,st,fp,st.today,Z,hH,fun H1 kb s1 Of Ei=>?_⟩;refine⟨_,Z,_,Z,(zL rfl),fun t ht=>?_⟩;have s2:aC H1 (upd H1 t (.tup [V.int i,V.int d])):=zU ht;have hT:TupAt (upd H1 t (.tup [V.int i,V.int d])) t (i.toNat,d.toNat):=(by show upd H1 t _ t=some (.tup [V.int (i.toNat:Int),V.int (d.toNat:Int)]);rw[aA,<-ni,<-nd]);refine⟨kb,_,t,(i.toNat,d.toNat),Z,Ei.same (aC.x s2),fg hH.ok st.today,hT,fun H2 s3=>?_⟩;have b0:aC H H2:=aC.trans s1 (aC.trans s2 s3);refine⟨_,Z,a,_,dx,fs,_,Z,b0 _ _ e1,T.cH,n1,e6,dl,_,Z,.inl (ae.of (b0 _ _ iU)),_,_,Z,Z,?_⟩;refine⟨_,Z,a,_,dx,fs,_,Z,b0 _ _ e1,T.cH,n1,e6,.inl ⟨Z,_,ae.of (b0 _ _ iU)⟩,?_⟩;refine⟨_,Z,_,Z,_,Z,_,Z,_,Z,a,_,dx,fs,_,Z,b0 _ _ e1,T.cH,n2,e3,?_⟩;refine fun x NW hx HG jZ=>EH (H1:=H2) (C:=C.dec) (fs:=Cy) (n:=5) (vs:=[V.int (((ds.map V.ref).length:Int)+1),V.int i,V.int d,V.bl (standsOn (knownAt st st.today) i.toNat d.toNat),V.int (st.today:Nat)]) rfl hx HG jZ fun H3 s4 Uu agM VH=>⟨Z,?_⟩;have eJ:aC H H3:=aC.trans b0 s4;refine⟨dl,_,_,Z,Z,eJ _ _ iU,(by rw[aiQ,ai6];omega),?_⟩;have aaI:fT C H3 x (st.decisions.length+1,⟨i.toNat,d.toNat,st.today,answerAt st st.today i.toNat d.toNat⟩):=by
   refine⟨NW,_,Uu,?_,?_,?_,?_,Z⟩
   .show List.lookup _ (Cy [V.int (((ds.map V.ref).length:Int)+1),V.int i,V.int d,V.bl (standsOn (knownAt st st.today) i.toNat d.toNat),V.int (st.today:Nat)])=some (V.int ((st.decisions.length+1:Nat):Int));rw[aiQ,rD];rfl
   .show List.lookup _ (Cy [V.int (((ds.map V.ref).length:Int)+1),V.int i,V.int d,V.bl (standsOn (knownAt st st.today) i.toNat d.toNat),V.int (st.today:Nat)])=some (V.int (i.toNat:Int));rw[<-ni];rfl
   .show List.lookup _ (Cy [V.int (((ds.map V.ref).length:Int)+1),V.int i,V.int d,V.bl (standsOn (knownAt st st.today) i.toNat d.toNat),V.int (st.today:Nat)])=some (V.int (d.toNat:Int));rw[<-nd];rfl
   .show List.lookup _ (Cy [V.int (((ds.map V.ref).length:Int)+1),V.int i,V.int d,V.bl (standsOn (knownAt st st.today) i.toNat d.toNat),V.int (st.today:Nat)])=some (V.bl (answerAt st st.today i.toNat d.toNat==1));unfold answerAt;cases standsOn (knownAt st st.today) i.toNat d.toNat<;>rfl
  have V5:=(hH.same (aC.x eJ)).decided (eJ _ _ e1) e6 (eJ _ _ iU) aaI EA;have key:∀(z:Int),z=(answerAt st st.today i.toNat d.toNat:Nat)->∀l,upd H3 dl (.lst (ds.map V.ref++[V.ref x])) l=none->Q (.ref l) (upd (upd H3 dl (.lst (ds.map V.ref++[V.ref x]))) l (.lst [V.int 0,V.int (((ds.map V.ref).length:Int)+1),V.int z])):=fun z hz l hl=>by
   have OP:l≠dl:=(fun z=>by rw[z,aA]at hl;cases hl);have ym:H3 l=none:=(by rw[aB OP]at hl;exact hl);have mv:=aC.free eJ ym;have s5:=aC.upd (o:= .lst [V.int 0,V.int (((ds.map V.ref).length:Int)+1),V.int z]) (aC.refl _) hl;refine hQ _ l fp ⟨fun b o e nb=>?_,fun b hb=> .inl hb⟩ (V5.same (aC.x s5)) mv (fun hm=>?_) ?_ (by show 3<=1000000;decide)
   .rw[aB (aG e mv),aB (fun q=>nb (by rw[q,r6];exact aiS _ (aiS _ (aiS _ (aiV ..)))))];exact eJ _ _ e
   .obtain⟨o,ho⟩:=hH.there hm;rw[mv]at ho;cases ho
   .show upd _ _ _ l=some (.lst (((0::Vbkoac.ints [st.decisions.length+1,answerAt st st.today i.toNat d.toNat]:List Int)).map V.int));rw[aA,hz,aiQ,rD];rfl
  refine⟨_,Z,_,Z,_,Z,?_⟩;have ea:answerAt st st.today i.toNat d.toNat=if standsOn (knownAt st st.today) i.toNat d.toNat=true then 1 else 0:=rfl
  refine aO (fun hs=>?_) (fun hs=>?_)
  .exact⟨zL rfl,key 1 (by rw[ea,ai5 hs];rfl)⟩
  .exact⟨zL rfl,key 0 (by rw[ea,ai0 hs];rfl)⟩
end
def gm(s:State)(k:Nat)(x:Nat×Decision):Bool:=answerAt s k x.2.id x.2.day !=x.2.answer
theorem DB{k:Nat}{x:Nat×Decision}(h:x.2.answer=0\/x.2.answer=1):(standsOn (knownAt s k) x.2.id x.2.day !=(x.2.answer==1))=gm s k x:=by unfold gm answerAt;cases standsOn (knownAt s k) x.2.id x.2.day<;>rcases h with h|h<;>rw[h]<;>rfl
section
variable{K:W.Frag}
abbrev Pw:=top 101
theorem Di:aM ["house","decisions","day","standing","one"] ["house","decisions","day"] (aF Pw):=dc
def OE(C:Cs):Sp:=fun vs H Q _=>∃a s fp l ds xs k,vs=[.ref a,.ref l,.int (k:Nat)]/\aW C H a s fp/\H l=some (.lst (ds.map V.ref))/\Paired (fT C H) ds xs/\xs.length<=1000/\(∀x∈xs,x.2.answer=0\/x.2.answer=1)/\∀H' l' Sw,aC H H'->H l'=none->H' l'=some (.lst (Sw.map V.ref))->Paired (fT C H') Sw (xs.filter (gm s k))->Q (.ref l') H'
theorem QH(F:bL "changed_as_known_at" Pw)(T:Txt K mg C)(dR:cT 6)(dK:dg 6)(dP:qW 6):de 7 ["house","decisions","day"] (OE C):=by
 refine d9 Di
 .obtain⟨a,st,fp,l,ds,xs,k,rfl,_⟩:=h;rfl
 .obtain⟨a,st,fp,dl,ds,xs,k,rfl,hH,uq,hP,hlen,h01,hQ⟩:=h;have hu:=bu hr;refine⟨_,aD (gT (i:=3) Di.nd rfl (Or.inr rfl) (aJ dR hr (cY (aJ dK hr (cY (pv 0) (pv 2))) (aJ dP hr (bM (pv 1)))))) (aE (aH (fw (own:=[("one",4)]) rfl Di.nd (ax (pv 1)) (cV rfl) (fun _ _ _ _ _=>zG 4 Di.nd) (fun _ _ _ _ _=>gI (aY n8 (kZ (fB hu (cZ (cY (eF (K:=K) (pv 4) rfl) (eF (K:=K) (pv 4) rfl))) (pv 3))) (eF (K:=K) (pv 4) rfl))) (fun _ _ _ _ _=>pv 4)))),?_⟩;refine⟨_,Z,_,Z,a,st,fp,k,Z,hH,fun H1 kb s1 Of Ei=>?_⟩;refine⟨_,Z,dl,ds,xs,Z,s1 _ _ uq,Paired.a8 hP fun _ _ z=>z.same (aC.x s1),hlen,fun H2 l s2 hl ky=>?_⟩;have ok:=fg hH.ok k;refine⟨kb,_,l,xs.map Mt,Z,Ei.same (aC.x s2),ok,ky,(by rw[aiQ];exact hlen),fun H3 rd R s3 jm Qj RI=>?_⟩;have eJ:aC H H3:=aC.trans s1 (aC.trans s2 s3);have rD:ds.length=xs.length:=Paired.length hP;refine⟨_,Z,dl,Z,⟨_,ae.of (eJ _ _ uq)⟩,fun D hD=>eG (K:=K) (a:=dl) (xs:=ds.map V.ref) (fun i H'=>∃as,aC H3 H'/\H' D=some (.lst (as.map V.ref))/\Paired (fT C H') as ((xs.take i).filter (gm st k))) ⟨[],zU hD,aA,.nil⟩ (fun i H' _ ⟨_,s4,_⟩=>ae.of (s4 _ _ (eJ _ _ uq))) ?_ ?_⟩
  .rintro i y H4 hi ⟨as,s4,nF,has⟩;obtain⟨b,hb,rfl⟩:=bT hi;obtain⟨x,hx,CW⟩:=aR hP hb;have SQ:=ai1 hx;have G8:fT C H4 b x:=(CW.same (aC.x eJ)).same (aC.x s4);obtain⟨dy,gs,pZ,g1,g2,g3,g4,g5⟩:=G8.ex;refine⟨Z,?_⟩;refine⟨_,Z,b,_,dy,gs,_,Z,pZ,T.cD,T.yY,g2,_,Z,b,_,dy,gs,_,Z,pZ,T.cD,T.yY,g3,(zL rfl),fun t ht=>?_⟩;have Fw:D≠t:=aG nF ht;have yB:=s4 _ _ Qj;have UX:rd≠t:=aG yB ht;refine⟨_,Z,rd,_,Z,ba.t (k:=bZ (x.2.id,x.2.day)) (by rw[aB UX];exact yB) aA,?_⟩;rw[dm,aj2];have e:inR R (x.2.id,x.2.day)=standsOn (knownAt st k) x.2.id x.2.day:=dw.inR ok (RI.rk (x.2.id,x.2.day) (ai7.mpr ⟨x,SQ,rfl⟩)) (bq _ (x.2.id,x.2.day));have s5:aC H4 (upd H4 t (.tup ((bZ (x.2.id,x.2.day)).map kV))):=zU ht;refine⟨_,Z,b,_,dy,gs,_,Z,s5 _ _ pZ,T.cD,T.yY,g4,Z,_,Z,?_⟩;have ev:(!decide (V.bl (inR R (x.2.id,x.2.day))=V.bl (x.2.answer==1)))=gm st k x:=(by rw[C2,e,<-DB (h01 x SQ)];rfl);show(if(!decide (V.bl (inR R (x.2.id,x.2.day))=V.bl (x.2.answer==1)))=true then _ else _);rw[ev];have s35:=aC.trans s4 s5;have V2:Paired (fT C (upd H4 t (.tup ((bZ (x.2.id,x.2.day)).map kV)))) as ((xs.take i).filter (gm st k)):=Paired.a8 has fun _ _ z=>z.same (aC.x s5);refine aO (fun h1=>?_) (fun h1=>?_)
   .have Oi:=s5 _ _ nF;refine⟨_,Z,_,Oi,?_,as++[b],aC.upd s35 hD,?_,?_⟩
    .rw[aiQ,Paired.length has,ai6];have z:=ajk (gm st k) (xs.take i);rw[ajb]at z;omega
    .rw[aA,aiY];rfl
    .rw[bX _ hx,ai5 h1];exact bC ((G8.same (aC.x s5)).put (by rw[Oi];exact True.intro)) (Paired.a8 V2 fun _ _ z=>z.put (by rw[Oi];exact True.intro))
   .refine⟨as,s35,s5 _ _ nF,?_⟩;rw[bX _ hx,ai0 h1,ajs];exact V2
  .rintro H4 ⟨as,s4,nF,has⟩;rw[aiQ,rD,ai9]at has;exact hQ H4 D as (aC.trans eJ s4) (aC.free eJ hD) nF has
end
def ir(s:State):List Nat:=(PM.lY s).foldr Vbkoac.insert_ []
def pr(s:State)(x:Nat×Decision)(k:Nat):Bool:=decide (x.2.known<k)&&gm s k x
theorem xp(s:State)(x:Nat×Decision):otherwise s x.2=(ir s).find? (pr s x):=rfl
theorem tu(x:Nat):∀l:List Nat,(Vbkoac.insert_ x l).length<=l.length+1
 | []=>ai2 _
 |y::l=>by
  have ih:=tu x l;unfold Vbkoac.insert_;split
  .exact ai2 _
  .split
   .omega
   .rw[ajc,ajc];omega
theorem uG:∀l:List Nat,(l.foldr Vbkoac.insert_ []).length<=l.length
 | []=>ai2 _
 |x::l=>by have:=tu x (l.foldr Vbkoac.insert_ []);have:=uG l;rw[List.foldr_cons,ajc];omega
theorem FR(ok:jh s):(ir s).length<=64:=by
 refine ajq (uG _) ?_;unfold PM.lY;rw[aiT,aiQ];have h1:∀l:List Revoke,(l.flatMap fun r=>r.heard::r.back.toList).length<=2*l.length:=fun l=>by
  induction l with
  |nil=>simp
  |cons r l ih=>
   rw[ajD,aiT,ajc,ajc];have:r.back.toList.length<=1:=(by cases r.back<;>simp);omega
 have:=h1 s.revokes;have:=ok.pf;have:=ok.rf;omega
theorem xw{x:Nat×Decision}(hx:x∈numbered l)(hy:y∈numbered l)(e:x.1=y.1):x=y:=by
 obtain⟨i,hi⟩:=amm hx;obtain⟨j,hj⟩:=amm hy;obtain⟨_,a⟩:=gj hi;obtain⟨_,b⟩:=gj hj;obtain rfl:i=j:=by omega
 rw[hi]at hj;cases hj;rfl
theorem xt{x:Nat×Decision}(hx:x∈numbered l):x.2∈l:=by obtain⟨i,hi⟩:=amm hx;exact ai1 (gj hi).1
def lu(x:Nat×Decision):Key:=Sum.inl (x.1:Int)
def FD(s:State)(j:Nat)(aP:List (Key×V)):Prop:=∀x∈numbered s.decisions,bc aP (lu x)=(((ir s).take j).find? (pr s x)).map fun k:Nat=>V.int (k:Int)
def un(k:Nat)(aP:List (Key×V))(x:Nat×Decision):Bool:=decide (x.2.known<k)&& !(bc aP (lu x)).isSome
def xE(s:State)(k:Nat)(aP:List (Key×V)):List (Nat×Decision):=((numbered s.decisions).filter (un k aP)).filter (gm s k)
def We(s:State)(k:Nat)(aP:List (Key×V))(i:Nat)(iZ:List (Key×V)):Prop:=∀x∈numbered s.decisions,(x∈(xE s k aP).take i->bc iZ (lu x)=some (.int (k:Nat)))/\(x∉(xE s k aP).take i->bc iZ (lu x)=bc aP (lu x))
theorem We.step{k:Nat}(h:We s k aP i iZ)(hy:(xE s k aP)[i]?=some y):We s k aP (i+1) (putK iZ (lu y) (.int (k:Nat))):=by
 intro x hx;have hym:y∈numbered s.decisions:=(ajy.mp (ajy.mp (ai1 hy)).1).1;rw[HZ,aa hy];by_cases e:lu x=lu y
 .have ex:x=y:=xw hx hym (by unfold lu at e;injection e with e;omega);rw[ai5 e];exact⟨fun _=>rfl,fun z=>absurd (ajh.mpr (.inr (by rw[ex];exact aiU.mpr rfl))) z⟩
 .rw[ai0 e];have ne:x≠y:=fun z=>e (by rw[z]);refine⟨fun z=>(h x hx).1 ?_,fun z=>(h x hx).2 fun z2=>z (ajh.mpr (.inl z2))⟩;rcases ajh.mp z with z|z
  .exact z
  .exact absurd (aiU.mp z) ne
theorem FD.step{j k:Nat}(h:FD s j aP)(hk:(ir s)[j]?=some k)(h':We s k aP (xE s k aP).length iZ):FD s (j+1) iZ:=by
 intro x hx;obtain⟨a,b⟩:=h' x hx;rw[ai9]at a b;have h0:=h x hx;rw[aa hk,alG];cases q:((ir s).take j).find? (pr s x)with
 |some k0=>
  rw[q]at h0;have nx:x∉xE s k aP:=(fun z=>by have z:=(ajy.mp (ajy.mp z).1).2;unfold un at z;rw[h0]at z;simp at z);rw[b nx,h0];rfl
 |none=>
  rw[q]at h0;have hm:x∈xE s k aP↔pr s x k=true:=(by unfold xE;rw[ajy,ajy];have eu:un k aP x=decide (x.2.known<k):=(by unfold un;rw[h0];simp);rw[eu];unfold pr;rw[ajn];exact⟨fun z=>⟨z.1.2,z.2⟩,fun z=>⟨⟨hx,z.1⟩,z.2⟩⟩);by_cases hp:pr s x k=true
  .rw[a (hm.mpr hp),ajG,hp];rfl
  .rw[b (fun z=>hp (hm.mp z)),h0,ajG,akX.mpr hp];rfl
section
variable{K:W.Frag}
abbrev Pu:=top 99
theorem vk:aM ["house","first_days","day","unchanged","one","decision"] ["house"] (aF Pu):=dc
def Tr(C:Cs):Sp:=fun vs H Q _=>∃a s fp,vs=[.ref a]/\aW C H a s fp/\∀H' l,aC H H'->H l=none->H' l=some (.lst (ah (ir s)))->Q (.ref l) H'
def OD(C:Cs):Sp:=fun vs H Q _=>∃a s fp,vs=[.ref a]/\aW C H a s fp/\∀H' d aP,aC H H'->H d=none->H' d=some (.dK aP)->FD s (ir s).length aP->Q (.ref d) H'
theorem QG(F:bL "days_of_change" Pu)(T:Txt K mg C)(dH:cO 7 "days_heard" ["house"] (Tr C))(dC:cO 7 "changed_as_known_at" ["house","decisions","day"] (OE C)):de 8 ["house"] (OD C):=by
 refine d9 vk
 .obtain⟨a,st,fp,rfl,_⟩:=h;rfl
 .obtain⟨a,st,fp,rfl,hH,hQ⟩:=h;have hu:=bu hr;obtain⟨dx,fs,pd,rd,dl,pk,rk,ds,e1,e2,e3,e4,e5,e6,e7,e8,e9,o9,iU,iT,wo,r6⟩:=hH.ex;have n1:=T.nH "decisions" (by decide);refine⟨_,aD (gT (i:=1) vk.nd rfl (Or.inr rfl) nq) (aD (bU ajm rfl (ax (aJ dH hr (bM (pv 0)))) (D2 (i:=2) vk.nd rfl (Or.inr rfl)) (aD (kX (i:=3) (own:=[("one",4)]) rfl vk.nd rfl rfl rfl (ax (aL (pv 0) rfl)) (cV rfl) (fun _ _ _ _ _=>zG 4 vk.nd) (fun _ _ _ _ _=>gI (jP (aY n9 (eF (K:=K) (pv 4) rfl) (pv 2)) (jO (b9 (cJ hu (eF (K:=K) (pv 4) rfl) (pv 1))))).pt) (fun _ _ _ _ _=>pv 4)) (aE (bU ajm rfl (ax (aJ dC hr (ny (pv 0) (pv 3) (pv 2)))) (zG 5 vk.nd) (aE (ee hu (pv 1) (aL (pv 5) rfl) (pv 2) rfl)))))) (aE (aH (pv 1)))),?_⟩;intro d hd;have s0:aC H (upd H d (.dK [])):=zU hd;have rD:ds.length=(numbered st.decisions).length:=Paired.length iT;have Ua:(numbered st.decisions).length<=30:=(by rw[ff];exact hH.ok.df);refine⟨_,Z,a,st,fp,Z,hH.same (aC.x s0),fun H1 ld La XZ GI=>?_⟩;have s1:aC H H1:=aC.trans s0 La;have SK:d≠ld:=(fun q=>by rw[<-q,aA]at XZ;cases XZ);refine⟨ld,Z,⟨_,ae.of GI⟩,bO (K:=K) (a:=ld) (xs:=ah (ir st)) (fun j σ H'=>∃(v2 v3 v4 v5:Option V) (aP:List (Key×V)),σ=[some (.ref a),some (.ref d),v2,v3,v4,v5]/\aC H H'/\H' d=some (.dK aP)/\H' ld=some (.lst (ah (ir st)))/\FD st j aP/\aP.length<=30*j) ⟨none,none,none,none,[],Z,s1,La _ _ aA,GI,fun x _=>rfl,ajo _⟩ (fun j σ H' _ ⟨_,_,_,_,_,_,_,_,hl,_⟩=>ae.of hl) ?_ ?_⟩
  .rintro j y σ H2 hj ⟨v2,v3,v4,v5,aP,rfl,s2,hd2,VX,RU,kl2⟩;obtain⟨k,hk,rfl⟩:∃k:Nat,(ir st)[j]?=some k/\y=V.int (k:Int):=by
    unfold ah at hj;rw[ajd]at hj;cases q:(ir st)[j]? with
    |none=>rw[q]at hj;cases hj
    |some k=>rw[q]at hj;exact⟨k,Z,(ajr hj).symm⟩
   have WO:=s2 _ _ iU;refine⟨_,Z,a,_,dx,fs,_,Z,s2 _ _ e1,T.cH,n1,e6,dl,Z,⟨_,ae.of WO⟩,fun D hD=>eG (K:=K) (a:=dl) (xs:=ds.map V.ref) (fun i H'=>∃as,aC H2 H'/\H' D=some (.lst (as.map V.ref))/\Paired (fT C H') as (((numbered st.decisions).take i).filter (un k aP))) ⟨[],zU hD,aA,.nil⟩ (fun i H' _ ⟨_,s4,_⟩=>ae.of (s4 _ _ WO)) ?_ ?_⟩
   .rintro i y H4 hi ⟨as,s4,nF,has⟩;obtain⟨b,hb,rfl⟩:=bT hi;obtain⟨x,hx,CW⟩:=aR iT hb;have SQ:=ai1 hx;have G8:fT C H4 b x:=(CW.same (aC.x s2)).same (aC.x s4);obtain⟨dy,gs,pZ,g1,g2,g3,g4,g5⟩:=G8.ex;have hd4:=s4 _ _ hd2;have skip:un k aP x=false->∃as,aC H2 H4/\H4 D=some (.lst (as.map V.ref))/\Paired (fT C H4) as (((numbered st.decisions).take (i+1)).filter (un k aP)):=fun z=>⟨as,s4,nF,by
     rw[bX _ hx,ai0 (by rw[z];exact fun q=>nomatch q),ajs];exact has⟩
    refine⟨Z,?_⟩;refine⟨_,Z,b,_,dy,gs,_,Z,pZ,T.cD,T.yY,g5,_,Z,_,_,Z,Z,_,Z,aO (fun h1=>?_) (fun h1=>?_)⟩
    .have lt:x.2.known<k:=(by have:=aja h1;omega);refine⟨_,Z,b,_,dy,gs,_,Z,pZ,T.cD,T.yY,g1,_,Z,d,_,Z,ba.k (k:=lu x) hd4,_,Z,?_⟩;have eu:un k aP x= !(bc aP (lu x)).isSome:=(by unfold un;rw[ai8 lt];rfl);refine aO (fun h2=>?_) (fun h2=>?_)
     .refine⟨_,Z,_,nF,?_,as++[b],aC.upd s4 hD,?_,?_⟩
      .rw[aiQ,Paired.length has,ai6];have z:=ajk (un k aP) ((numbered st.decisions).take i);rw[ajb]at z;omega
      .rw[aA,aiY];rfl
      .rw[bX _ hx,ai5 (by rw[eu];exact h2)];exact bC (G8.put (by rw[nF];exact True.intro)) (Paired.a8 has fun _ _ z=>z.put (by rw[nF];exact True.intro))
     .exact skip (by rw[eu];exact akX.mpr h2)
    .refine aO nofun (fun _=>skip ?_);have:¬x.2.known<k:=fun z=>h1 (ai8 (by omega));unfold un;rw[ajl this];rfl
   .rintro H4 ⟨as,s4,nF,has⟩;rw[aiQ,rD,ai9]at has;have R8:aC H H4:=aC.trans s2 s4;have f30:((numbered st.decisions).filter (un k aP)).length<=30:=ajq (ajk _ _) Ua;refine⟨_,Z,_,Z,_,Z,a,st,fp,D,as,_,k,Z,hH.same (aC.x R8),nF,has,(by omega),fun x hx=>hH.ok.da _ (xt (ajy.mp hx).1),fun H5 lc Sw s5 hlc Qv Vt=>?_⟩;have hd5:=s5 _ _ (s4 _ _ hd2);have s25:aC H H5:=aC.trans R8 s5;have X7:Sw.length=(xE st k aP).length:=Paired.length Vt;have y30:(xE st k aP).length<=30:=ajq (ajk _ _) f30;have Fs:lc≠d:=ak Qv hd5 nofun;refine⟨lc,Z,⟨_,ae.of Qv⟩,bO (K:=K) (a:=lc) (xs:=Sw.map V.ref) (fun i σ H'=>∃(v5:Option V) (iZ:List (Key×V)),σ=[some (.ref a),some (.ref d),some (.int (k:Nat)),some (.ref D),v4,v5]/\H'=upd H5 d (.dK iZ)/\We st k aP i iZ/\iZ.length<=30*j+i) ⟨v5,aP,Z,(xF hd5).symm,fun x hx=>⟨nofun,fun _=>rfl⟩,kl2⟩ (fun i σ H' _ ⟨_,_,_,eH,_⟩=>ae.of (by rw[eH,aB Fs];exact Qv)) ?_ ?_⟩
    .rintro i y σ H6 hi ⟨YA,iZ,rfl,rfl,hI,hl⟩;obtain⟨b,hb,rfl⟩:=bT hi;obtain⟨x,hx,CW⟩:=aR Vt hb;have Zd:fT C (upd H5 d (.dK iZ)) b x:=CW.put (by rw[hd5];exact True.intro);obtain⟨dy,gs,pZ,g1,g2,g3,g4,g5⟩:=Zd.ex;have jl:=FR hH.ok;have jlt:j<(ir st).length:=(ai3.mp hk).1;have ilt:i<Sw.length:=(ai3.mp hb).1;refine⟨_,Z,_,Z,_,Z,b,_,dy,gs,_,Z,pZ,T.cD,T.yY,g1,d,_,Z,ji.k (k:=lu x) aA (by rw[ai6];omega),?_⟩;refine⟨_,_,Z,eX,hI.step hx,?_⟩;have:=iS iZ (lu x) (V.int (k:Int));omega
    .rintro σ H6 ⟨YA,iZ,rfl,rfl,hI,hl⟩;rw[aiQ,X7]at hI hl;refine⟨_,_,_,_,iZ,Z,aC.upd s25 hd,aA,?_,RU.step hk hI,by omega⟩;rw[aB (ajC SK)];exact s5 _ _ (s4 _ _ VX)
  .rintro σ H2 ⟨v2,v3,v4,v5,aP,rfl,s2,hd2,VX,RU,kl2⟩;refine⟨_,Z,hQ H2 d aP s2 hd hd2 ?_⟩;unfold ah at RU;rw[aiQ]at RU;exact RU
end
theorem xr(l:List Decision):numbered l=l.zipIdx.map fun x=>(x.2+1,x.1):=by
 apply amM
 .simp[numbered]
 .intro i h1 h2;simp[numbered]
def gA(s:State)(x:Nat×Decision):List Int:=match otherwise s x.2 with
 |none=>[]
 |some k=>[(x.1:Int),(k:Int),(answerAt s s.today x.2.id x.2.day:Int)]
theorem jC{f g:α->List β}{l:List α}(h:∀x,f x=g x):l.flatMap f=l.flatMap g:=by rw[show f=g from funext h]
theorem y8(s:State):Vbkoac.step s .review=(s,0::(numbered s.decisions).flatMap (gA s)):=by
 show(s,0::Vbkoac.ints (s.decisions.zipIdx.flatMap fun x=>match otherwise s x.1 with
  |none=>[]
  |some k=>[x.2+1,k,answerAt s s.today x.1.id x.1.day]))=_
 rw[xr,List.flatMap_map];unfold Vbkoac.ints;rw[al0];congr 2;refine jC fun x=>?_;unfold gA;dsimp only;cases otherwise s x.1<;>rfl
theorem B6(s:State)(x:Nat×Decision):(gA s x).length<=3:=by
 unfold gA;cases otherwise s x.2 with
 |none=>exact ajo _
 |some k=>exact ai2 _
theorem vz(s:State):∀l:List (Nat×Decision),(l.flatMap (gA s)).length<=3*l.length
 | []=>ajo _
 |x::l=>by rw[ajD,aiT,ajc];have:=B6 s x;have:=vz s l;omega
section
variable{K:W.Frag}
abbrev xW:=top 98
theorem iu:aM ["house","first_days","standing","row","decision","stands"] ["house"] (aF xW):=dc
def zo:List V->Call->Hp->Prop:=fun us c _=>us=[]/\c= .review
theorem Fc(F:bL "review" xW)(T:Txt K mg C)(dD:cO 8 "days_of_change" ["house"] (OD C))(dR:cT 8)(dK:dg 8)(dP:qW 8)(c0:Num mg "ACCEPTED" 0):de 9 ["house"] (gS C zo):=by
 refine d9 iu
 .obtain⟨a,st,fp,us,c,rfl,⟨rfl,_⟩,_⟩:=h;rfl
 .obtain⟨a,st,fp,us,c,rfl,⟨rfl,rfl⟩,hH,hQ⟩:=h;have hu:=bu hr;obtain⟨dx,fs,pd,rd,dl,pk,rk,ds,e1,e2,e3,e4,e5,e6,e7,e8,e9,o9,iU,iT,wo,r6⟩:=hH.ex;have n1:=T.nH "decisions" (by decide);have n2:=T.nH "today" (by decide);refine⟨_,aD (zS 1 iu.nd (aJ dD hr (bM (pv 0)))) (aD (zS 2 iu.nd (aJ dR hr (cY (aJ dK hr (cY (pv 0) (aL (pv 0) rfl))) (aJ dP hr (bM (aL (pv 0) rfl)))))) (aD (zS 3 iu.nd (aU (bM (aQ c0)))) (aD (bU ajm rfl (ax (aL (pv 0) rfl)) (zG 4 iu.nd) (aE (aZ (b9 (fB hu (aL (pv 4) rfl) (pv 1))) (aD (zS 5 iu.nd (kZ (fB hu (cZ (cY (aL (pv 4) rfl) (aL (pv 4) rfl))) (pv 2)))) (aE (bp (fN aju akn akm gv (pv 3) (bM (aU (ny (aL (pv 4) rfl) (dq hu (pv 1) (aL (pv 4) rfl)) (i5 (bF (pv 5)) aK aK)))))))) aN))) (aE (aH (pv 3)))))),?_⟩;rw[y8]at hQ;have Ua:(numbered st.decisions).length<=30:=(by rw[ff];exact hH.ok.df);have rD:ds.length=(numbered st.decisions).length:=Paired.length iT;refine⟨_,Z,a,st,fp,Z,hH,fun H1 WH aP s1 Xg aaD hFD=>?_⟩;refine⟨_,Z,_,Z,a,_,dx,fs,_,Z,s1 _ _ e1,T.cH,n2,e3,a,st,fp,st.today,Z,hH.same (aC.x s1),fun H2 kb s2 Of Cq=>?_⟩;have b0:=aC.trans s1 s2;refine⟨_,Z,a,_,dx,fs,_,Z,b0 _ _ e1,T.cH,n1,e6,dl,ds,_,Z,b0 _ _ iU,Paired.a8 iT fun _ _ z=>z.same (aC.x b0),(by omega),fun H3 l s3 hl ym=>?_⟩;have ok:=fg hH.ok st.today;refine⟨kb,_,l,(numbered st.decisions).map Mt,Z,Cq.same (aC.x s3),ok,ym,(by rw[aiQ];omega),fun H4 sd R s4 hsd KI RI=>?_⟩;have nE:aC H H4:=aC.trans b0 (aC.trans s3 s4);have aaC:=s4 _ _ (s3 _ _ (s2 _ _ aaD));refine⟨(zL rfl),fun r yB=>?_⟩;have s5:aC H4 (upd H4 r (.lst [V.int 0])):=zU yB;have G4:=aC.trans nE s5;have nY:∀i,((0:Int)::((numbered st.decisions).take i).flatMap (gA st)).length<=91:=(fun i=>by have:=vz st ((numbered st.decisions).take i);rw[ajb]at this;rw[ajc];omega);refine⟨_,Z,a,_,dx,fs,_,Z,G4 _ _ e1,T.cH,n1,e6,dl,Z,⟨_,ae.of (G4 _ _ iU)⟩,bO (K:=K) (a:=dl) (xs:=ds.map V.ref) (fun i σ H'=>∃(v4 v5:Option V),σ=[some (.ref a),some (.ref WH),some (.ref sd),some (.ref r),v4,v5]/\aC H4 H'/\H' r=some (.lst (((0:Int)::((numbered st.decisions).take i).flatMap (gA st)).map V.int))) ⟨none,none,Z,s5,aA⟩ (fun i σ H' _ ⟨_,_,_,s6,_⟩=>ae.of (s6 _ _ (nE _ _ iU))) ?_ ?_⟩
  .rintro i y σ H6 hi ⟨v4,v5,rfl,s6,HA⟩;obtain⟨b,hb,rfl⟩:=bT hi;obtain⟨x,hx,CW⟩:=aR iT hb;have SQ:=ai1 hx;have W2:=aC.trans nE s6;have Zd:fT C H6 b x:=CW.same (aC.x W2);obtain⟨dy,gs,pZ,g1,g2,g3,g4,g5⟩:=Zd.ex;have Vr:=s6 _ _ aaC;have hv:=hFD x SQ;rw[ai9,<-xp]at hv;refine⟨_,Z,b,_,dy,gs,_,Z,pZ,T.cD,T.yY,g1,_,Z,WH,_,Z,ba.k (k:=lu x) Vr,_,Z,?_⟩;have tk:((numbered st.decisions).take (i+1)).flatMap (gA st)=((numbered st.decisions).take i).flatMap (gA st)++gA st x:=(by rw[aa hx,aj9];simp);cases ho:otherwise st x.2 with
   |none=>
    rw[ho]at hv;rw[hv];refine aO nofun (fun _=>?_);refine⟨_,_,Z,s6,?_⟩;rw[tk];unfold gA;rw[ho,ajs];exact HA
   |some k=>
    rw[ho]at hv;rw[hv];refine aO (fun _=>?_) (fun z=>absurd rfl z);refine⟨_,Z,b,_,dy,gs,_,Z,pZ,T.cD,T.yY,g2,_,Z,b,_,dy,gs,_,Z,pZ,T.cD,T.yY,g3,(zL rfl),fun t ht=>?_⟩;have s7:aC H6 (upd H6 t (.tup ((bZ (x.2.id,x.2.day)).map kV))):=zU ht;refine⟨_,Z,sd,_,Z,ba.t (k:=bZ (x.2.id,x.2.day)) (s7 _ _ (s6 _ _ KI)) aA,?_⟩;rw[dm,aj2];have e:inR R (x.2.id,x.2.day)=standsOn (knownAt st st.today) x.2.id x.2.day:=dw.inR ok (RI.rk (x.2.id,x.2.day) (ai7.mpr ⟨x,SQ,rfl⟩)) (bq _ (x.2.id,x.2.day));have ea:answerAt st st.today x.2.id x.2.day=if inR R (x.2.id,x.2.day)=true then 1 else 0:=by rw[e];rfl
    have Lj:=s7 _ _ HA;have key:∀z:Int,z=(answerAt st st.today x.2.id x.2.day:Nat)->∀q,upd H6 t (.tup ((bZ (x.2.id,x.2.day)).map kV)) q=none->∃l b xs zs,V.ref r= .ref l/\[V.ref q]=[.ref b]/\upd (upd H6 t (.tup ((bZ (x.2.id,x.2.day)).map kV))) q (.lst [V.int (x.1:Nat),V.int (k:Nat),V.int z]) l=some (.lst xs)/\upd (upd H6 t (.tup ((bZ (x.2.id,x.2.day)).map kV))) q (.lst [V.int (x.1:Nat),V.int (k:Nat),V.int z]) b=some (.lst zs)/\xs.length+zs.length<=sizeLine/\aC H4 (upd (upd (upd H6 t (.tup ((bZ (x.2.id,x.2.day)).map kV))) q (.lst [V.int (x.1:Nat),V.int (k:Nat),V.int z])) l (.lst (xs++zs)))/\upd (upd (upd H6 t (.tup ((bZ (x.2.id,x.2.day)).map kV))) q (.lst [V.int (x.1:Nat),V.int (k:Nat),V.int z])) l (.lst (xs++zs)) r=some (.lst (((0:Int)::((numbered st.decisions).take (i+1)).flatMap (gA st)).map V.int)):=fun z hz q hq=>by
     have nrq:r≠q:=aG Lj hq;have X6:=nY i;refine⟨r,q,_,_,Z,Z,(by rw[aB nrq];exact Lj),aA,(by rw[aiQ,ai6];show _+3<=_;omega),?_,?_⟩
     .exact aC.upd (aC.upd (aC.trans s6 s7) (aC.free (aC.trans s6 s7) hq)) yB
     .rw[aA,tk];unfold gA;rw[ho,hz,<-akj,aiY];rfl
    refine⟨_,Z,.inl ⟨Z,_,ae.of Lj⟩,?_⟩;refine⟨_,Z,b,_,dy,gs,_,Z,s7 _ _ pZ,T.cD,T.yY,g1,_,Z,_,Z,b,_,dy,gs,_,Z,s7 _ _ pZ,T.cD,T.yY,g1,WH,_,Z,(by rw[show(some (V.int (k:Nat)):Option V)=bc aP (lu x) by rw[hv];rfl];exact ba.k (k:=lu x) (s7 _ _ Vr)),?_⟩;refine⟨_,Z,_,Z,?_⟩;refine aO (fun h1=>?_) (fun h1=>?_)
    .refine⟨(zL rfl),fun q hq=>?_⟩;obtain⟨l',b',X8,X5,k1,k2,k3,k4,k5,k6,k7⟩:=key 1 (by rw[ea,ai5 (show inR R (x.2.id,x.2.day)=true from h1)];rfl) q hq;exact⟨l',b',X8,X5,k1,k2,k3,k4,k5,_,_,Z,k6,k7⟩
    .refine⟨(zL rfl),fun q hq=>?_⟩;obtain⟨l',b',X8,X5,k1,k2,k3,k4,k5,k6,k7⟩:=key 0 (by rw[ea,ai0 (show¬inR R (x.2.id,x.2.day)=true from h1)];rfl) q hq;exact⟨l',b',X8,X5,k1,k2,k3,k4,k5,_,_,Z,k6,k7⟩
  .rintro σ H6 ⟨v4,v5,rfl,s6,HA⟩;rw[aiQ,rD,ai9]at HA;have X6:=nY (numbered st.decisions).length;rw[ai9]at X6;have W2:=aC.trans nE s6;have hrH:=aC.free nE yB;refine⟨_,Z,hQ H6 r fp (Lo.of W2) (hH.same (aC.x W2)) hrH (fun hm=>?_) HA (ajq X6 (by decide))⟩;obtain⟨o,ho⟩:=hH.there hm;rw[hrH]at ho;cases ho
def tq:Call->Prop
 | .decide_ .. =>True| .review=>True|_=>False
abbrev JG:=top 96
theorem Pj:aM ["house","call"] ["house","call"] (aF JG):=dc
theorem Mn(F:bL "answer_decision" JG)(T:Txt K mg C)(dD:cO 9 "decide" ["house","paper","day"] (gS C mkDecide))(dR:cO 9 "review" ["house"] (gS C zo)) (c14:Num mg "DECIDE" 14):de 10 ["house","call"] (xK C tq):=by
 refine d9 Pj
 .obtain⟨a,s,fp,ca,c,rfl,_⟩:=h;rfl
 .obtain⟨a,st,fp,ca,c,rfl,hH,hC,bK,ic,hQ⟩:=h;obtain⟨dx,fs,nl,rl,e1,e2,e3,e4,e5,e6⟩:=hC.ex;have n1:=T.nC "numbers" (by decide);have n2:=T.nC "number" (by decide);refine⟨_,aD (aZ (aY eO (aL (pv 1) rfl) (aQ c14)) (aE (aH (aJ dD hr (ny (pv 0) (af aX (aL (pv 1) rfl) aK) (af aX (aL (pv 1) rfl) aK))))) aN) (aE (aH (aJ dR hr (bM (pv 0))))),?_⟩
  match c,bK with
  | .decide_ i d,_=>
   refine⟨_,Z,ca,_,dx,fs,_,Z,e1,T.cC,n2,e2,Z,_,Z,aO (fun _=>?_) (fun z=>absurd (ai8 rfl) z)⟩;exact⟨_,Z,_,Z,ca,_,dx,fs,_,Z,e1,T.cC,n1,e3,nl,_,_,_,Z,Z,ae.of e5,aS (j:=0) rfl,_,Z,ca,_,dx,fs,_,Z,e1,T.cC,n1,e3,nl,_,_,_,Z,Z,ae.of e5,aS (j:=1) rfl,a,st,fp,_,_,Z,⟨i,d,Z,Z⟩,hH,hQ⟩
  | .review,_=>
   refine⟨_,Z,ca,_,dx,fs,_,Z,e1,T.cC,n2,e2,Z,_,Z,aO (fun z=>absurd z (eQ (show(15:Int)≠14 by decide))) (fun _=>?_)⟩;exact⟨_,Z,a,st,fp,_,_,Z,⟨Z,Z⟩,hH,hQ⟩
end
def nL(ns:List Nd)(f t:Nat):List Nd:=match ns.getLast? with
 |some x=>if x.2+1=f then ns.dropLast++[(x.1,t)]else ns++[(f,t)]
 |none=>[(f,t)]
theorem jH(ms:List Nd)(x:Nd)(f t:Nat):nL (ms++[x]) f t=if x.2+1=f then ms++[(x.1,t)]else ms++[x]++[(f,t)]:=by unfold nL;rw[List.getLast?_append];simp
theorem nv{α β:Type}{R:α->β->Prop}{x:β}:∀{ms:List β} {as:List α},Paired R as (ms++[x])->∃bs b,as=bs++[b]/\Paired R bs ms/\R b x
 | [],as,h=>by
  cases h with
  |cons r t=>cases t;exact⟨[],_,Z,.nil,r⟩
 |y::ms,as,h=>by
  cases h with
  |cons r t=>
   obtain⟨bs,b,e,p,q⟩:=nv t;subst e;exact⟨_::bs,b,Z,.cons r p,q⟩
theorem iO{α:Type}:∀l:List α,l=[]\/∃m x,l=m++[x]
 | []=> .inl rfl
 |a::l=>by
  rcases iO l with e|⟨m,x,e⟩
  .exact .inr ⟨[],a,by rw[e];rfl⟩
  .exact .inr ⟨a::m,x,by rw[e];rfl⟩
theorem Ir(n d:Nat):HT.vn (n+1) d (some (-1))=n:=by show(if(-1:Int)<0 then((-1:Int)+((n+1:Nat):Int)).toNat else min (-1:Int).toNat (n+1))=n;rw[ai5 (by decide)];omega
section
variable{K:W.Frag}
abbrev Yd:=top 117
theorem YZ:aM ["stretches","first","last"] ["stretches","first","last"] (aF Yd):=dc
def Tf:Sp:=fun vs H Q _=>∃l ns f t,vs=[.ref l,.int (f:Nat),.int (t:Nat)]/\aT H l ns/\ns.length<=1000/\∀H' l',aC H H'->H l'=none->aT H' l' (nL ns f t)->Q (.ref l') H'
theorem UD(F:bL "with_stretch" Yd)(T:Txt K mg C):de 1 ["stretches","first","last"] Tf:=by
 refine d9 YZ
 .obtain⟨l,ns,f,t,rfl,_⟩:=h;rfl
 .obtain⟨l,ns,f,t,rfl,⟨as,hl,has⟩,hlen,hQ⟩:=h;refine⟨_,aD (aZ (jP (aY wB (bA az (by rfl) T.dZ ajK (bM (pv 0))) aK) (jO (aY eO (af cU (af aX (pv 0) (vy pE aK)) aK) (cE xq (pv 1) aK)))).pt (aE (aH (cE gB (i4 lQ (pv 0) Dv (gJ (vy pE aK))) (aU (bM (cZ (cY (af cU (af aX (pv 0) (vy pE aK)) aK) (pv 2)))))))) aN) (aE (aH (cE gB (pv 0) (aU (bM (cZ (cY (pv 1) (pv 2)))))))),?_⟩;have A3:as.length=ns.length:=Paired.length has;have plain:nL ns f t=ns++[(f,t)]->TJ (TM T6 (He 0) (TR (fX (TH (fX (He 1) (fX (He 2) uy))) uy))) ({nx:=fun _ H'=>Q .cW H',rt:=Q}:Ends) (L2.start ["stretches","first","last"] [V.ref l,V.int (f:Nat),V.int (t:Nat)]) H:=(fun e=>by refine⟨_,rfl,_,rfl,_,rfl,(zL rfl),fun b hb=>⟨(zL rfl),fun c hc=>?_⟩⟩;have s1:aC H (upd H b (.tup [V.int (f:Nat),V.int (t:Nat)])):=zU hb;have s2:aC (upd H b (.tup [V.int (f:Nat),V.int (t:Nat)])) (upd (upd H b (.tup [V.int (f:Nat),V.int (t:Nat)])) c (.lst [V.ref b])):=zU hc;refine⟨l,c,_,_,rfl,rfl,s2 _ _ (s1 _ _ hl),aA,(by rw[aiQ,ai6];show _+1<=_;omega),fun p hp=>?_⟩;have s3:=zU (o:= .lst (as.map V.ref++[V.ref b])) hp;have eJ:=aC.trans s1 (aC.trans s2 s3);refine hQ _ p eJ (aC.free (aC.trans s1 s2) hp) ?_;rw[e];refine⟨as++[b],by rw[aA,aiY];rfl,bC ?_ (has.same (aC.x eJ))⟩;exact s3 _ _ (s2 _ _ (show upd H b _ b=some (.tup ((bZ (f,t)).map kV))from aA)));refine⟨_,Z,l,_,Z,.inl (ae.of hl),_,_,Z,Z,_,Z,?_⟩;rcases iO ns with e|⟨ms,x,e⟩
  .have e0:as=[]:=(by subst e;cases has;rfl);subst e0;refine aO (fun z=>absurd z (by decide)) (fun _=>?_);refine aO nofun (fun _=>plain (by rw[e];rfl))
  .subst e;obtain⟨bs,b,rfl,ro,hb⟩:=nv has;have Ce:decide (((bs++[b]).map V.ref).length>(0:Int))=true:=(by refine ai8 ?_;rw[aiQ,aiT];show(0:Int)<((bs.length+1:Nat):Int);omega);have AH:Az ((bs++[b]).map V.ref) (-1)=some (V.ref b):=(by rw[aiY];exact Ay _ _);have pb:gF K H b [V.int (x.1:Nat),V.int (x.2:Nat)]:=gF.of hb;refine aO (fun _=>?_) (fun z=>absurd Ce z);refine⟨_,Z,_,Z,l,_,_,_,Z,Z,ae.of hl,AH,b,_,_,_,Z,Z,pb,aS (j:=1) rfl,_,Z,_,_,Z,Z,Z,_,Z,?_⟩;refine aO (fun h1=>?_) (fun h1=>?_)
   .have e1:x.2+1=f:=(by have z:=aja h1;injection z with z;omega);refine⟨_,Z,_,Z,_,Z,l,_,Z,ae.of hl,fun q hq=>?_⟩;have cut:jf ((bs++[b]).map V.ref) none (some (-1))=bs.map V.ref:=(by unfold jf;have n1:((bs++[b]).map V.ref).length=bs.length+1:=(by rw[aiQ,aiT];rfl);rw[n1,show HT.vn (bs.length+1) 0 none=0 from rfl,Ir,amn,aiY,Nat.sub_zero];exact ame (aiQ ..));rw[cut];have s1:aC H (upd H q (.lst (bs.map V.ref))):=zU hq;refine⟨_,Z,_,Z,l,_,_,_,Z,Z,ae.of (s1 _ _ hl),AH,b,_,_,_,Z,Z,gF.of (s1 _ _ hb),aS (j:=0) rfl,_,Z,(zL rfl),fun u hu=>⟨(zL rfl),fun c hc=>?_⟩⟩;have s2:=zU (o:= .tup [V.int (x.1:Nat),V.int (t:Nat)]) hu;have s3:=zU (o:= .lst [V.ref u]) hc;refine⟨q,c,_,_,Z,Z,s3 _ _ (s2 _ _ aA),aA,(by rw[aiT]at A3;have adI:bs.length+1=_:=A3;rw[aiQ,ai6];show _+1<=_;omega),fun p hp=>?_⟩;have s4:=zU (o:= .lst (bs.map V.ref++[V.ref u])) hp;have eJ:=aC.trans s1 (aC.trans s2 s3);have nE:=aC.trans eJ s4;refine hQ _ p nE (aC.free eJ hp) ?_;rw[jH,ai5 e1];refine⟨bs++[u],by rw[aA,aiY];rfl,bC ?_ (Paired.a8 ro fun _ _ z=>nE _ _ z)⟩;exact s4 _ _ (s3 _ _ (show upd _ u _ u=some (.tup ((bZ (x.1,t)).map kV))from aA))
   .have e1:¬x.2+1=f:=fun z=>h1 (ai8 (by rw[<-z];congr 1;omega));exact plain (by rw[jH,ai0 e1])
end
open Vbkoac (joined standsOn changing insert_)
def bo(h:Known):List Nat:=(changing h).foldr insert_ []
def m7(S:Nat->Bool)(acc:List Nd)(x:Nat×Nat):List Nd:=if S x.1=true then nL acc x.1 (x.2-1)else acc
def Tc(S:Nat->Bool)(ds:List Nat):List Nd:=(ds.zip (ds.drop 1)).foldl (m7 S) []
theorem fold_filter(S:Nat->Bool):∀(l:List (Nat×Nat)) (a:List Nd),l.foldl (m7 S) a=(l.filterMap fun x=>if S x.1=true then some (x.1,x.2-1)else none).foldl (fun acc y=>nL acc y.1 y.2) a
 | [],a=>rfl
 |x::l,a=>by
  rw[akG,ajZ,fold_filter S l];unfold m7;by_cases h:S x.1=true
  .rw[ai5 h,ai5 h];rfl
  .rw[ai0 h,ai0 h]
theorem z8(y:Nat×Nat)(r:List (Nat×Nat)):∃b q,joined (y::r)=(y.1,b)::q:=by
 rw[PM.fP];cases joined r with
 |nil=>exact⟨y.2,[],rfl⟩
 |cons z q=>
  by_cases h:y.2+1=z.1
  .exact⟨z.2,q,by simp only;rw[ai5 h]⟩
  .exact⟨y.2,z::q,by simp only;rw[ai0 h]⟩
theorem pj:∀(l:List (Nat×Nat)) (ms:List Nd) (x:Nd),l.foldl (fun acc y=>nL acc y.1 y.2) (ms++[x])=ms++joined (x::l)
 | [],ms,x=>rfl
 |y::r,ms,x=>by
  rw[akG,jH];by_cases h:x.2+1=y.1
  .rw[ai5 h,pj r];congr 1;rw[PM.fP x (y::r),PM.fP (x.1,y.2) r,PM.fP y r];cases joined r with
   |nil=>simp only;rw[ai5 h]
   |cons z q=>
    simp only;by_cases h2:y.2+1=z.1
    .rw[ai5 h2,ai5 h2];simp only;rw[ai5 h]
    .rw[ai0 h2,ai0 h2];simp only;rw[ai5 h]
  .rw[ai0 h,pj r,ajE];congr 1;rw[PM.fP x (y::r)];obtain⟨b,q,e⟩:=z8 y r;rw[show((y.1,y.2):Nd)=y from rfl,e];simp only;rw[ai0 h];rfl
theorem Ky(l:List (Nat×Nat)):l.foldl (fun acc y=>nL acc y.1 y.2) []=joined l:=by
 cases l with
 |nil=>rfl
 |cons y r=>
  rw[akG];exact pj r [] y
theorem HN(ds:List Nat)(E:Nat):(ds++[E]).zip ((ds++[E]).drop 1)=ds.zip (ds.drop 1++[E]):=by
 cases ds with
 |nil=>rfl
 |cons x r=>
  show((x::r)++[E]).zip (r++[E])=(x::r).zip (r++[E]);have:=amT (l₁:=x::r) (r₁:=[E]) (l₂:=r++[E]) (r₂:=[]) (by simp);rw[ajs]at this;rw[this];simp
theorem BS(ok:fS h)(i:Nat):Tc (fun d=>standsOn h i d) (bo h)=Vbkoac.spans h i:=by
 refine PM.fL.uniq (S:=fun d=>standsOn h i d) (lo:=0) ?_ (PM.Bb ok i);have own:∀d,standsOn h i d=true->∃a b,a∈bo h/\b+1∈bo h/\a<=d/\d<=b:=(fun d q=>by obtain⟨p,e,a,b,_⟩:=PM.pG ((PM.aj ok).mp q);have hp:=(PM.cG e).1;exact⟨p.from_,p.to_,PM.gw.mpr (aj1 _ (ajH.mpr ⟨p,hp,by simp⟩)),PM.gw.mpr (aj1 _ (ajH.mpr ⟨p,hp,by simp⟩)),a,b⟩);have FP:(bo h).Pairwise (·<·):=PM.fh;have mem:∀{y},y∈bo h↔y∈changing h:=PM.gw;unfold Tc;generalize bo h=ds at own FP mem;have Xx:∀d,¬standsOn h i d=true->standsOn h i d=false:=(fun d q=>by simpa using q);rcases iO ds with e|⟨es,E,e⟩
 .subst e;intro d _;exact Xx d fun q=>by obtain⟨a,b,h1,_⟩:=own d q;cases h1
 .subst e;rw[HN,fold_filter,Ky,PM.sY (fun d=>standsOn h i d)];rw[amj]at FP;have hi:∀y∈es++[E],y<=E:=fun y hy=>by
   rcases ajh.mp hy with z|z
   .exact aki (FP.2.2 y z E (aiU.mpr rfl))
   .rw[aiU.mp z];exact ai2 _
  have top:∀d,E<=d->standsOn h i d=false:=(fun d hd=>Xx d fun q=>by obtain⟨a,b,_,h2,_,h4⟩:=own d q;have:=hi _ h2;omega);cases es with
  |nil=>
   intro d _;exact Xx d fun q=>by obtain⟨a,b,h1,h2,h3,h4⟩:=own d q;have e1:a=E:=aiU.mp h1;have e2:b+1=E:=aiU.mp h2;omega
  |cons x es=>
   have lo:∀y∈(x::es)++[E],x<=y:=fun y hy=>by
    rcases ajh.mp hy with z|z
    .rcases aiZ.mp z with z|z
     .omega
     .exact aki ((ajV.mp FP.1).1 y z)
    .rw[aiU.mp z];exact aki (FP.2.2 x (aiV ..) E (aiU.mpr rfl))
   refine PM.fL.down (ajo x) (fun d _ q=>Xx d fun z=>by obtain⟨a,b,h1,h2,h3,h4⟩:=own d z;have:=lo a h1;omega) ?_;refine PM.pH top es x (PM.DE FP.1 fun y hy=>FP.2.2 y hy E (aiU.mpr rfl)) fun d e a b c q=>?_;refine PM.kQ ok fun z hz=>?_;constructor
   .intro k;omega
   .intro k;rcases ajh.mp (mem.mpr hz)with w|w
    .have:=q z w;omega
    .have:=aiU.mp w;omega
theorem E9(ns:List Nd)(f t:Nat):(nL ns f t).length<=ns.length+1:=by
 rcases iO ns with e|⟨m,x,e⟩
 .rw[e];exact ai2 _
 .rw[e,jH];split
  .rw[aiT,aiT];show _+1<=_+1+1;omega
  .rw[aiT];exact ai2 _
theorem ub(S:Nat->Bool):∀(l:List (Nat×Nat)) (a:List Nd),(l.foldl (m7 S) a).length<=a.length+l.length
 | [],a=>ai2 _
 |x::l,a=>by
  rw[akG,ajc];have h1:=ub S l (m7 S a x);have h2:(m7 S a x).length<=a.length+1:=by
   unfold m7;split
   .exact E9 _ _ _
   .omega
  omega
theorem FL(ok:fS h)(r:h.revokes.length<=20):(bo h).length<=68:=by
 refine ajq (uG _) ?_;unfold Vbkoac.changing;rw[aiT,aiQ];have h1:∀l:List Paper,(l.flatMap fun p=>[p.from_,p.to_+1]).length=2*l.length:=fun l=>by
  induction l with
  |nil=>rfl
  |cons p l ih=>rw[ajD,aiT,ih];show 2+2*l.length=2*(l.length+1);omega
 rw[h1];have:=ok.fD;omega
section
variable{K:W.Frag}
abbrev Po:=top 116
theorem nX:aM ["known","number","days","ranks","stretches","day","behind"] ["known","number"] (aF Po):=dc
def Ho(C:Cs):Sp:=fun vs H Q _=>∃ka h,vs=[.ref ka]/\aq C H ka h/\fS h/\h.revokes.length<=20/\∀H' l,aC H H'->H l=none->H' l=some (.lst (ah (bo h)))->Q (.ref l) H'
theorem QB(F:bL "stretches_of" Po)(T:Txt K mg C)(dT:cO 6 "turning_days" ["known"] (Ho C))(dR:cT 6)(dW:cO 6 "with_stretch" ["stretches","first","last"] Tf):de 7 ["known","number"] (N8 C):=by
 refine d9 nX
 .obtain⟨ka,h,n,rfl,_⟩:=h;rfl
 .obtain⟨ka,hh,n,rfl,hK,ok,Yy,hQ⟩:=h;have hu:=bu hr;refine⟨_,aD (zS 2 nX.nd (aJ dT hr (bM (pv 0)))) (aD (zS 3 nX.nd (aJ dR hr (bb (pv 0) (bb (fw (own:=[("day",5)]) rfl nX.nd (ax (pv 2)) (cV rfl) (fun _ _ _ _ _=>zG 5 nX.nd) (fun _ _ _ _ _=>eZ) (fun _ _ _ _ _=>cZ (cY (pv 1) (pv 5)))) cA)))) (aD (zS 4 nX.nd (aU cA)) (aD (bU ajm rfl (P4 rfl T.dZ (cY (pv 2) (i4 lQ (pv 2) (gJ aK) Dv))) (JT rfl (nj (zG 5 nX.nd) (nj (zG 6 nX.nd) D0))) (aE (aZ (b9 (fB hu (cZ (cY (pv 1) (pv 5))) (pv 3))) (aE (zS 4 nX.nd (aJ dW hr (ny (pv 4) (pv 5) (cE xq (pv 6) aK))))) aN))) (aE (aH (pv 4)))))),?_⟩;refine⟨_,Z,ka,hh,Z,hK,ok,Yy,fun H1 ld s1 XZ GI=>?_⟩;have tl:=FL ok Yy;have CC:∀{l:List Nat} {i:Nat} {y:V},(ah l)[i]?=some y->∃k:Nat,l[i]?=some k/\y=V.int (k:Int):=fun{l i y} hj=>by
   unfold ah at hj;rw[ajd]at hj;cases q:l[i]? with
   |none=>rw[q]at hj;cases hj
   |some k=>rw[q]at hj;exact⟨k,Z,(ajr hj).symm⟩
  refine⟨_,Z,_,Z,ld,Z,⟨_,ae.of GI⟩,fun D hD=>eG (K:=K) (a:=ld) (xs:=ah (bo hh)) (fun i H'=>∃as,aC H1 H'/\H' D=some (.lst (as.map V.ref))/\aI H' as (((bo hh).take i).map fun d=>(n,d))) ⟨[],zU hD,aA,.nil⟩ (fun i H' _ ⟨_,s2,_⟩=>ae.of (s2 _ _ GI)) ?_ ?_⟩
  .rintro i y H2 hi ⟨as,s2,qY,has⟩;obtain⟨k,hk,rfl⟩:=CC hi;refine⟨Z,?_⟩;dsimp only[nQ];rw[ai5 rfl];refine⟨_,Z,_,Z,(zL rfl),fun t ht=>?_⟩;have Fw:D≠t:=aG qY ht;refine⟨_,(by rw[aB Fw];exact qY),?_,as++[t],aC.upd (aC.upd s2 (aC.free s2 ht)) hD,?_,?_⟩
   .rw[aiQ,Paired.length has,aiQ,ajb,ai6];omega
   .rw[aA,aiY];rfl
   .rw[aa hk,aiY];refine aI.upd (aI.snoc (n:=(n,k)) aA (aI.upd has (by rw[ht];exact True.intro))) (by rw[aB Fw,qY];exact True.intro)
  rintro H2 ⟨as,s2,qY,has⟩;have tkl:(ah (bo hh)).length=(bo hh).length:=(by unfold ah;rw[aiQ]);rw[tkl,ai9]at has;have b0:=aC.trans s1 s2;refine⟨ka,hh,D,_,Z,hK.same (aC.x b0),ok,⟨as,qY,has⟩,(by rw[aiQ];omega),fun H3 rd R s3 jm Qj RI=>?_⟩;have inr:∀d∈bo hh,inR R (n,d)=standsOn hh n d:=fun d hd=>dw.inR ok (RI.rk (n,d) (ai7.mpr ⟨d,hd,rfl⟩)) (bq _ (n,d));have eJ:=aC.trans b0 s3;refine⟨(zL rfl),fun l0 Kb=>?_⟩;have s4:aC H3 (upd H3 l0 (.lst [])):=zU Kb;have KZ:=s4 _ _ (s3 _ _ (s2 _ _ GI));have KJ:=s4 _ _ Qj;refine⟨_,Z,_,Z,_,Z,ld,_,Z,ae.of KZ,fun l1 rh=>?_⟩;have cut:jf (ah (bo hh)) (some 1) none=ah ((bo hh).drop 1):=by
   unfold jf;rw[HT.Iq,show HT.vn (ah (bo hh)).length 0 (some 1)=min 1 (ah (bo hh)).length from HT.jL _ _ 1];unfold ah;rw[aiQ,amv];cases bo hh with
   |nil=>rfl
   |cons x r=>
    rw[ajc,akO (by omega)];exact aky (by rw[akt,aiQ];exact ai2 _)
  rw[cut];have s5:aC (upd H3 l0 (.lst [])) (upd (upd H3 l0 (.lst [])) l1 (.lst (ah ((bo hh).drop 1)))):=zU rh;have G4:=aC.trans eJ (aC.trans s4 s5);have FP:(bo hh).Pairwise (·<·):=PM.fh;let zs:=(bo hh).zip ((bo hh).drop 1);let S:Nat->Bool:=fun d=>standsOn hh n d;have adL:zs.length<=68:=(by show((bo hh).zip ((bo hh).drop 1)).length<=68;rw[akQ];omega);have zat:∀{i:Nat},i<zs.length->∃x y,(bo hh)[i]?=some x/\((bo hh).drop 1)[i]?=some y/\zs[i]?=some (x,y)/\x<y:=(fun{i} hi=>by have hz:zs[i]?=some zs[i]:=aiW hi;have h2:=am6.mp hz;refine⟨_,_,h2.1,h2.2,hz,?_⟩;have h3:=h2.2;rw[List.getElem?_drop]at h3;obtain⟨b1,c1⟩:=ai3.mp h2.1;obtain⟨b2,c2⟩:=ai3.mp h3;rw[<-c1,<-c2];exact alo.mp FP i (1+i) b1 b2 (by omega));refine⟨ld,l1,_,_,Z,ae.of (s5 _ _ KZ),ae.of aA,lD (J:=Itz K ld l1) (n:=zs.length) (fun i σ H'=>∃(v5 v6:Option V) (l:Addr),σ=[some (.ref ka),some (.int (n:Nat)),some (.ref ld),some (.ref rd),some (.ref l),v5,v6]/\aC (upd (upd H3 l0 (.lst [])) l1 (.lst (ah ((bo hh).drop 1)))) H'/\H l=none/\aT H' l ((zs.take i).foldl (m7 S) [])) ⟨none,none,l0,Z,aC.refl _,aC.free eJ Kb,⟨[],s5 _ _ aA,.nil⟩⟩ ?_ ?_ ?_⟩
  .rintro i σ H' hi ⟨v5,v6,l,rfl,s6,_⟩;obtain⟨x,y,hx,hy,_,_⟩:=zat hi;refine⟨ah (bo hh),ah ((bo hh).drop 1),V.int (x:Nat),V.int (y:Nat),ae.of (s6 _ _ (s5 _ _ KZ)),ae.of (s6 _ _ aA),?_,?_⟩
   .unfold ah;rw[ajd,hx];rfl
   .unfold ah;rw[ajd,hy];rfl
  .rintro i v σ H6 H7 hi ⟨v5,v6,l,rfl,s6,mv,Ka⟩ ⟨t,x',y',rfl,ht,rfl,Lg,GA⟩;obtain⟨x,y,hx,hy,hz,fC⟩:=zat hi;have ex:=Lg _ (ae.of (s6 _ _ (s5 _ _ KZ)));have ey:=GA _ (ae.of (s6 _ _ aA));obtain⟨x2,Lf,rfl⟩:=CC ex;obtain⟨y2,XH,rfl⟩:=CC ey;rw[hx]at Lf;rw[hy]at XH;cases Lf;cases XH;have s7:aC H6 (upd H6 t (.tup [V.int (x:Nat),V.int (y:Nat)])):=zU ht;have s57:=aC.trans s6 s7;refine⟨t,_,Z,gF.of aA,Z,?_⟩;refine⟨_,_,Z,?_⟩;refine⟨_,_,Z,?_⟩;refine⟨Z,?_⟩;refine⟨_,Z,_,Z,(zL rfl),fun u SV=>?_⟩;have s8:aC (upd H6 t (.tup [V.int (x:Nat),V.int (y:Nat)])) (upd (upd H6 t (.tup [V.int (x:Nat),V.int (y:Nat)])) u (.tup ((bZ (n,x)).map kV))):=zU SV;have Wz:=aC.trans s57 s8;refine⟨_,Z,rd,_,Z,ba.t (k:=bZ (n,x)) (Wz _ _ (s5 _ _ KJ)) aA,_,Z,?_⟩;rw[dm,aj2];have e:inR R (n,x)=S x:=inr x (ai1 hx);have tk:(zs.take (i+1)).foldl (m7 S) []=m7 S ((zs.take i).foldl (m7 S) []) (x,y):=(by rw[aa hz,alF];rfl);have VZ:aT (upd (upd H6 t (.tup [V.int (x:Nat),V.int (y:Nat)])) u (.tup ((bZ (n,x)).map kV))) l ((zs.take i).foldl (m7 S) []):=(Ka.same (aC.x s7)).same (aC.x s8);refine aO (fun h1=>?_) (fun h1=>?_)
   .have Kt:S x=true:=(by rw[<-e];exact h1);have fl:=ub S (zs.take i) [];rw[ajb]at fl;refine⟨_,Z,_,Z,_,Z,_,_,Z,Z,l,_,x,y-1,(by
     show [V.ref l,V.int (x:Nat),V.int ((y:Int)-1)]=[V.ref l,V.int (x:Nat),V.int ((y-1:Nat):Int)];rw[show((y-1:Nat):Int)=(y:Int)-1 by omega]),VZ,(by
     have:([]:List Nd).length=0:=rfl;omega),fun H9 l9 s9 hl9 Z0=>?_⟩
    refine⟨_,_,l9,Z,aC.trans Wz s9,aC.free (aC.trans G4 Wz) hl9,?_⟩;rw[tk];unfold m7;rw[ai5 Kt];exact Z0
   .have Kt:¬S x=true:=(by rw[<-e];exact h1);refine⟨_,_,l,Z,Wz,mv,?_⟩;rw[tk];unfold m7;rw[ai0 Kt];exact VZ
  .rintro σ H6 ⟨v5,v6,l,rfl,s6,mv,Ka⟩;refine⟨⟨ah (bo hh),ah ((bo hh).drop 1),ae.of (s6 _ _ (s5 _ _ KZ)),ae.of (s6 _ _ aA),.inr ?_⟩,?_⟩
   .show(ah ((bo hh).drop 1)).length<=((bo hh).zip ((bo hh).drop 1)).length;unfold ah;rw[aiQ,akQ,akt];omega
   .rw[ai9]at Ka;have es:zs.foldl (m7 S) []=Vbkoac.spans hh n:=BS ok n;rw[es]at Ka;refine⟨_,Z,hQ H6 l (aC.trans G4 s6) mv Ka ?_⟩;rw[<-es];have:=ub S zs [];have:([]:List Nd).length=0:=rfl;omega
end
theorem md{γ:Type}{R:α->β->Prop}{R':α->γ->Prop}{f:β->γ}:∀{as:List α} {bs:List β},Paired R as bs->(∀a b,b∈bs->R a b->R' a (f b))->Paired R' as (bs.map f):=by
 intro as bs h
 induction h with
 |nil=>intro _;exact .nil
 | @cons a b as bs r t ih=>intro g;exact .cons (g a b (aiV ..) r) (ih fun a b hb=>g a b (aiS _ hb))
theorem EG{l:List Int}{k:Nat}(h:eS l k=true):l.length%k=0/\∀z∈l,0<=z:=by unfold eS at h;rw[ajn]at h;refine⟨aja h.1,fun z hz=>?_⟩;exact aja (ajA.mp h.2 z hz)
theorem B0{l:List Int}(h:Paired (qh H) as (chunk 3 l))(nn:∀z∈l,0<=z):Paired (m8 H) as ((chunk 3 l).map BX):=md h fun a r hr e=>by
 obtain⟨h1,h2⟩:=chunk_len hr (by decide)
 match r,h1 with
 | [x,y,z],_=>
  have hx:=nn x (h2 x (by simp));have hy:=nn y (h2 y (by simp));have hz:=nn z (h2 z (by simp));show H a=some (.tup [V.int (x.toNat:Int),V.int (y.toNat:Int),V.int (z.toNat:Int)]);rw[show(x.toNat:Int)=x by omega,show(y.toNat:Int)=y by omega,show(z.toNat:Int)=z by omega];exact e
theorem zM{l:List Int}(h:Paired (qh H) as (chunk 2 l))(nn:∀z∈l,0<=z):aI H as ((chunk 2 l).map xx):=md h fun a r hr e=>by
 obtain⟨h1,h2⟩:=chunk_len hr (by decide)
 match r,h1 with
 | [x,y],_=>
  have hx:=nn x (h2 x (by simp));have hy:=nn y (h2 y (by simp));show H a=some (.tup [V.int (x.toNat:Int),V.int (y.toNat:Int)]);rw[show(x.toNat:Int)=x by omega,show(y.toNat:Int)=y by omega];exact e
theorem uT(k:Nat)(l:List Int):(chunk k l).length<=l.length:=by unfold chunk;rw[aiQ,aj7];exact Nat.div_le_self _ _
def nO(h:Known)(n:Nd)(l:List Int):List Int:=match stepsIn (l.length+1) l with
 |none=>[-9]
 |some x=>[0,if checkedProof h n.1 n.2 x=true then 1 else 0]
def nV(h:Known)(n:Nd)(l:List Int):List Int:=match nodesIn (l.length+1) l with
 |none=>[-9]
 |some x=>[0,if checkedSet h n.1 n.2 x=true then 1 else 0]
section
variable{K:W.Frag}
abbrev Ia:=top 88
theorem PU:aM ["known","asked","row"] ["known","asked","row"] (aF Ia):=dc
abbrev Ie:=top 89
theorem PV:aM ["known","asked","row"] ["known","asked","row"] (aF Ie):=dc
def xI(C:Cs)(ans:Known->Nd->List Int->List Int):Sp:=fun vs H Q _=>∃ka h b n ra l,vs=[.ref ka,.ref b,.ref ra]/\aq C H ka h/\TupAt H b n/\H ra=some (.lst (l.map V.int))/\l.length<=200/\∀H' r,aC H H'->H r=none->fU H' r (ans h n l)->(ans h n l).length<=2->Q (.ref r) H'
theorem MN(F:bL "tree" Ia)(dM:mE 5)(dP:zr 5)(dS:cO 5 "steps_are_right" ["known","asked","steps"] (DR C))(c9:Num mg "WRONG_LIST" (-9))(c0:Num mg "ACCEPTED" 0):de 6 ["known","asked","row"] (xI C nO):=by
 refine d9 PU
 .obtain⟨ka,h,b,n,ra,l,rfl,_⟩:=h;rfl
 .obtain⟨ka,hh,b,n,ra,l,rfl,hK,hb,NA,ic,hQ⟩:=h;refine⟨_,aD (aZ (cn (bF (aJ dM hr (cY (pv 2) aK)))) (aE (aH (aU (bM (aQ c9))))) aN) (aE (aH (aU (cY (aQ c0) (i5 (bF (aJ dS hr (ny (pv 0) (pv 1) (aJ dP hr (cY (pv 2) aK))))) aK aK))))),?_⟩;refine⟨_,Z,ra,l,3,Z,ae.of NA,ic,(by decide),fun H1 s1=>⟨_,Z,?_⟩⟩;have si:=y6 (l.length+1) l (akI _);cases hm:eS l 3 with
  |false=>
   refine aO (fun _=>⟨(zL rfl),fun p hp=>?_⟩) (fun z=>absurd rfl z);have e:nO hh n l=[-9]:=(by unfold nO;rw[si,hm];rfl);rw[e]at hQ;exact hQ _ p (aC.trans s1 (zU hp)) (aC.free s1 hp) aA (by decide)
  |true=>
   obtain⟨m0,nn⟩:=EG hm;refine aO nofun (fun _=>?_);refine⟨_,Z,_,Z,_,Z,ra,l,3,Z,ae.of (s1 _ _ NA),ic,.inr rfl,m0,fun H2 r as s2 HB Ql has=>?_⟩;have b0:=aC.trans s1 s2;have cm:=uT 3 l;refine⟨ka,hh,b,n,r,as,_,Z,hK.same (aC.x b0),b0 _ _ hb,Ql,B0 has nn,(by rw[aiQ];omega),fun H3 s3=>⟨_,Z,?_⟩⟩;have eJ:=aC.trans b0 s3;have e:nO hh n l=[0,if checkedProof hh n.1 n.2 ((chunk 3 l).map BX)=true then 1 else 0]:=(by unfold nO;rw[si,hm];rfl);rw[e]at hQ;refine aO (fun h1=>⟨(zL rfl),fun p hp=>?_⟩) (fun h1=>⟨(zL rfl),fun p hp=>?_⟩)
   .rw[ai5 h1]at hQ;exact hQ _ p (aC.trans eJ (zU hp)) (aC.free eJ hp) aA (by show 2<=2;decide)
   .rw[ai0 h1]at hQ;exact hQ _ p (aC.trans eJ (zU hp)) (aC.free eJ hp) aA (by show 2<=2;decide)
theorem MQ(F:bL "shut" Ie)(dM:mE 5)(dP:zr 5)(dS:cO 5 "set_is_right" ["known","asked","pairs"] (N9 C))(c9:Num mg "WRONG_LIST" (-9))(c0:Num mg "ACCEPTED" 0):de 6 ["known","asked","row"] (xI C nV):=by
 refine d9 PV
 .obtain⟨ka,h,b,n,ra,l,rfl,_⟩:=h;rfl
 .obtain⟨ka,hh,b,n,ra,l,rfl,hK,hb,NA,ic,hQ⟩:=h;refine⟨_,aD (aZ (cn (bF (aJ dM hr (cY (pv 2) aK)))) (aE (aH (aU (bM (aQ c9))))) aN) (aE (aH (aU (cY (aQ c0) (i5 (bF (aJ dS hr (ny (pv 0) (pv 1) (aJ dP hr (cY (pv 2) aK))))) aK aK))))),?_⟩;refine⟨_,Z,ra,l,2,Z,ae.of NA,ic,(by decide),fun H1 s1=>⟨_,Z,?_⟩⟩;have si:=zc (l.length+1) l (akI _);cases hm:eS l 2 with
  |false=>
   refine aO (fun _=>⟨(zL rfl),fun p hp=>?_⟩) (fun z=>absurd rfl z);have e:nV hh n l=[-9]:=(by unfold nV;rw[si,hm];rfl);rw[e]at hQ;exact hQ _ p (aC.trans s1 (zU hp)) (aC.free s1 hp) aA (by decide)
  |true=>
   obtain⟨m0,nn⟩:=EG hm;refine aO nofun (fun _=>?_);refine⟨_,Z,_,Z,_,Z,ra,l,2,Z,ae.of (s1 _ _ NA),ic,.inl rfl,m0,fun H2 r as s2 HB Ql has=>?_⟩;have b0:=aC.trans s1 s2;have cm:=uT 2 l;refine⟨ka,hh,b,n,r,_,Z,hK.same (aC.x b0),b0 _ _ hb,⟨as,Ql,zM has nn⟩,(by rw[aiQ];omega),fun H3 s3=>⟨_,Z,?_⟩⟩;have eJ:=aC.trans b0 s3;have e:nV hh n l=[0,if checkedSet hh n.1 n.2 ((chunk 2 l).map xx)=true then 1 else 0]:=(by unfold nV;rw[si,hm];rfl);rw[e]at hQ;refine aO (fun h1=>⟨(zL rfl),fun p hp=>?_⟩) (fun h1=>⟨(zL rfl),fun p hp=>?_⟩)
   .rw[ai5 h1]at hQ;exact hQ _ p (aC.trans eJ (zU hp)) (aC.free eJ hp) aA (by show 2<=2;decide)
   .rw[ai0 h1]at hQ;exact hQ _ p (aC.trans eJ (zU hp)) (aC.free eJ hp) aA (by show 2<=2;decide)
abbrev Pk:=top 86
theorem IK:aM ["known","asked","paper","revocation"] ["known","asked"] (aF Pk):=dc
def N6(C:Cs):Sp:=fun vs H Q _=>∃ka h b n,vs=[.ref ka,.ref b]/\aq C H ka h/\fS h/\TupAt H b n/\∀H' r,aC H H'->H r=none->fU H' r (whyNot h n.1 n.2)->(whyNot h n.1 n.2).length<=2->Q (.ref r) H'
theorem P9(F:bL "why" Pk)(T:Txt K mg C)(dS:iE 7)(dR:i8 7)(k0:Num mg "STANDING" 0)(k1:Num mg "NOT_KNOWN" 1)(k2:Num mg "TOO_EARLY" 2)(k3:Num mg "TOO_LATE" 3)(k4:Num mg "REVOKED" 4)(k5:Num mg "NO_GROUND" 5):de 8 ["known","asked"] (N6 C):=by
 refine d9 IK
 .obtain⟨ka,h,b,n,rfl,_⟩:=h;rfl
 .obtain⟨ka,hh,b,n,rfl,hK,ok,hb,hQ⟩:=h;have hu:=bu hr;have n1:=T.nK "papers" (by decide);refine⟨_,aD (aZ (bF (aJ dS hr (cY (pv 0) (pv 1)))) (aE (aH (aU (bM (aQ k0))))) aN) (aD (aZ (b9 (cJ hu (af cU (pv 1) aK) (aL (pv 0) rfl))) (aE (aH (aU (bM (aQ k1))))) aN) (aD (zS 2 IK.nd (dq hu (aL (pv 0) rfl) (af cU (pv 1) aK))) (aD (aZ (aY n9 (af cU (pv 1) aK) (aL (pv 2) rfl)) (aE (aH (aU (bM (aQ k2))))) aN) (aD (aZ (aY wB (af cU (pv 1) aK) (aL (pv 2) rfl)) (aE (aH (aU (bM (aQ k3))))) aN) (aD (zS 3 IK.nd (aJ dR hr (cY (pv 0) (pv 1)))) (aD (aZ (b9 (xo (pv 3))) (aE (aH (aU (cY (aQ k4) (aL (pv 3) rfl))))) aN) (aE (aH (aU (bM (aQ k5))))))))))),?_⟩;refine⟨_,Z,_,Z,ka,hh,b,n,Z,hK,ok,hb,fun H1 s1=>⟨_,Z,?_⟩⟩;have one:∀z:Int,whyNot hh n.1 n.2=[z]->([V.int z]:List V).length<=sizeLine/\∀p,H1 p=none->Q (.ref p) (upd H1 p (.lst [V.int z])):=fun z e=>⟨zL rfl,fun p hp=>by rw[e]at hQ;exact hQ _ p (aC.trans s1 (zU hp)) (aC.free s1 hp) aA (by show 1<=2;decide)⟩;refine aO (fun h1=>?_) (fun h1=>?_)
  .refine one 0 ?_;obtain⟨p,e,a1,a2,a3⟩:=PM.pG ((PM.aj ok).mp h1);unfold Vbkoac.own at a3;rw[ajn]at a3;have pid:p.id=n.1:=(PM.cG e).2;have hn:revokedBy hh n.1 n.2=none:=by
    have z:=a3.2;rw[pid]at z;cases q:revokedBy hh n.1 n.2 with
    |none=>rfl
    |some _=>rw[q]at z;cases z
   unfold whyNot;rw[e];simp only;rw[ai0 (by omega),ai0 (by omega),hn];simp only;rw[ai5 h1]
  have Ei:=hK.same (aC.x s1);obtain⟨dx,fs,pd,rl,aP,rs,ha,f1,f2,e1,p1,e2,p2⟩:=Ei.ex;have GP:=s1 _ _ hb;have hT:gF K H1 b [V.int (n.1:Nat),V.int (n.2:Nat)]:=gF.of GP;obtain⟨v1,v2⟩:=gh (C:=C) (H:=H1) n.1 p1;refine⟨_,Z,b,_,_,_,Z,Z,hT,aS (j:=0) rfl,_,Z,ka,_,dx,fs,_,Z,ha,T.cK,n1,f1,pd,_,Z,ba.k (k:=Sum.inl (n.1:Int)) e1,_,Z,?_⟩;cases hp:hh.papers.find? fun p=>p.id==n.1 with
  |none=>
   rw[v1 hp];refine aO (fun _=>one 1 ?_) (fun z=>absurd rfl z);unfold whyNot paperOf;rw[hp]
  |some p=>
   obtain⟨pa,hv,Sd⟩:=v2 p hp;rw[hv];refine aO nofun (fun _=>?_);obtain⟨dy,gs,gl,jo,g1,g2,g3,g4,g5,_⟩:=Sd.ex;refine⟨_,Z,ka,_,dx,fs,_,Z,ha,T.cK,n1,f1,_,Z,b,_,_,_,Z,Z,hT,aS (j:=0) rfl,pd,_,Z,(by rw[<-hv];exact ba.k (k:=Sum.inl (n.1:Int)) e1),?_⟩;have ew:whyNot hh n.1 n.2=if n.2<p.from_ then [2]else if p.to_<n.2 then [3]else match revokedBy hh n.1 n.2 with
     |some m=>Vbkoac.ints [4,m]
     |none=>if standsOn hh n.1 n.2=true then [0]else [5]:=by
    unfold whyNot paperOf;rw[hp];rfl
   refine⟨_,Z,b,_,_,_,Z,Z,hT,aS (j:=1) rfl,_,Z,pa,_,dy,gs,_,Z,jo,T.cP,T.E1,g2,_,_,Z,Z,_,Z,aO (fun h2=>?_) (fun h2=>?_)⟩
   .exact one 2 (by rw[ew,ai5 (by have:=aja h2;omega)])
   have HJ:¬n.2<p.from_:=fun z=>h2 (ai8 (by omega));refine⟨_,Z,b,_,_,_,Z,Z,hT,aS (j:=1) rfl,_,Z,pa,_,dy,gs,_,Z,jo,T.cP,T.E1,g3,_,_,Z,Z,_,Z,aO (fun h3=>?_) (fun h3=>?_)⟩
   .exact one 3 (by rw[ew,ai0 HJ,ai5 (by have:=aja h3;omega)])
   have HI:¬p.to_<n.2:=fun z=>h3 (ai8 (by omega));have er:revokedBy hh n.1 n.2=(hh.revokes.find? (hits n)).map fun r=>r.num:=rfl;refine⟨_,Z,_,Z,ka,hh,b,n,Z,Ei,GP,fun oP=>?_,fun r c Zt Cb=>?_⟩
   .refine⟨_,Z,_,Z,aO nofun (fun _=>one 5 ?_)⟩;rw[ew,ai0 HJ,ai0 HI,er,oP];show(if standsOn hh n.1 n.2=true then [0]else [5])=_;rw[ai0 h1]
   .obtain⟨dz,hs,hc,r1,_⟩:=Cb.ex;have e4:whyNot hh n.1 n.2=[4,(r.num:Int)]:=(by rw[ew,ai0 HJ,ai0 HI,er,Zt];rfl);refine⟨_,Z,_,Z,aO (fun _=>?_) (fun z=>absurd rfl z)⟩;refine⟨_,Z,c,_,dz,hs,_,Z,hc,T.cR,T.HM,r1,(zL rfl),fun q hq=>?_⟩;rw[e4]at hQ;exact hQ _ q (aC.trans s1 (zU hq)) (aC.free s1 hq) aA (by show 2<=2;decide)
end
def rW(s:Vbkoac.Step):List Int:=[(s.id:Int),(s.day:Int),(s.ground:Int)]
theorem BU{ss:List Vbkoac.Step}(h:Paired (m8 H) as ss):Paired (qh H) as (ss.map rW):=md h fun a s _ e=>e
theorem mQ(ss:List Vbkoac.Step):(ss.map rW).flatten=Vbkoac.ints (ss.flatMap fun x=>[x.id,x.day,x.ground]):=by
 induction ss with
 |nil=>rfl
 |cons s ss ih=>
  rw[aji,akV,ih,ajD];unfold Vbkoac.ints;rw[aiY];rfl
theorem FN(ss:List Vbkoac.Step):(Vbkoac.ints (ss.flatMap fun x=>[x.id,x.day,x.ground])).length=3*ss.length:=by
 unfold Vbkoac.ints;rw[aiQ]
 induction ss with
 |nil=>rfl
 |cons s ss ih=>rw[ajD,aiT,ih];show 3+3*ss.length=3*(ss.length+1);omega
theorem bY.of{TT:List (Addr×List (Pos×Str))}(h:bY TT H)(s:aC H H'):bY TT H':=h.keep (fun b ps e=>s b _ e) (fun b φ e=>s b _ e)
def ME(h:Known)(n:Nd):List Int:=if standsOn h n.1 n.2=true then 1::Vbkoac.ints ((proofOf h n.1 n.2).flatMap fun x=>[x.id,x.day,x.ground])else 0::nodes (refutation h n.1 n.2)
section
variable{K:W.Frag}{TT:List (Addr×List (Pos×Str))}
abbrev Pr:=top 87
theorem OG:aM ["known","asked","ranks"] ["known","asked"] (aF Pr):=dc
def Tg(C:Cs)(TT:List (Addr×List (Pos×Str))):Sp:=fun vs H Q _=>∃ka h b n rd R,vs=[.ref ka,.ref b,.ref rd]/\aq C H ka h/\TupAt H b n/\fS h/\bY TT H/\H rd=some (.dT (lj R))/\sF h [n] R/\standsOn h n.1 n.2=true/\∀H' l as,aw H H'->bY TT H'->H l=none->H' l=some (.lst (as.map V.ref))->Paired (m8 H') as (proofOf h n.1 n.2)->(proofOf h n.1 n.2).length<=100000->Q (.ref l) H'
def OA(C:Cs)(TT:List (Addr×List (Pos×Str))):Sp:=fun vs H Q _=>∃ka h b n,vs=[.ref ka,.ref b]/\aq C H ka h/\fS h/\TupAt H b n/\bY TT H/\∀H' r,aw H H'->bY TT H'->H r=none->fU H' r (ME h n)->(ME h n).length<=400000->Q (.ref r) H'
theorem QE(F:bL "proof" Pr)(dR:cT 9)(dF:rb 9)(dS:ki 9)(dC:mF 9):de 10 ["known","asked"] (OA C TT):=by
 refine d9 OG
 .obtain⟨ka,h,b,n,rfl,_⟩:=h;rfl
 .obtain⟨ka,hh,b,n,rfl,hK,ok,hb,hT,hQ⟩:=h;have hu:=bu hr;refine⟨_,aD (zS 2 OG.nd (aJ dR hr (cY (pv 0) (aU (bM (pv 1)))))) (aD (aZ (b9 (fB hu (pv 1) (pv 2))) (aE (aH (cE gB (aU (bM aK)) (aJ dF hr (bM (aJ dS hr (ny (pv 0) (pv 1) (pv 2)))))))) aN) (aE (aH (cE gB (aU (bM aK)) (aJ dF hr (bM (aJ dC hr (ny (pv 0) (pv 1) (pv 2))))))))),?_⟩;refine⟨_,Z,_,Z,(zL rfl),fun l0 Kb=>?_⟩;have s1:aC H (upd H l0 (.lst [V.ref b])):=zU Kb;refine⟨ka,hh,l0,[n],Z,hK.same (aC.x s1),ok,⟨[b],aA,.cons (s1 _ _ hb) .nil⟩,(by show 1<=1000;decide),fun H2 rd R s2 jm vF RI=>?_⟩;have b0:=aC.trans s1 s2;have NO:=b0 _ _ hb;refine⟨_,Z,_,Z,rd,_,Z,ba.t vF NO,_,Z,?_⟩;rw[dm,aj2];have e:inR R n=standsOn hh n.1 n.2:=dw.inR ok (RI.rk n (aiU.mpr rfl)) (bq hh n);refine aO (fun h1=>?_) (fun h1=>?_)
  .have hs:standsOn hh n.1 n.2=true:=(by rw[<-e];exact h1);have eA:ME hh n=1::Vbkoac.ints ((proofOf hh n.1 n.2).flatMap fun x=>[x.id,x.day,x.ground]):=(by unfold ME;rw[ai5 hs]);refine⟨(zL rfl),fun q hq=>?_⟩;have s3:aC H2 (upd H2 q (.lst [V.int 1])):=zU hq;have eJ:=aC.trans b0 s3;refine⟨_,Z,_,Z,_,Z,ka,hh,b,n,rd,R,Z,hK.same (aC.x eJ),eJ _ _ hb,ok,bY.of hT eJ,s3 _ _ vF,RI,hs,fun H4 l as Hj t4 hl BE has ad8=>?_⟩;have fl:=FN (proofOf hh n.1 n.2);refine⟨l,as,_,Z,BE,BU has,(by rw[mQ,fl,ai6];omega),fun H5 l5 s5 Oe Cj=>?_⟩;have Z3:=s5 _ _ (Hj.kp _ _ (show upd H2 q (.lst [V.int 1]) q=some (.lst [V.int 1])from aA) nofun);refine⟨q,l5,_,_,Z,Z,Z3,Cj,(by rw[aiQ,mQ,fl,ai6];show 1+_<=_;omega),fun p hp=>?_⟩;have s6:=aC.upd (o:= .lst ([V.int 1]++((proofOf hh n.1 n.2).map rW).flatten.map V.int)) (aC.refl H5) hp;have sx:aw H (upd H5 p (.lst ([V.int 1]++((proofOf hh n.1 n.2).map rW).flatten.map V.int))):=aw.trans (aC.x eJ) (aw.trans Hj (aC.x (aC.trans s5 s6)));refine hQ _ p sx (bY.of t4 (aC.trans s5 s6)) ?_ ?_ ?_
   .have z4:H4 p=none:=aC.free s5 hp;cases z:H p with
    |none=>rfl
    |some o=>
     exfalso;have z3:=eJ _ _ z;by_cases ht:∃ps,o= .hU ps
     .obtain⟨ps,rfl⟩:=ht;obtain⟨qs,w⟩:=Hj.tb _ _ z3;rw[z4]at w;cases w
     .rw[Hj.kp _ _ z3 (fun ps q=>ht ⟨ps,q⟩)]at z4;cases z4
   .rw[eA];show upd H5 p _ p=some (.lst ((1::Vbkoac.ints _:List Int).map V.int));rw[aA,mQ];rfl
   .rw[eA,ajc,fl];omega
  .have hs:¬standsOn hh n.1 n.2=true:=(by rw[<-e];exact h1);have hs':standsOn hh n.1 n.2=false:=(by simpa using hs);have eA:ME hh n=0::nodes (PM.my hh n):=(by unfold ME;rw[ai0 hs,PM.u5 ok]);refine⟨(zL rfl),fun q hq=>?_⟩;have s3:aC H2 (upd H2 q (.lst [V.int 0])):=zU hq;have eJ:=aC.trans b0 s3;refine⟨_,Z,_,Z,_,Z,ka,hh,b,n,rd,R,Z,hK.same (aC.x eJ),eJ _ _ hb,ok,bY.of hT eJ,s3 _ _ vF,RI.rk n (aiU.mpr rfl),hs',fun H4 l Hj t4 hl ⟨as,BE,has⟩=>?_⟩;have fl:=eC (PM.my hh n);have fD:=fun m=>ja hK m;have RT:∀m,(PM.fl hh m).length<=12:=(fun m=>by rw[Em];have a:=alv (fun g:List Nd=>g.find? fun m=> !standsOn hh m.1 m.2) (au hh m);have:=(fD m).1;omega);have sm:(PM.my hh n).length<=100000:=iL ok (fun m k hm=>PM.oS hm) RT n;refine⟨l,as,_,Z,BE,iC has,(by rw[dr,fl,ai6];omega),fun H5 l5 s5 Oe Cj=>?_⟩;rw[dr]at Cj;have Z3:=s5 _ _ (Hj.kp _ _ (show upd H2 q (.lst [V.int 0]) q=some (.lst [V.int 0])from aA) nofun);refine⟨q,l5,_,_,Z,Z,Z3,Cj,(by rw[aiQ,fl,ai6];show 1+_<=_;omega),fun p hp=>?_⟩;have s6:=aC.upd (o:= .lst ([V.int 0]++(nodes (PM.my hh n)).map V.int)) (aC.refl H5) hp;have sx:aw H (upd H5 p (.lst ([V.int 0]++(nodes (PM.my hh n)).map V.int))):=aw.trans (aC.x eJ) (aw.trans Hj (aC.x (aC.trans s5 s6)));refine hQ _ p sx (bY.of t4 (aC.trans s5 s6)) ?_ ?_ ?_
   .have z4:H4 p=none:=aC.free s5 hp;cases z:H p with
    |none=>rfl
    |some o=>
     exfalso;have z3:=eJ _ _ z;by_cases ht:∃ps,o= .hU ps
     .obtain⟨ps,rfl⟩:=ht;obtain⟨qs,w⟩:=Hj.tb _ _ z3;rw[z4]at w;cases w
     .rw[Hj.kp _ _ z3 (fun ps q=>ht ⟨ps,q⟩)]at z4;cases z4
   .rw[eA];show upd H5 p _ p=some (.lst ((0::nodes _:List Int).map V.int));rw[aA];rfl
   .rw[eA,ajc,fl];omega
end
def KC(c:Call)(i d k:Int):Prop:=c= .stands i d k\/c= .why i d k\/c= .proof i d k\/(∃l,c= .tree i d k l)\/∃l,c= .shut i d k l
def Gp(c:Call)(h:Known)(n:Nd):List Int:=match c with
 | .stands .. =>[0,if standsOn h n.1 n.2=true then 1 else 0]
 | .why .. =>0::whyNot h n.1 n.2
 | .proof .. =>0::ME h n
 | .tree _ _ _ l=>nO h n l
 | .shut _ _ _ l=>nV h n l
 |_=>[]
theorem step_ask(s:State){i d k:Int}(hc:KC c i d k):Vbkoac.step s c=asked s i d k fun h i e=>(s,Gp c h (i,e)):=by
 rcases hc with e|e|e|⟨l,e⟩|⟨l,e⟩<;>subst e
 .rfl
 .rfl
 .show asked s i d k (fun h i e=>if standsOn h i e=true then(s,0::1::Vbkoac.ints ((proofOf h i e).flatMap fun x=>[x.id,x.day,x.ground]))else(s,0::0::nodes (refutation h i e)))=_;congr 1;funext h i e;show _=(s,0::ME h (i,e));unfold ME;by_cases q:standsOn h i e=true
  .rw[ai5 q,ai5 q]
  .rw[ai0 q,ai0 q]
 .show asked s i d k (fun h i e=>(match stepsIn (l.length+1) l with
   |none=>(s,[-9])
   |some x=>(s,[0,if checkedProof h i e x=true then 1 else 0])))=_
  congr 1;funext h i e;show _=(s,nO h (i,e) l);unfold nO;cases stepsIn (l.length+1) l<;>rfl
 .show asked s i d k (fun h i e=>(match nodesIn (l.length+1) l with
   |none=>(s,[-9])
   |some x=>(s,[0,if checkedSet h i e x=true then 1 else 0])))=_
  congr 1;funext h i e;show _=(s,nV h (i,e) l);unfold nV;cases nodesIn (l.length+1) l<;>rfl
theorem aw.free(sx:aw H H'){p:Addr}(hp:H' p=none):H p=none:=by
 cases z:H p with
 |none=>rfl
 |some o=>
  exfalso;by_cases ht:∃ps,o= .hU ps
  .obtain⟨ps,rfl⟩:=ht;obtain⟨qs,w⟩:=sx.tb _ _ z;rw[hp]at w;cases w
  .rw[sx.kp _ _ z (fun ps q=>ht ⟨ps,q⟩)]at hp;cases hp
section
variable{K:W.Frag}{TT:List (Addr×List (Pos×Str))}
def IG(C:Cs)(TT:List (Addr×List (Pos×Str)))(ok:Call->Prop):Sp:=fun vs H Q _=>∃a s fp ca c,vs=[.ref a,.ref ca]/\aW C H a s fp/\ig C H ca c/\ok c/\(bJ c).length<=200/\bY TT H/\∀H' l,aw H H'->bY TT H'->H l=none->fU H' l (Vbkoac.step s c).2->(Vbkoac.step s c).1=s->(Vbkoac.step s c).2.length<=1000000->Q (.ref l) H'
abbrev JH:=top 85
theorem sj:aM ["house","call","numbers","refusal","asked","known"] ["house","call"] (aF JH):=dc
theorem Mo(F:bL "answer_asked" JH)(T:Txt K mg C)(dR:gX 10)(dK:dg 10)(dS:iE 10)(dW:cO 10 "why" ["known","asked"] (N6 C))(dP:cO 10 "proof" ["known","asked"] (OA C TT))(dT:cO 10 "tree" ["known","asked","row"] (xI C nO))(dH:cO 10 "shut" ["known","asked","row"] (xI C nV)) (c0:Num mg "ACCEPTED" 0)(c4:Num mg "STANDS" 4)(c5:Num mg "WHY" 5)(c6:Num mg "PROOF" 6)(c7:Num mg "TREE" 7):de 11 ["house","call"] (IG C TT fun c=>∃i d k,KC c i d k):=by
 refine d9 sj
 .obtain⟨a,s,fp,ca,c,rfl,_⟩:=h;rfl
 .obtain⟨a,st,fp,ca,c,rfl,hH,hC,⟨i,d,k,bK⟩,ic,hT,hQ⟩:=h;obtain⟨dx,fs,nl,rl,e1,e2,e3,e4,e5,e6⟩:=hC.ex;have n1:=T.nC "numbers" (by decide);have n2:=T.nC "number" (by decide);have n3:=T.nC "row" (by decide);have ei:bB c=[i,d,k]:=(by rcases bK with e|e|e|⟨l,e⟩|⟨l,e⟩<;>subst e<;>rfl);rw[ei]at e5;refine⟨_,aD (zS 2 sj.nd (aL (pv 1) rfl)) (aD (zS 3 sj.nd (aJ dR hr (G5 (pv 0) (af aX (pv 2) aK) (af aX (pv 2) aK) (af aX (pv 2) aK)))) (aD (aZ (aY n8 (pv 3) (aQ c0)) (aE (aH (aU (bM (pv 3))))) aN) (aD (zS 4 sj.nd (cZ (cY (af aX (pv 2) aK) (af aX (pv 2) aK)))) (aD (zS 5 sj.nd (aJ dK hr (cY (pv 0) (af aX (pv 2) aK)))) (aD (aZ (aY eO (aL (pv 1) rfl) (aQ c4)) (aE (aH (aU (cY (aQ c0) (i5 (bF (aJ dS hr (cY (pv 5) (pv 4)))) aK aK))))) aN) (aD (aZ (aY eO (aL (pv 1) rfl) (aQ c5)) (aE (aH (cE gB (aU (bM (aQ c0))) (aJ dW hr (cY (pv 5) (pv 4)))))) aN) (aD (aZ (aY eO (aL (pv 1) rfl) (aQ c6)) (aE (aH (cE gB (aU (bM (aQ c0))) (aJ dP hr (cY (pv 5) (pv 4)))))) aN) (aD (aZ (aY eO (aL (pv 1) rfl) (aQ c7)) (aE (aH (aJ dT hr (ny (pv 5) (pv 4) (aL (pv 1) rfl))))) aN) (aE (aH (aJ dH hr (ny (pv 5) (pv 4) (aL (pv 1) rfl))))))))))))),?_⟩;rw[step_ask st bK]at hQ;refine⟨_,Z,ca,_,dx,fs,_,Z,e1,T.cC,n1,e3,?_⟩;refine⟨_,Z,_,Z,nl,_,_,_,Z,Z,ae.of e5,aS (j:=0) rfl,_,Z,nl,_,_,_,Z,Z,ae.of e5,aS (j:=1) rfl,_,Z,nl,_,_,_,Z,Z,ae.of e5,aS (j:=2) rfl,a,st,fp,i,d,k,Z,hH,?_⟩;refine⟨_,Z,Z,_,Z,?_⟩;by_cases hz:fV st i d k=0
  case neg=>
   have qx:(!decide (V.int (fV st i d k)=V.int 0))=true:=(by rw[ajl (fun q=>hz (by injection q))];rfl);refine aO (fun _=>⟨_,Z,(zL rfl),fun p hp=>?_⟩) (fun z=>absurd qx z);have s1:aC H (upd H p (.lst [V.int (fV st i d k)])):=zU hp;rw[gR hz]at hQ;exact hQ _ p (aC.x s1) (bY.of hT s1) hp aA rfl (by show 1<=1000000;decide)
  have qx:(!decide (V.int (fV st i d k)=V.int 0))=false:=(by rw[hz];rfl);refine aO (fun z=>absurd z (by rw[qx];exact fun q=>nomatch q)) (fun _=>?_);rw[cb hz]at hQ;obtain⟨x1,x2⟩:=kW hz;obtain⟨x3,x4⟩:=iy x2;have kn:=dv (gM x4).1;have ni:=ia x1;have nd:=dv x3;refine⟨_,Z,nl,_,_,_,Z,Z,ae.of e5,aS (j:=0) rfl,_,Z,nl,_,_,_,Z,Z,ae.of e5,aS (j:=1) rfl,(zL rfl),fun t ht=>?_⟩;have s1:aC H (upd H t (.tup [V.int i,V.int d])):=zU ht;have aaS:TupAt (upd H t (.tup [V.int i,V.int d])) t (i.toNat,d.toNat):=(by show upd H t _ t=some (.tup [V.int (i.toNat:Int),V.int (d.toNat:Int)]);rw[aA,<-ni,<-nd]);refine⟨_,Z,_,Z,nl,_,_,_,Z,Z,ae.of (s1 _ _ e5),aS (j:=2) rfl,a,st,fp,k.toNat,(by rw[<-kn];rfl),hH.same (aC.x s1),fun H2 kb s2 Of Cq=>?_⟩;have b0:=aC.trans s1 s2;have ok:=fg hH.ok k.toNat;have AO:=s2 _ _ aaS;have iT:=b0 _ _ e1;have cat:∀(q:Addr),H2 q=none->∀(H5:Hp) (r:Addr) (zs:List Int),aw (upd H2 q (.lst [V.int 0])) H5->bY TT H5->H5 r=some (.lst (zs.map V.int))->zs.length<=400000->(asked st i d k fun h i e=>(st,Gp c h (i,e))).2=0::zs->∃l b xs ys,V.ref q= .ref l/\V.ref r= .ref b/\H5 l=some (.lst xs)/\H5 b=some (.lst ys)/\xs.length+ys.length<=sizeLine/\∀p,H5 p=none->Q (.ref p) (upd H5 p (.lst (xs++ys))):=fun q hq H5 r zs sx t5 XR hlen he=>by
   refine⟨q,r,_,_,Z,Z,sx.kp _ _ aA nofun,XR,(by rw[aiQ,ai6];show 1+_<=_;omega),fun p hp=>?_⟩;have s3:aC H2 (upd H2 q (.lst [V.int 0])):=zU hq;have s6:=zU (o:= .lst ([V.int 0]++zs.map V.int)) hp;have sxa:aw H H5:=aw.trans (aC.x (aC.trans b0 s3)) sx;rw[cb hz]at he;refine hQ _ p (aw.trans sxa (aC.x s6)) (bY.of t5 s6) (aw.free sxa hp) ?_ rfl ?_
   .rw[show(st,Gp c (knownAt st k.toNat) (i.toNat,d.toNat)).2=0::zs from he];show upd H5 p _ p=_;rw[aA];rfl
   .rw[show(st,Gp c (knownAt st k.toNat) (i.toNat,d.toNat)).2=0::zs from he,ajc];omega
  have he:∀zs,Gp c (knownAt st k.toNat) (i.toNat,d.toNat)=0::zs->(asked st i d k fun h i e=>(st,Gp c h (i,e))).2=0::zs:=(fun zs e=>by rw[cb hz];exact e);rcases bK with e|e|e|⟨l,e⟩|⟨l,e⟩<;>subst e
  .refine⟨_,Z,ca,_,dx,fs,_,Z,iT,T.cC,n2,e2,Z,_,Z,aO (fun _=>?_) (fun z=>absurd (ai8 rfl) z)⟩;refine⟨_,Z,_,Z,kb,_,t,(i.toNat,d.toNat),Z,Cq,ok,AO,fun H3 s3=>⟨_,Z,?_⟩⟩;have eJ:=aC.trans b0 s3;have fin:∀z:Int,(if standsOn (knownAt st k.toNat) i.toNat d.toNat=true then(1:Int)else 0)=z->([V.int 0,V.int z]:List V).length<=sizeLine/\∀p,H3 p=none->Q (.ref p) (upd H3 p (.lst [V.int 0,V.int z])):=fun z ez=>⟨zL rfl,fun p hp=>by have s4:=zU (o:= .lst [V.int 0,V.int z]) hp;have nE:=aC.trans eJ s4;refine hQ _ p (aC.x nE) (bY.of hT nE) (aC.free eJ hp) ?_ rfl (by show 2<=1000000;decide);show upd H3 p _ p=some (.lst (([0,if standsOn (knownAt st k.toNat) i.toNat d.toNat=true then 1 else 0]:List Int).map V.int));rw[aA,ez];rfl⟩;refine aO (fun h1=>fin 1 (ai5 h1)) (fun h1=>fin 0 (ai0 h1))
  .refine⟨_,Z,ca,_,dx,fs,_,Z,iT,T.cC,n2,e2,Z,_,Z,aO (fun z=>absurd z (eQ (show(5:Int)≠4 by decide))) (fun _=>?_)⟩;refine⟨_,Z,ca,_,dx,fs,_,Z,iT,T.cC,n2,e2,Z,_,Z,aO (fun _=>?_) (fun z=>absurd (ai8 rfl) z)⟩;refine⟨(zL rfl),fun q hq=>?_⟩;have s3:aC H2 (upd H2 q (.lst [V.int 0])):=zU hq;refine⟨_,Z,_,Z,kb,_,t,(i.toNat,d.toNat),Z,Cq.same (aC.x s3),ok,s3 _ _ AO,fun H4 r s4 yB hA hlen=>?_⟩;exact cat q hq H4 r _ (aC.x s4) (bY.of hT (aC.trans b0 (aC.trans s3 s4))) hA (by omega) (he _ rfl)
  .refine⟨_,Z,ca,_,dx,fs,_,Z,iT,T.cC,n2,e2,Z,_,Z,aO (fun z=>absurd z (eQ (show(6:Int)≠4 by decide))) (fun _=>?_)⟩;refine⟨_,Z,ca,_,dx,fs,_,Z,iT,T.cC,n2,e2,Z,_,Z,aO (fun z=>absurd z (eQ (show(6:Int)≠5 by decide))) (fun _=>?_)⟩;refine⟨_,Z,ca,_,dx,fs,_,Z,iT,T.cC,n2,e2,Z,_,Z,aO (fun _=>?_) (fun z=>absurd (ai8 rfl) z)⟩;refine⟨(zL rfl),fun q hq=>?_⟩;have s3:aC H2 (upd H2 q (.lst [V.int 0])):=zU hq;refine⟨_,Z,_,Z,kb,_,t,(i.toNat,d.toNat),Z,Cq.same (aC.x s3),ok,s3 _ _ AO,bY.of hT (aC.trans b0 s3),fun H4 r Hj t4 yB hA hlen=>?_⟩;exact cat q hq H4 r _ Hj t4 hA hlen (he _ rfl)
  .refine⟨_,Z,ca,_,dx,fs,_,Z,iT,T.cC,n2,e2,Z,_,Z,aO (fun z=>absurd z (eQ (show(7:Int)≠4 by decide))) (fun _=>?_)⟩;refine⟨_,Z,ca,_,dx,fs,_,Z,iT,T.cC,n2,e2,Z,_,Z,aO (fun z=>absurd z (eQ (show(7:Int)≠5 by decide))) (fun _=>?_)⟩;refine⟨_,Z,ca,_,dx,fs,_,Z,iT,T.cC,n2,e2,Z,_,Z,aO (fun z=>absurd z (eQ (show(7:Int)≠6 by decide))) (fun _=>?_)⟩;refine⟨_,Z,ca,_,dx,fs,_,Z,iT,T.cC,n2,e2,Z,_,Z,aO (fun _=>?_) (fun z=>absurd (ai8 rfl) z)⟩;refine⟨_,Z,_,Z,_,Z,ca,_,dx,fs,_,Z,iT,T.cC,n3,e4,kb,_,t,(i.toNat,d.toNat),rl,l,Z,Cq,AO,b0 _ _ e6,ic,fun H4 r s4 yB hA hlen=>?_⟩;have nE:=aC.trans b0 s4;exact hQ _ r (aC.x nE) (bY.of hT nE) (aC.free b0 yB) hA rfl (ajq hlen (by decide))
  .refine⟨_,Z,ca,_,dx,fs,_,Z,iT,T.cC,n2,e2,Z,_,Z,aO (fun z=>absurd z (eQ (show(8:Int)≠4 by decide))) (fun _=>?_)⟩;refine⟨_,Z,ca,_,dx,fs,_,Z,iT,T.cC,n2,e2,Z,_,Z,aO (fun z=>absurd z (eQ (show(8:Int)≠5 by decide))) (fun _=>?_)⟩;refine⟨_,Z,ca,_,dx,fs,_,Z,iT,T.cC,n2,e2,Z,_,Z,aO (fun z=>absurd z (eQ (show(8:Int)≠6 by decide))) (fun _=>?_)⟩;refine⟨_,Z,ca,_,dx,fs,_,Z,iT,T.cC,n2,e2,Z,_,Z,aO (fun z=>absurd z (eQ (show(8:Int)≠7 by decide))) (fun _=>?_)⟩;refine⟨_,Z,_,Z,_,Z,ca,_,dx,fs,_,Z,iT,T.cC,n3,e4,kb,_,t,(i.toNat,d.toNat),rl,l,Z,Cq,AO,b0 _ _ e6,ic,fun H4 r s4 yB hA hlen=>?_⟩;have nE:=aC.trans b0 s4;exact hQ _ r (aC.x nE) (bY.of hT nE) (aC.free b0 yB) hA rfl (ajq hlen (by decide))
end
structure Fr(TT:List (Addr×List (Pos×Str)))(H H':Hp)(fp nG:List Addr):Prop where
 kp:∀b o,H b=some o->(∀ps,o≠ .hU ps)->b∉fp->H' b=some o
 nw:∀b∈nG,b∈fp\/H b=none
 tb:bY TT H'
theorem aW.plain(h:aW C H a s fp){b:Addr}(hb:b∈fp):(∀ps,H b≠some (.hU ps))/\∀φ,H b≠some (.ext φ):=by
 obtain⟨dx,fs,pd,rd,dl,pk,rk,ds,e1,e2,e3,e4,e5,e6,e7,e8,e9,o9,iU,iT,wo,r6⟩:=h.ex;have key:∀{c:Addr} {o:HO},H c=some o->(∀ps,o≠ .hU ps)->(∀φ,o≠ .ext φ)->(∀ps,H c≠some (.hU ps))/\∀φ,H c≠some (.ext φ):=fun{c o} e n1 n2=>⟨fun ps z=>by rw[e]at z;exact n1 ps (ajr z),fun φ z=>by rw[e]at z;exact n2 φ (ajr z)⟩;rw[r6]at hb;rcases aiZ.mp hb with z|hb
 .rw[z];exact key e1 nofun nofun
 rcases aiZ.mp hb with z|hb
 .rw[z];exact key e7 nofun nofun
 rcases aiZ.mp hb with z|hb
 .rw[z];exact key e9 nofun nofun
 rcases aiZ.mp hb with z|hb
 .rw[z];exact key iU nofun nofun
 obtain⟨kv,lX,rfl⟩:=ai7.mp hb;obtain⟨i,hi,ei⟩:=ajY lX;obtain⟨r,_,_,c,ec,hc⟩:=aR o9 (aiW hi);rw[ei]at ec;obtain⟨dy,gs,jo,_⟩:=hc.ex;rw[ec];exact key jo nofun nofun
theorem Lo.tabs{TT:List (Addr×List (Pos×Str))}{nG:List Addr}(f:Lo H H' fp nG)(h:aW C H a s fp)(t:bY TT H):bY TT H':=t.keep (fun b ps e=>f.kp b _ e fun hb=>(h.plain hb).1 ps e) (fun b φ e=>f.kp b _ e fun hb=>(h.plain hb).2 φ e)
def QW(c:Call):Prop:=∃i d k,KC c i d k
section
variable{K:W.Frag}{TT:List (Addr×List (Pos×Str))}
def IF(C:Cs)(TT:List (Addr×List (Pos×Str))):Sp:=fun vs H Q _=>∃a s fp ca c,vs=[.ref a,.ref ca]/\aW C H a s fp/\ig C H ca c/\(bJ c).length<=200/\bY TT H/\∀H' l nG,Fr TT H H' fp nG->aW C H' a (Vbkoac.step s c).1 nG->H l=none->l∉nG->fU H' l (Vbkoac.step s c).2->(Vbkoac.step s c).2.length<=1000000->Q (.ref l) H'
abbrev JB:=top 136
theorem Pf:aM ["house","call"] ["house","call"] (aF JB):=dc
theorem Mh(F:bL "answer_call" JB)(T:Txt K mg C)(d0:cO 11 "answer_telling" ["house","call"] (xK C wL))(d1:cO 11 "answer_asked" ["house","call"] (IG C TT QW))(d2:cO 11 "answer_survey" ["house","call"] (vi C z9))(d3:cO 11 "answer_pulling" ["house","call"] (vi C pX))(d4:cO 11 "answer_decision" ["house","call"] (xK C tq))(d5:cO 11 "answer_fact" ["house","call"] (vi C KA)) (c0:Num mg "DAY" 0)(c1:Num mg "PAPER" 1)(c2:Num mg "REVOKE" 2)(c3:Num mg "BACK" 3)(c4:Num mg "STANDS" 4)(c5:Num mg "WHY" 5)(c6:Num mg "PROOF" 6)(c7:Num mg "TREE" 7)(c8:Num mg "SHUT" 8)(c9:Num mg "ALL_THAT_STAND" 9)(c10:Num mg "SPANS" 10)(WX:Num mg "PULLED" 11)(c12:Num mg "CHAIN" 12)(c13:Num mg "MOVED" 13)(c14:Num mg "DECIDE" 14)(c15:Num mg "REVIEW" 15):de 12 ["house","call"] (IF C TT):=by
 refine d9 Pf
 .obtain⟨a,s,fp,ca,c,rfl,_⟩:=h;rfl
 .obtain⟨a,st,fp,ca,c,rfl,hH,hC,ic,hT,hQ⟩:=h;obtain⟨dx,fs,nl,rl,e1,e2,e3,e4,e5,e6⟩:=hC.ex;have n2:=T.nC "number" (by decide);refine⟨_,aD (aZ (aY gq (aL (pv 1) rfl) (cZ (G5 (aQ c0) (aQ c1) (aQ c2) (aQ c3))) (by rfl)) (aE (aH (aJ d0 hr (cY (pv 0) (pv 1))))) aN) (aD (aZ (aY gq (aL (pv 1) rfl) (cZ (T9 (aQ c4) (aQ c5) (aQ c6) (aQ c7) (aQ c8))) (by rfl)) (aE (aH (aJ d1 hr (cY (pv 0) (pv 1))))) aN) (aD (aZ (aY gq (aL (pv 1) rfl) (cZ (ny (aQ c9) (aQ c10) (aQ c13))) (by rfl)) (aE (aH (aJ d2 hr (cY (pv 0) (pv 1))))) aN) (aD (aZ (aY gq (aL (pv 1) rfl) (cZ (cY (aQ WX) (aQ c12))) (by rfl)) (aE (aH (aJ d3 hr (cY (pv 0) (pv 1))))) aN) (aD (aZ (aY gq (aL (pv 1) rfl) (cZ (cY (aQ c14) (aQ c15))) (by rfl)) (aE (aH (aJ d4 hr (cY (pv 0) (pv 1))))) aN) (aE (aH (aJ d5 hr (cY (pv 0) (pv 1))))))))),?_⟩;have WM:∀H1,aC H H1->∀H' l nG,Lo H1 H' fp nG->aW C H' a (Vbkoac.step st c).1 nG->H1 l=none->l∉nG->fU H' l (Vbkoac.step st c).2->(Vbkoac.step st c).2.length<=1000000->Q (.ref l) H':=fun H1 s1 H' l nG hf hh hl hn hA hL=>hQ H' l nG ⟨fun b o e _ nb=>hf.kp b o (s1 _ _ e) nb,fun b hb=>(hf.nw b hb).imp id fun z=>aC.free s1 z,hf.tabs (hH.same (aC.x s1)) (bY.of hT s1)⟩ hh (aC.free s1 hl) hn hA hL;have WL:∀H1,aC H H1->∀H' l,aw H1 H'->bY TT H'->H1 l=none->fU H' l (Vbkoac.step st c).2->(Vbkoac.step st c).1=st->(Vbkoac.step st c).2.length<=1000000->Q (.ref l) H':=(fun H1 s1 H' l sx t hl hA he hL=>by have sx1:=aw.trans (aC.x s1) sx;have mv:=aC.free s1 hl;refine hQ H' l fp ⟨fun b o e n _=>sx1.kp b o e n,fun b hb=> .inl hb,t⟩ (by rw[he];exact hH.same sx1) mv (fun hm=>?_) hA hL;obtain⟨o,ho⟩:=hH.there hm;rw[mv]at ho;cases ho);have Rb:∀H1,aC H H1->∀H' l,aC H1 H'->H1 l=none->fU H' l (Vbkoac.step st c).2->(Vbkoac.step st c).1=st->(Vbkoac.step st c).2.length<=1000000->Q (.ref l) H':=fun H1 s1 H' l s2 hl hA he hL=>WL H1 s1 H' l (aC.x s2) (bY.of hT (aC.trans s1 s2)) hl hA he hL;have s0:aC H H:=aC.refl H;refine⟨_,Z,ca,_,dx,fs,_,Z,s0 _ _ e1,T.cC,n2,e2,(zL rfl),fun t0 ht0=>⟨t0,_,Z,.inr (gF.of aA),Z,Z,_,Z,?_⟩⟩;have s1:=aC.trans s0 (zU (o:= .tup [V.int 0,V.int 1,V.int 2,V.int 3]) ht0);refine aO (fun h0=>⟨_,rfl,_,rfl,a,st,fp,ca,_,rfl,hH.same (aC.x s1),hC.same (aC.x s1),(by cases c<;>first|exact⟨(show(0:Int)<=(_:Nat)from Int.natCast_nonneg _),(show((_:Nat):Int)<=3 from Int.ofNat_le.mpr (by decide))⟩|exact nomatch (show false=true from h0)),ic,WM _ s1⟩) (fun h0=>?_);refine⟨_,Z,ca,_,dx,fs,_,Z,s1 _ _ e1,T.cC,n2,e2,(zL rfl),fun t1 ht1=>⟨t1,_,Z,.inr (gF.of aA),Z,Z,_,Z,?_⟩⟩;have s2:=aC.trans s1 (zU (o:= .tup [V.int 4,V.int 5,V.int 6,V.int 7,V.int 8]) ht1);refine aO (fun h1=>⟨_,rfl,_,rfl,a,st,fp,ca,_,rfl,hH.same (aC.x s2),hC.same (aC.x s2),(by cases c<;>first|exact⟨_,_,_,.inl rfl⟩|exact⟨_,_,_,.inr (.inl rfl)⟩|exact⟨_,_,_,.inr (.inr (.inl rfl))⟩|exact⟨_,_,_,.inr (.inr (.inr (.inl ⟨_,rfl⟩)))⟩|exact⟨_,_,_,.inr (.inr (.inr (.inr ⟨_,rfl⟩)))⟩|exact nomatch (show false=true from h1)),ic,bY.of hT s2,WL _ s2⟩) (fun h1=>?_);refine⟨_,Z,ca,_,dx,fs,_,Z,s2 _ _ e1,T.cC,n2,e2,(zL rfl),fun t2 ht2=>⟨t2,_,Z,.inr (gF.of aA),Z,Z,_,Z,?_⟩⟩;have s3:=aC.trans s2 (zU (o:= .tup [V.int 9,V.int 10,V.int 13]) ht2);refine aO (fun h2=>⟨_,rfl,_,rfl,a,st,fp,ca,_,rfl,hH.same (aC.x s3),hC.same (aC.x s3),(by cases c<;>first|exact trivial|exact nomatch (show false=true from h2)),Rb _ s3⟩) (fun h2=>?_);refine⟨_,Z,ca,_,dx,fs,_,Z,s3 _ _ e1,T.cC,n2,e2,(zL rfl),fun t3 ht3=>⟨t3,_,Z,.inr (gF.of aA),Z,Z,_,Z,?_⟩⟩;have s4:=aC.trans s3 (zU (o:= .tup [V.int 11,V.int 12]) ht3);refine aO (fun h3=>⟨_,rfl,_,rfl,a,st,fp,ca,_,rfl,hH.same (aC.x s4),hC.same (aC.x s4),(by cases c<;>first|exact trivial|exact nomatch (show false=true from h3)),Rb _ s4⟩) (fun h3=>?_);refine⟨_,Z,ca,_,dx,fs,_,Z,s4 _ _ e1,T.cC,n2,e2,(zL rfl),fun t4 ht4=>⟨t4,_,Z,.inr (gF.of aA),Z,Z,_,Z,?_⟩⟩;have s5:=aC.trans s4 (zU (o:= .tup [V.int 14,V.int 15]) ht4);refine aO (fun h4=>⟨_,rfl,_,rfl,a,st,fp,ca,_,rfl,hH.same (aC.x s5),hC.same (aC.x s5),(by cases c<;>first|exact trivial|exact nomatch (show false=true from h4)),ic,WM _ s5⟩) (fun h4=>?_);exact⟨_,rfl,_,rfl,a,st,fp,ca,_,rfl,hH.same (aC.x s5),hC.same (aC.x s5),(by cases c<;>first|exact trivial|exact absurd rfl h0|exact absurd rfl h1|exact absurd rfl h2|exact absurd rfl h3|exact absurd rfl h4),Rb _ s5⟩
end
end Pp
namespace L2
open PySem PySem.Spec PyProof.Rows
def PF(P:Program)(w:World)(K:W.Frag)(td ty:TE):TE:=fun σ H Q=>td σ H fun x H1=>ty σ H1 fun y H2=>∃a z aP ob v v',x= .ref a/\y= .int z/\K.lookup a=some ob/\ob.IsDictOf (intKind P w) aP/\valueAt aP z=some v/\RelV v' v/\Q v' H2
theorem JX{X:Cx}{o i:Expr}{td ty:TE}{pos:Pos}(ho:PE X o td)(hi:PE X i ty)(hs:Rv i:=by exact fun _ _=>rfl):PE X (.Subscript o i pos) (PF X.prog X.w X.K td ty):=by intro pins s σ H Q I h;refine DP am4.lookup hs (cQ (ho pins s σ H _ I h) fun u s1 ⟨x,H1,I1,rx,q1⟩=>cQ (hi pins s1 σ H1 _ I1 q1) fun iv s2 ⟨y,H2,I2,ry,a,z,aP,ob,v,v',ex,ey,hk,hd,hv,rv,q2⟩=>?_);subst ex;subst ey;obtain rfl:u=Value.ref a:=rx;obtain⟨t,rfl⟩:=(show∃t,iv=Value.int z t from ry);have dd:s2.heap.DictOf (intKind X.prog X.w) a aP:=Heap.dictOf_iff.mpr ⟨ob,I2.CU a ob hk,hd⟩;exact⟨dd.typeIs,wpAny_getItem_of (ajF _ _ z t) dd.mapOf hv ⟨v',H2,I2.tok _,rv,q2⟩⟩
end L2
namespace Pp
open PySem PySem.Spec PyProof.Rows L2
variable{C:Cs}{P:Program}{w:World}{mg:Str->Option Value}{base:Heap}{l:List Int}{c f:Addr}{fd:FuncData}
def mw:Call->Bool
 | .paper .. =>true| .tree .. =>true| .shut .. =>true|_=>false
def enc(c:Call):List Int:=fk c::bB c++(if mw c=true then((bJ c).length:Int)::bJ c else [])
structure DH(P:Program)(w:World)(K:W.Frag)(mg:Str->Option Value):Prop where
 ex:∃a aP ob,mg "SHAPES"=some (.ref a)/\K.lookup a=some ob/\ob.IsDictOf (intKind P w) aP/\∀c:Call,∃t,valueAt aP (fk c)=some (.ref t)/\∀H,gF K H t [V.int ((bB c).length:Int),V.bl (mw c)]
theorem Ex(l:List Int)(a m:Nat)(h:a+m<=l.length):jf (l.map V.int) (some (a:Int)) (some ((a+m:Nat):Int))=((l.drop a).take m).map V.int:=by unfold jf;rw[aiQ,HT.jL,HT.jL,akO h,akO (show a<=l.length by omega),alZ,am9,amv]
theorem Es{p:Nat}{x:Int}{t:List Int}(h:l.drop p=x::t):l[p]?=some x/\l.drop (p+1)=t:=by
 refine⟨?_,?_⟩
 .have:(l.drop p)[0]?=some x:=(by rw[h];rfl);rwa [List.getElem?_drop]at this
 .rw[<-amo,h];rfl
section
variable{K:W.Frag}
abbrev Il:=top 20
theorem pK:aM ["calls","place","number","shape","row_at","numbers","end"] ["calls","place"] (aF Il):=dc
def Hw(C:Cs)(K:W.Frag):Sp:=fun vs H Q _=>∃la,∃l:List Int,∃p c r,vs=[.ref la,.int (p:Nat)]/\ae K H la (l.map V.int)/\l.length<=sizeLine/\(∀H',aC H H'->ae K H' la (l.map V.int))/\l.drop p=enc c++r/\∀H' x dx fs,aC H H'->H x=none->ig C H' x c->(∀b o o',H b=some o->ig C (upd H' b o') x c)->H' x=some (.ins C.call dx fs)->Fd fs "end" (.int ((p+(enc c).length:Nat):Int))->Q (.ref x) H'
theorem MW(F:bL "read_call" Il)(T:Txt K mg C)(S:DH P w K mg)(cC:jt P w K mg base 1 "Call" C.call ["self","number","numbers","row","end"] (fY C.call En 4)):de 3 ["calls","place"] (Hw C K):=by
 obtain⟨sa,aP,ob,KP,hlk,hdo,hsh⟩:=S.ex;refine d9 pK
 .obtain⟨la,l,p,c,r,rfl,_⟩:=h;rfl
 .obtain⟨la,l,p,c,r,rfl,hl,hsz,jz,HH,hQ⟩:=h;obtain⟨t,hvt,hT⟩:=hsh c;refine⟨_,aD (zS 2 pK.nd (af aX (pv 0) (pv 1))) (aD (zS 3 pK.nd (JX (D3 rfl KP (v:=V.ref sa) rfl (by decide)) (pv 2))) (aD (zS 4 pK.nd (cE gC (cE gC (pv 1) aK) (af cU (pv 3) aK))) (aD (zS 5 pK.nd (i4 lQ (pv 0) (gJ (cE gC (pv 1) aK)) (gJ (pv 4)))) (aD (aZ (cn (bF (af cU (pv 3) aK))) (aE (aH (mZ cC hr (G5 (pv 2) (pv 5) (aU cA) (pv 4))))) aN) (aD (zS 6 pK.nd (cE gC (cE gC (pv 4) aK) (af aX (pv 0) (pv 4)))) (aE (aH (mZ cC hr (G5 (pv 2) (pv 5) (i4 lQ (pv 0) (gJ (cE gC (pv 4) aK)) (gJ (pv 6))) (pv 6)))))))))),?_⟩;have RA:enc c=fk c::(bB c++(if mw c=true then((bJ c).length:Int)::bJ c else [])):=rfl;rw[RA,akj]at HH;obtain⟨g1,g2⟩:=Es HH;have aac:(l.map V.int)[p]?=some (V.int (fk c)):=(by rw[ajd,g1];rfl);have Ui:=akc List.length g2;rw[akt,aiT,aiT]at Ui;have plt:p<l.length:=(ai3.mp g1).1;refine⟨_,Z,_,Z,la,_,_,_,Z,Z,hl,aS aac,?_⟩;refine⟨_,Z,sa,_,aP,ob,_,V.ref t,Z,Z,hlk,hdo,hvt,Z,?_⟩;refine⟨_,Z,_,_,Z,Z,_,Z,t,_,_,_,Z,Z,hT H,aS (j:=0) rfl,_,_,Z,Z,?_⟩;refine⟨_,Z,_,Z,_,_,Z,Z,_,Z,_,Z,_,Z,la,_,Z,hl,fun q hq=>?_⟩;have abg:jf (l.map V.int) (some ((p:Int)+1)) (some ((p:Int)+1+((bB c).length:Int)))=(bB c).map V.int:=(by rw[show(p:Int)+1+((bB c).length:Int)=((p+1+(bB c).length:Nat):Int) by omega,show(p:Int)+1=((p+1:Nat):Int) by omega,Ex _ _ _ (by omega),g2,ajE,ame rfl]);rw[abg];have s1:aC H (upd H q (.lst ((bB c).map V.int))):=zU hq;refine⟨_,Z,t,_,_,_,Z,Z,hT _,aS (j:=1) rfl,_,Z,?_⟩;have mk:∀(H2:Hp) (rl:Addr) (e:Int),aC H H2->H rl=none->H2 q=some (.lst ((bB c).map V.int))->H2 rl=some (.lst ((bJ c).map V.int))->e=((p+(enc c).length:Nat):Int)->∀x dx,H2 x=none->H2 dx=none->dx≠x->fY C.call En 4 (.ref x::([V.int (fk c),V.ref q,V.ref rl,V.int e]++[])) (upd (upd H2 dx (.own x)) x (.ins C.call dx [])) (fun v H3=>v= .cW/\Q (.ref x) H3) E0:=fun H2 rl e s2 Zv hq2 yi he x dx hx HG jZ=>EH (fs:=En) (n:=4) (vs:=[V.int (fk c),V.ref q,V.ref rl,V.int e]) rfl hx HG jZ fun H3 s3 Uu _ _=>⟨rfl,by
    refine hQ H3 x dx _ (aC.trans s2 s3) (aC.free s2 hx) ⟨dx,_,q,rl,Uu,Z,Z,Z,s3 _ _ hq2,s3 _ _ yi⟩ (fun b o o' hb=>⟨dx,_,q,rl,by rw[aB (ajC (aG hb (aC.free s2 hx)))];exact Uu,Z,Z,Z,by rw[aB (ajC (aG hb hq))];exact s3 _ _ hq2,by rw[aB (ajC (aG hb Zv))];exact s3 _ _ yi⟩) Uu ?_;rw[<-he];rfl⟩
  cases XQ:mw c with
  |false=>
   have Yt:bJ c=[]:=(by cases c<;>first|rfl|cases XQ);refine aO (fun _=>?_) (fun z=>absurd rfl z);refine⟨_,Z,_,Z,(zL rfl),fun rl yi=>?_⟩;have s2:=zU (o:= .lst []) yi;refine⟨_,Z,mk _ rl _ (aC.trans s1 s2) (aC.free s1 yi) (s2 _ _ aA) (by rw[aA,Yt];rfl) ?_⟩;rw[RA,XQ,ajc,aiT];show _=((p+((bB c).length+0+1):Nat):Int);omega
  |true=>
   refine aO nofun (fun _=>?_);rw[XQ,ai5 rfl]at g2;have g3:l.drop (p+1+(bB c).length)=((bJ c).length:Int)::(bJ c++r):=(by rw[<-amo,g2,ajE,List.drop_left' rfl];rfl);obtain⟨k1,k2⟩:=Es g3;have Ob:(l.map V.int)[p+1+(bB c).length]?=some (V.int ((bJ c).length:Int)):=(by rw[ajd,k1];rfl);have CS:=akc List.length k2;rw[akt,aiT]at CS;have lt2:=(ai3.mp k1).1;have hat:Az (l.map V.int) ((p:Int)+1+((bB c).length:Int))=some (V.int ((bJ c).length:Int)):=(by rw[show(p:Int)+1+((bB c).length:Int)=((p+1+(bB c).length:Nat):Int) by omega];exact aS Ob);refine⟨_,Z,_,_,Z,Z,_,Z,_,Z,la,_,_,_,Z,Z,jz _ s1,hat,_,_,Z,Z,?_⟩;refine⟨_,Z,_,Z,_,Z,_,Z,_,_,Z,Z,_,Z,_,Z,_,Z,la,_,Z,jz _ s1,fun rl yi=>?_⟩;have abf:jf (l.map V.int) (some ((p:Int)+1+((bB c).length:Int)+1)) (some ((p:Int)+1+((bB c).length:Int)+1+((bJ c).length:Int)))=(bJ c).map V.int:=(by rw[show(p:Int)+1+((bB c).length:Int)+1+((bJ c).length:Int)=((p+1+(bB c).length+1+(bJ c).length:Nat):Int) by omega,show(p:Int)+1+((bB c).length:Int)+1=((p+1+(bB c).length+1:Nat):Int) by omega,Ex _ _ _ (by omega),k2,ame rfl]);rw[abf];have s2:=aC.upd (o:= .lst ((bJ c).map V.int)) (aC.refl _) yi;refine⟨_,Z,mk _ rl _ (aC.trans s1 s2) (aC.free s1 yi) (s2 _ _ aA) aA ?_⟩;rw[RA,XQ,ai5 rfl,ajc,aiT,ajc];omega
end
def Wd:Option HO->Prop
 |some (.lst _)=>False
 |some (.tup _)=>False
 |some (.ins _ _ _)=>False
 |some (.dK _)=>False
 |_=>True
theorem Wd.foreign:∀{o:Option HO},Wd o->fI c o
 |none,_=>True.intro
 |some (.lst _),h=>h
 |some (.tup _),h=>h
 |some (.ins _ _ _),h=>absurd h id
 |some (.dK _),_=>True.intro
 |some (.dT _),_=>True.intro
 |some (.set _ _),_=>True.intro
 |some (.own _),_=>True.intro
 |some (.xd _),_=>True.intro
 |some (.met _ _),_=>True.intro
 |some (.Lc _ _),_=>True.intro
 |some (.br _ _),_=>True.intro
 |some (.hU _),_=>True.intro
 |some (.ext _),_=>True.intro
theorem Wd.OO:∀{o:Option HO},Wd o->E2 c o
 |none,_=>True.intro
 |some (.lst _),h=>True.intro
 |some (.tup _),h=>True.intro
 |some (.ins _ _ _),h=>absurd h id
 |some (.dK _),_=>True.intro
 |some (.dT _),_=>True.intro
 |some (.set _ _),_=>True.intro
 |some (.own _),_=>True.intro
 |some (.xd _),_=>True.intro
 |some (.met _ _),_=>True.intro
 |some (.Lc _ _),_=>True.intro
 |some (.br _ _),_=>True.intro
 |some (.hU _),_=>True.intro
 |some (.ext _),_=>True.intro
theorem aW.put{H:Hp}{a g:Addr}{s:State}{fp:List Addr}{o:HO}(h:aW C H a s fp)(n:Wd (H g)):aW C (upd H g o) a s fp:=by obtain⟨dx,fs,pd,rd,dl,pk,rk,ds,q1,q2,q3,q4,q5,q6,q7,q8,q9,Dt,vv,Ds,BD,B3⟩:=h.ex;have na:a≠g:=(fun z=>by rw[<-z,q1]at n;exact n);have np:pd≠g:=(fun z=>by rw[<-z,q7]at n;exact n);have nr:rd≠g:=(fun z=>by rw[<-z,q9]at n;exact n);have nd:dl≠g:=(fun z=>by rw[<-z,vv]at n;exact n);refine⟨⟨dx,fs,pd,rd,dl,pk,rk,ds,by rw[aB na];exact q1,q2,q3,q4,q5,q6,by rw[aB np];exact q7,?_,by rw[aB nr];exact q9,Paired.a8 Dt fun _ _ z=>z.put n.OO,by rw[aB nd];exact vv,Paired.a8 Ds fun _ _ z=>z.put n.OO,BD,B3⟩,h.ok⟩;have eo:off (upd H g o) dl=upd (off H dl) g o:=ip (ajC nd);rw[eo];exact Paired.a8 q8 fun _ _ z=>z.put (by show fI C.paper (upd H dl _ g);rw[aB (ajC nd)];exact n.foreign)
def outs:State->List Call->List Int
 |_,[]=>[]
 |s,c::cs=>(((Vbkoac.step s c).2.length:Int)::(Vbkoac.step s c).2)++outs (Vbkoac.step s c).1 cs
theorem Eo(c:Call):0<(enc c).length:=by unfold enc;rw[aiT,ajc];omega
section
variable{K:W.Frag}{TT:List (Addr×List (Pos×Str))}
abbrev Im:=top 135
theorem mV:aM ["calls","house","given","place","call","answer"] ["calls"] (aF Im):=dc
def Nt(H:Hp)(a:Addr)(o:HO):Prop:=H a=some o/\∀ps,o≠ .hU ps
def Hx(K:W.Frag)(C:Cs)(TT:List (Addr×List (Pos×Str))):Sp:=fun vs H Q _=>∃la cs,vs=[.ref la]/\(∀H',(∀o,Nt H la o->H' la=some o)->ae K H' la ((cs.flatMap enc).map V.int))/\(cs.flatMap enc).length<=100000/\(∀c∈cs,(bJ c).length<=200)/\(outs Vbkoac.start cs).length<=10000000/\bY TT H/\∀H' g,H' g=some (.lst ((outs Vbkoac.start cs).map V.int))->bY TT H'->Q (.ref g) H'
theorem MX(F:bL "answers" Im)(T:Txt K mg C)(dR:cO 12 "read_call" ["calls","place"] (Hw C K))(dC:cO 12 "answer_call" ["house","call"] (IF C TT))(cH:jt P w K mg base 11 "House" C.cw ["self"] (zD C)):de 13 ["calls"] (Hx K C TT):=by
 refine d9 mV
 .obtain⟨la,cs,rfl,_⟩:=h;rfl
 .obtain⟨la,cs,rfl,yl,hlen,Qg,NC,hT,hQ⟩:=h;refine⟨_,aD (zS 1 mV.nd (MH cH hr)) (aD (zS 2 mV.nd (aU cA)) (aD (zS 3 mV.nd aK) (aD (i0 ajm (aY n9 (pv 3) (bA az (by rfl) T.dZ ajK (bM (pv 0)))) (aD (zS 4 mV.nd (aJ dR hr (cY (pv 0) (pv 3)))) (aD (zS 5 mV.nd (jQ (aJ dC hr (cY (pv 1) (pv 4))))) (aD (bp (fN aju ajM ajL cN (pv 2) (bM (bA az (by rfl) T.dZ ajK (bM (pv 5)))))) (aD (bp (fN aju akn akm gv (pv 2) (bM (pv 5)))) (aE (zS 3 mV.nd (aL (pv 4) rfl)))))))) (aE (aH (pv 2)))))),?_⟩;have SH:∀{b:Addr} {o:HO},H la=some o->H b=none->la≠b:=fun e hb=>aG e hb;intro a dx ha HG jZ;refine⟨a,dx,Z,aA,fun H1 pd rd dl fs e1 e3 e4 e5 e6 e2 e7 e9 iU wo yC jm uq Vf=>⟨Z,?_⟩⟩;have s1:aC H H1:=fun b o e=>Vf b o (aG e ha) (by rw[aB (aG e ha),aB (aG e HG)];exact e);have Xr:aW C H1 a Vbkoac.start [a,pd,rd,dl]:=⟨⟨dx,fs,pd,rd,dl,[],[],[],e1,e2,e3,e4,e5,e6,e7,.nil,e9,.nil,iU,.nil,wo,rfl⟩,Hn⟩;refine⟨(zL rfl),fun g hg=>?_⟩;have s2:aC H1 (upd H1 g (.lst [])):=zU hg;have hg0:H g=none:=aC.free s1 hg;have gn:g∉ [a,pd,rd,dl]:=(fun hm=>by obtain⟨o,ho⟩:=Xr.there hm;rw[hg]at ho;cases ho);have b0:=aC.trans s1 s2;refine kL (fun σ H'=>∃(p:Nat) (st:State) (fp:List Addr) (done:List Int) (rest:List Call) (v4 v5:Option V),σ=[some (.ref la),some (.ref a),some (.ref g),some (.int p),v4,v5]/\(∀o,Nt H la o->H' la=some o)/\(∀o,Nt H la o->la∉fp)/\aW C (off H' g) a st fp/\g∉fp/\H' g=some (.lst (done.map V.int))/\bY TT H'/\(cs.flatMap enc).drop p=rest.flatMap enc/\p<=(cs.flatMap enc).length/\(∀c∈rest,(bJ c).length<=200)/\outs Vbkoac.start cs=done++outs st rest) (fun(σ:L2.St) _=>match σ[3]? with|some (some (V.int p))=>200000-p.toNat|_=>0) ⟨0,Vbkoac.start,[a,pd,rd,dl],[],cs,none,none,rfl,fun o e=>b0 _ _ e.1,?_,?_,gn,aA,bY.of hT b0,rfl,ajo _,Qg,rfl⟩ ?_ ?_
  .intro o e hm;have Qx:upd (upd H dx (.own a)) a (.ins C.cw dx []) la=some o:=(by rw[aB (SH e.1 ha),aB (SH e.1 HG)];exact e.1);rcases aiZ.mp hm with z|hm
   .exact SH e.1 ha z
   rcases aiZ.mp hm with z|hm
   .exact aG Qx yC z
   rcases aiZ.mp hm with z|hm
   .exact aG Qx jm z
   .exact aG Qx uq (aiU.mp hm)
  .show aW C (upd (upd H1 g (.lst [])) g (.Lc 0 0)) a Vbkoac.start _;rw[eX];exact Xr.put (by rw[hg];exact True.intro)
  .rintro σ H3 ⟨p,st,fp,done,rest,v4,v5,rfl,AI,Uc,V5,gfp,HE,RG,HH,hp,Oa,KN⟩;refine⟨_,Z,_,Z,la,_,Z,.inl (yl H3 AI),_,_,Z,Z,_,Z,aO (fun hc=>?_) (fun hc=>?_)⟩
   case refine_2=>
    have yF:(cs.flatMap enc).length<=p:=(by have:¬(p:Int)<(((cs.flatMap enc).map V.int).length:Int):=fun z=>hc (ai8 z);rw[aiQ]at this;omega);have r0:rest=[]:=by
     cases rest with
     |nil=>rfl
     |cons c r=>
      rw[anp yF,ajD]at HH;have z:=akc List.length HH;rw[aiT]at z;have:=Eo c;have z0:([]:List Int).length=0:=rfl;omega
    subst r0;refine⟨_,Z,hQ H3 g ?_ RG⟩;rw[KN];show H3 g=some (.lst ((done++[]).map V.int));rw[ajs];exact HE
   have fC:p<(cs.flatMap enc).length:=(by have:=aja hc;rw[aiQ]at this;omega);cases rest with
   |nil=>
    have z:=akc List.length HH;rw[akt]at z;have z0:(([]:List Call).flatMap enc).length=0:=rfl;omega
   |cons c rest=>
   rw[ajD]at HH;refine⟨_,Z,_,Z,la,cs.flatMap enc,p,c,_,Z,yl H3 AI,(by rw[ai6];omega),fun H' s'=>yl H' fun o e=>s' _ _ (AI o e),HH,fun H4 x dx4 fs4 s4 hx hC4 hCb G8 Q9=>?_⟩;have BF:=s4 _ _ HE;refine⟨g,_,BF,True.intro,fun od=>?_⟩;have hHL:aW C (upd H4 g (.br od (.lst (done.map V.int)))) a st fp:=by
    have so:aC (off H3 g) (off H4 g):=fun b o e=>by
     by_cases q:b=g
     .rw[q]at e⊢;rw[show off H3 g g=_ from aA]at e;rw[show off H4 g g=_ from aA];exact e
     .rw[show off H3 g b=_ from aB q]at e;rw[show off H4 g b=_ from aB q];exact s4 _ _ e
    have z:=(V5.same (aC.x so)).put (g:=g) (o:= .br od (.lst (done.map V.int))) (by rw[show off H4 g g=_ from aA];exact True.intro);rw[show upd (off H4 g) g (.br od (.lst (done.map V.int)))=upd H4 g (.br od (.lst (done.map V.int)))from eX]at z;exact z
   have hTL:bY TT (upd H4 g (.br od (.lst (done.map V.int)))):=bY.keep (bY.of RG s4) (fun b ps e=>by rw[aB (ak e BF nofun)];exact e) (fun b φ e=>by rw[aB (ak e BF nofun)];exact e);refine⟨_,Z,_,Z,a,st,fp,x,c,Z,hHL,hCb g _ _ HE,Oa c (aiV ..),hTL,fun H5 l nG fr hH5 hl Qt hA hL=>?_⟩;have Xf:H5 g=some (.br od (.lst (done.map V.int))):=fr.kp g _ aA nofun gfp;refine⟨Xf,?_⟩;have SI:g≠l:=(fun q=>by rw[<-q,aA]at hl;cases hl);have VW:done.length+(((Vbkoac.step st c).2.length:Int)::(Vbkoac.step st c).2).length<=10000000:=(by have z:=NC;rw[KN]at z;show done.length+_<=_;have e:(outs st (c::rest)).length=(((Vbkoac.step st c).2.length:Int)::(Vbkoac.step st c).2).length+(outs (Vbkoac.step st c).1 rest).length:=(by show((((Vbkoac.step st c).2.length:Int)::(Vbkoac.step st c).2)++_).length=_;rw[aiT]);rw[aiT,e]at z;omega);rw[ajc]at VW;have Ka:upd H5 g (.lst (done.map V.int)) l=some (.lst ((Vbkoac.step st c).2.map V.int)):=(by rw[aB (ajC SI)];exact hA);refine⟨_,Z,.inl ⟨Z,_,ae.of aA⟩,_,Z,l,_,Z,.inl (ae.of Ka),g,_,_,Z,Z,aA,(by rw[aiQ,ai6];omega),?_⟩;refine⟨_,Z,.inl ⟨Z,_,ae.of aA⟩,_,Z,g,l,_,_,Z,Z,aA,(by rw[aB (ajC SI)];exact Ka),(by rw[aiT,aiQ,aiQ,ai6];show _+1+_<=_;omega),?_⟩;have gx:x≠g:=ak G8 BF nofun;have xfp:x∉fp:=(fun hm=>by obtain⟨o,ho⟩:=V5.there hm;rw[show off H3 g x=_ from aB gx]at ho;rw[hx]at ho;cases ho);have hx5:H5 x=some (.ins C.call dx4 fs4):=fr.kp x _ (by rw[aB gx];exact G8) nofun xfp;have Uj:∀o,Nt H la o->la≠g:=fun o e=>SH e.1 hg0;have aam:∀o,Nt H la o->H5 la=some o:=fun o e=>fr.kp la _ (by rw[aB (Uj o e)];exact s4 _ _ (AI o e)) e.2 (Uc o e);refine⟨_,Z,x,_,dx4,fs4,_,Z,(by rw[aB gx,aB gx,aB gx];exact hx5),T.cC,T.WZ,Q9,?_⟩;refine⟨⟨p+(enc c).length,(Vbkoac.step st c).1,nG,done++(((Vbkoac.step st c).2.length:Int)::(Vbkoac.step st c).2),rest,_,_,Z,?_,?_,?_,?_,?_,?_,?_,?_,?_,?_⟩,?_⟩
   .intro o e;rw[aB (Uj o e),aB (Uj o e),aB (Uj o e)];exact aam o e
   .intro o e hm;rcases fr.nw la hm with z|z
    .exact Uc o e z
    .rw[aB (Uj o e),s4 _ _ (AI o e)]at z;cases z
   .show aW C (upd _ g (.Lc 0 0)) a _ nG;rw[eX,eX,eX];exact hH5.put (by rw[Xf];exact True.intro)
   .intro hm;rcases fr.nw g hm with z|z
    .exact gfp z
    .rw[aA]at z;cases z
   .rw[aA,aiY,aiQ];rw[ajE];rfl
   .refine bY.keep fr.tb (fun b ps e=>?_) (fun b φ e=>?_)
    .have q:=ak e Xf nofun;rw[aB q,aB q,aB q];exact e
    .have q:=ak e Xf nofun;rw[aB q,aB q,aB q];exact e
   .rw[<-amo,HH,List.drop_left' rfl]
   .have z:=akc List.length HH;rw[akt,aiT]at z;omega
   .exact fun c' Eh=>Oa c' (aiS _ Eh)
   .rw[KN,ajE];rfl
   .show 200000-((p+(enc c).length:Nat):Int).toNat<200000-(p:Int).toNat;have:=Eo c;omega
  .rintro σ H' Q1 Q2 hm ⟨v,e1,v2,e2,l2,ys,e3,e4,i1,i2,e5,e6,b,e7,q⟩;exact⟨v,e1,v2,e2,l2,ys,e3,e4,i1,i2,e5,e6,b,e7,hm _ _ q⟩
end
def G6(x:Call):List (List Int):=(fk x::bB x)::(if mw x=true then [bJ x]else [])
def El(c:List (List Int)):List Int:=match c with
 | []=>[]
 |a::rows=>a++rows.flatMap fun r=>(r.length:Int)::r
theorem Kz(x:Call):El (G6 x)=enc x:=by unfold G6 El enc;cases mw x<;>simp
theorem Gm{c:List (List Int)}(h:VbkoacNeutral.asked1 c=true):∃x,VbkoacNeutral.callOf c=some x/\(bJ x).length<=200/\c=G6 x:=by
 unfold VbkoacNeutral.asked1 at h;split at h<;>first
  |exact⟨_,rfl,ajo _,rfl⟩
  |(refine⟨_,rfl,?_,rfl⟩
    rw[ajn,ajn]at h;exact aja h.2.2)
  |cases h
theorem HW(c:List (List Int)):PyVbkoac.whole c=c:=by unfold PyVbkoac.whole;split<;>rfl
theorem Pz{x t:List Int}(h:PyFlat.row l=some (x,t)):l=(x.length:Int)::x++t:=by
 cases l with
 |nil=>cases h
 |cons n r=>
  have h':(if 0<=n/\n.toNat<=r.length then some (r.take n.toNat,r.drop n.toNat)else none)=some (x,t):=h;by_cases q:0<=n/\n.toNat<=r.length
  .rw[ai5 q]at h';injection h' with h';injection h' with h1 h2;subst h1;subst h2;rw[ajb,akO q.2,akj,aj3];congr 1;omega
  .rw[ai0 q]at h';cases h'
theorem Dk:∀{k:Nat} {l:List Int} {xs:List (List Int)} {t:List Int},PyFlat.rows k l=some (xs,t)->l=(xs.flatMap fun r=>(r.length:Int)::r)++t
 |0,l,xs,t,h=>by unfold PyFlat.rows at h;cases h;rfl
 |k+1,l,xs,t,h=>by
  unfold PyFlat.rows at h;split at h
  .cases h
  .rename_i x s hx;split at h
   .cases h
   .rename_i ys u hy;cases h;have e1:=Pz hx;have e2:=Dk hy;rw[e1,e2,ajD,ajE]
theorem Ng{sh:Int->Option (Nat×Nat)}{c:List (List Int)}{t:List Int}(h:PyFlat.call sh l=some (c,t)):l=El c++t:=by
 cases l with
 |nil=>cases h
 |cons p r=>
  have h':(match sh p with
   |none=>none
   |some (n,k)=>if r.length<n then none else match PyFlat.rows k (r.drop n)with
    |none=>none
    |some (xs,t)=>some ((p::r.take n)::xs,t))=some (c,t):=h
  cases hs:sh p with
  |none=>rw[hs]at h';cases h'
  |some nk=>
   obtain⟨n,k⟩:=nk;rw[hs]at h';simp only at h';by_cases q:r.length<n
   .rw[ai5 q]at h';cases h'
   .rw[ai0 q]at h';cases hy:PyFlat.rows k (r.drop n)with
    |none=>rw[hy]at h';cases h'
    |some xu=>
     obtain⟨xs,u⟩:=xu;rw[hy]at h';simp only at h';injection h' with h';injection h' with h1 h2;subst h1;subst h2;have e:=Dk hy;show p::r=(p::r.take n++_)++_;rw[ajE,<-e,akj,aj3]
theorem Au{sh:Int->Option (Nat×Nat)}:∀{f:Nat} {l:List Int} {cs:List (List (List Int))},PyFlat.calls sh f l=some cs->l=cs.flatMap El
 |0,[],cs,h=>by unfold PyFlat.calls at h;cases h;rfl
 |f+1,[],cs,h=>by unfold PyFlat.calls at h;cases h;rfl
 |0,_::_,cs,h=>by unfold PyFlat.calls at h;cases h
 |f+1,p::r,cs,h=>by
  unfold PyFlat.calls at h;split at h
  .cases h
  .rename_i c t hc;split at h
   .cases h
   .rename_i ds hd;cases h;rw[Ng hc,Au hd,ajD]
theorem qS:∀(cs:List (List (List Int))) (xs:List Call) (s:State),cs=xs.map G6->(∀x∈xs,VbkoacNeutral.callOf (G6 x)=some x)->PyFlat.told (PyFlat.played VbkoacNeutral.step s cs)=outs s xs
 |_,[],s,e,_=>by subst e;rfl
 |_,x::xs,s,e,h=>by subst e;have hx:=h x (aiV ..);have st:VbkoacNeutral.step s (G6 x)=Vbkoac.step s x:=(by unfold VbkoacNeutral.step;rw[hx]);show PyFlat.told ((VbkoacNeutral.step s (G6 x)).2::PyFlat.played VbkoacNeutral.step (VbkoacNeutral.step s (G6 x)).1 (xs.map G6))=_;rw[st];show(((Vbkoac.step s x).2.length:Int)::(Vbkoac.step s x).2)++PyFlat.told (PyFlat.played VbkoacNeutral.step (Vbkoac.step s x).1 (xs.map G6))=_;rw[qS _ xs _ rfl fun y hy=>h y (aiS _ hy)];rfl
theorem y3:∀{cs:List (List (List Int))},cs.all VbkoacNeutral.asked1=true->∃xs:List Call,cs=xs.map G6/\(∀x∈xs,VbkoacNeutral.callOf (G6 x)=some x)/\∀x∈xs,(bJ x).length<=200
 | [],_=>⟨[],rfl,fun x hx=>(nomatch hx),fun x hx=>(nomatch hx)⟩
 |c::cs,h=>by
  rw[ale,ajn]at h;obtain⟨x,h1,h2,h3⟩:=Gm h.1;obtain⟨xs,g1,g2,g3⟩:=y3 h.2;refine⟨x::xs,by rw[aji,<-h3,<-g1],fun y hy=>?_,fun y hy=>?_⟩
  .rcases aiZ.mp hy with e|e
   .rw[e,<-h3];exact h1
   .exact g2 y e
  .rcases aiZ.mp hy with e|e
   .rw[e];exact h2
   .exact g3 y e
theorem A1(h:PyVbkoac.answers_asked l=true):∃xs:List Call,l=xs.flatMap enc/\(∀x∈xs,(bJ x).length<=200)/\PyVbkoac.answers l=outs Vbkoac.start xs/\(outs Vbkoac.start xs).length<=10000000/\xs.length<=100:=by
 unfold PyVbkoac.answers_asked at h;cases hc:PyFlat.calls PyVbkoac.shape l.length l with
 |none=>rw[hc]at h;cases h
 |some raw=>
  rw[hc]at h;simp only[ajn]at h;obtain⟨⟨⟨⟨_,h1⟩,_⟩,h3⟩,h4⟩:=h;have wid:raw.map PyVbkoac.whole=raw:=(by rw[show PyVbkoac.whole=id from funext HW,amk]);rw[wid]at h3;unfold VbkoacNeutral.asked at h3;rw[ajn]at h3;obtain⟨xs,g1,g2,g3⟩:=y3 h3.1;have ea:PyVbkoac.answers l=outs Vbkoac.start xs:=(by unfold PyVbkoac.answers PyVbkoac.calls;rw[hc];simp only;rw[wid];exact qS raw xs Vbkoac.start g1 g2);refine⟨xs,?_,g3,ea,?_,?_⟩
  .rw[Au hc,g1,List.flatMap_map];exact jC fun x=>Kz x
  .rw[<-ea];exact aja h4
  .have:=aja h1;rw[g1,aiQ]at this;exact this
theorem NV{c:Call}(h:(bJ c).length<=200):(enc c).length<=206:=by
 unfold enc;rw[aiT,ajc];have h4:(bB c).length<=4:=(by cases c<;>exact Nat.le_of_ble_eq_true rfl);cases mw c with
 |false=>show _+1+0<=206;omega
 |true=>show _+1+((bJ c).length+1)<=206;omega
theorem AW:∀{xs:List Call},(∀x∈xs,(bJ x).length<=200)->(xs.flatMap enc).length<=206*xs.length
 | [],_=>ajo _
 |x::xs,h=>by rw[ajD,aiT,ajc];have:=NV (h x (aiV ..));have:=AW fun y hy=>h y (aiS _ hy);omega
end Pp
namespace L2
open PySem PySem.Spec PyProof.Rows
def Hf(K:W.Frag)(te:TE):TE:=fun σ H Q=>te σ H fun x H1=>∃a,∃ns:List Int,x= .ref a/\ae K H1 a (ns.map V.int)/\ns.length<=68/\∀(mh:List Int) (p:Addr),(∀z,z∈mh↔z∈ns)->mh.Pairwise (·<·)->H1 p=none->Q (.ref p) (upd H1 p (.lst (mh.map V.int)))
end L2
namespace Pp
open PySem PySem.Spec PyProof.Rows L2
open PM (fS)
variable{b:Bool}{A:Around}{w:World}{P prog:Program}{E Q:Value->Shared->Prop}{s:Shared}{ep i j n nT slot:Nat}{es:Array (Int×Value)}{I S T a:Addr}{f:Value}{xs:Array Nat}{base h h':Heap}{mg:Str->Option Value}{C:Cs}{α:Type}{e:Int×Value}{ps:Array Value}{oT:Obj}{Q':Option (Value×Nat)->Shared->Prop}{js:List Nat}
theorem qQ:∀{l m:List Nat},l.Pairwise (·<·)->m.Pairwise (·<·)->(∀z,z∈l↔z∈m)->l=m
 | [],[],_,_,_=>rfl
 | [],y::m,_,_,h=>by have:=(h y).mpr (aiV ..);cases this
 |x::l,[],_,_,h=>by have:=(h x).mp (aiV ..);cases this
 |x::l,y::m,hl,hm,h=>by
  rw[ajV]at hl hm;have e:x=y:=by
   have h1:=(h x).mp (aiV ..);have h2:=(h y).mpr (aiV ..);rcases aiZ.mp h1 with q|q
   .exact q
   .rcases aiZ.mp h2 with r|r
    .exact r.symm
    .have:=hm.1 x q;have:=hl.1 y r;omega
  subst e;rw[qQ hl.2 hm.2 fun z=>?_];constructor
  .intro hz;rcases aiZ.mp ((h z).mp (aiS _ hz))with q|q
   .have:=hl.1 z hz;omega
   .exact q
  .intro hz;rcases aiZ.mp ((h z).mpr (aiS _ hz))with q|q
   .have:=hm.1 z hz;omega
   .exact q
theorem qR{l:List Nat}{ns:List Int}(hm:∀z,z∈ns↔z∈l.map fun(k:Nat)=>(k:Int))(hp:ns.Pairwise (·<·)):ns.map V.int=ah (l.foldr Vbkoac.insert_ []):=by
 have nn:∀z∈ns,z=(z.toNat:Int):=(fun z hz=>by obtain⟨k,_,e⟩:=ai7.mp ((hm z).mp hz);omega);have e1:ns=(ns.map Int.toNat).map fun(k:Nat)=>(k:Int):=by
  rw[aj0]
  conv=>lhs;rw[<-amk ns]
  exact aj6 fun z hz=>nn z hz
 have e2:ns.map Int.toNat=l.foldr Vbkoac.insert_ []:=by
  refine qQ ?_ PM.fh fun z=>?_
  .rw[List.pairwise_map];refine List.Pairwise.imp_of_mem (fun{a b} ha hb hab=>?_) hp;have:=nn a ha;have:=nn b hb;omega
  .rw[PM.gw,ai7];constructor
   .rintro⟨y,hy,e⟩;obtain⟨k,hk,e'⟩:=ai7.mp ((hm y).mp hy);have:k=z:=(by omega);rw[<-this];exact hk
   .intro hz;exact⟨(z:Int),(hm _).mpr (ai7.mpr ⟨z,hz,Z⟩),by omega⟩
 rw[e1,e2];unfold ah;rw[aj0];rfl
def lK:Prop:=∀(X:Cx) (e:Expr) (te:TE) (p1 p2 q1 q2:Pos),X.calm=true->X.mg "sorted"=none->X.mg "set"=none->Gl X "sorted"->Gl X "set"->starEach [e] X.env=(false,eval e X.env)::starEach [] X.env->PE X e te->PE X (.Call (.Name "sorted" p1) [.Call (.Name "set" p2) [e] [] q2] [] q1) (Hf X.K te)
theorem lU(a b:List Nat):ah (a++b)=ah a++ah b:=aiY
section
variable{K:W.Frag}
abbrev IZ:=top 115
theorem xQ:aM ["known","days","revocation","paper"] ["known"] (aF IZ):=dc
theorem MM{f:Addr}{fd:FuncData}(F:bL "turning_days" IZ)(T:Txt K mg C)(R:lK)(Li:mg "sorted"=none)(Lh:mg "set"=none):de 1 ["known"] (Ho C):=by
 refine d9 xQ
 .obtain⟨ka,h,rfl,_⟩:=h;rfl
 .obtain⟨ka,hh,rfl,hK,ok,Yy,hQ⟩:=h;obtain⟨dx,fs,pd,rl,aP,rs,ha,f1,f2,e1,p1,e2,p2⟩:=hK.ex;have n1:=T.nK "papers" (by decide);have n2:=T.nK "revocations" (by decide);refine⟨_,aD (kX (i:=1) (own:=[("revocation",2)]) rfl xQ.nd rfl rfl rfl (ax (aL (pv 0) rfl)) (cV rfl) (fun _ _ _ _ _=>zG 2 xQ.nd) (fun _ _ _ _ _=>eZ) (fun _ _ _ _ _=>eF (K:=K) (pv 2) rfl)) (aD (gZ (bU ajm rfl (i3 (aL (pv 0) rfl)) (zG 3 xQ.nd) (aE (bp (fN aju akn akm gv (pv 1) (bM (aU (cY (aL (pv 3) rfl) (cE gC (aL (pv 3) rfl) aK))))))))) (aE (aH (R _ _ _ _ _ _ _ rfl Li Lh rfl rfl rfl (pv 1))))),?_⟩;have nY:rs.length=hh.revokes.length:=Paired.length p2;refine⟨_,Z,ka,_,dx,fs,_,Z,ha,T.cK,n2,f2,rl,Z,⟨_,ae.of e2⟩,fun D hD=>eG (K:=K) (a:=rl) (xs:=rs.map V.ref) (fun i H'=>aC H H'/\H' D=some (.lst (ah ((hh.revokes.take i).map fun r=>r.since)))) ⟨zU hD,aA⟩ (fun i H' _ ⟨s1,_⟩=>ae.of (s1 _ _ e2)) ?_ ?_⟩
  .rintro i y H1 hi ⟨s1,kC⟩;obtain⟨b,hb,rfl⟩:=bT hi;obtain⟨x,hx,CW⟩:=aR p2 hb;obtain⟨dy,gs,pZ,g1,g2,g3,g4,g5,g6⟩:=(CW.same (aC.x s1)).ex;refine⟨Z,?_⟩;dsimp only[nQ];rw[ai5 rfl];refine⟨_,Z,b,_,dy,gs,_,Z,pZ,T.cR,T.HM,g3,_,kC,?_,aC.upd s1 hD,?_⟩
   .unfold ah;rw[aiQ,aiQ,ajb,ai6];omega
   .rw[aA,aa hx,aiY];unfold ah;rw[aiY];rfl
  rintro H1 ⟨s1,kC⟩;rw[aiQ,nY,ai9]at kC;have Sv:=s1 _ _ e1;have So:=s1 _ _ ha;refine⟨pd,_,Sv,True.intro,fun od=>?_⟩;have CD:ka≠pd:=ak ha e1 nofun;have wF:D≠pd:=ak kC Sv nofun;have kaD:ka≠D:=aG ha hD;have hlen:aP.length=hh.papers.length:=Paired.length p1;have two:∀l:List Paper,(l.flatMap fun p=>[p.from_,p.to_+1]).length=2*l.length:=fun l=>by
   induction l with
   |nil=>rfl
   |cons p l ih=>rw[ajD,aiT,ih];show 2+2*l.length=2*(l.length+1);omega
  let acc:Nat->List Nat:=fun i=>(hh.revokes.map fun r=>r.since)++(hh.papers.take i).flatMap fun p=>[p.from_,p.to_+1]
  have A3:∀i,(acc i).length<=68:=(fun i=>by show((hh.revokes.map fun r=>r.since)++(hh.papers.take i).flatMap fun p=>[p.from_,p.to_+1]).length<=68;rw[aiT,aiQ,two,ajb];have:=ok.fD;omega);refine⟨_,Z,ka,_,dx,fs,_,Z,(by rw[aB CD];exact So),T.cK,n1,f1,pd,od,aP,Z,aA,lD (J:=Ry pd od aP) (n:=aP.length) (fun i σ H'=>∃v2 v3:Option V,σ=[some (.ref ka),some (.ref D),v2,v3]/\(∀b o,upd H1 pd (.br od (.dK aP)) b=some o->b≠D->H' b=some o)/\H' D=some (.lst (ah (acc i)))) ⟨_,_,Z,fun b o e _=>e,(by rw[aB wF,kC];show _=some (HO.lst (ah (_++[])));rw[ajs])⟩ ?_ ?_ ?_⟩
  .rintro i σ H' hi ⟨v2,v3,rfl,k2,_⟩;exact⟨k2 _ _ aA (ajC wF),hi⟩
  .rintro i x σ H2 H3 hi ⟨v2,v3,rfl,k2,qY⟩ ⟨rfl,kk,jn⟩;obtain⟨p,hp,ek,c,ec,wU⟩:=aR p1 jn;have K6:x= .ref c:=ec;subst K6;obtain⟨dy,gs,gl,jo,g1,g2,g3,g4,g5,_⟩:=wU.ex;have cD:c≠D:=aG jo hD;have cp:c≠pd:=ak jo e1 nofun;have wZ:H3 c=some (.ins C.paper dy gs):=k2 _ _ (by rw[aB cp];exact s1 _ _ jo) cD;have al:=A3 i;have nl:(ah (acc i)).length<=68:=(by unfold ah;rw[aiQ];exact al);refine⟨_,Z,.inl ⟨Z,_,ae.of qY⟩,_,Z,c,_,dy,gs,_,Z,wZ,T.cP,T.E1,g2,_,Z,c,_,dy,gs,_,Z,wZ,T.cP,T.E1,g3,_,_,Z,Z,(zL rfl),fun q hq=>?_⟩;have Ue:D≠q:=aG qY hq;refine⟨D,q,_,_,Z,Z,(by rw[aB Ue];exact qY),aA,(by rw[ai6];show _+2<=_;omega),?_⟩;refine⟨_,_,Z,fun b o e nb=>?_,?_⟩
   .have:=k2 b o e nb;rw[aB nb,aB (aG this hq)];exact this
   .rw[aA];show _=some (HO.lst (ah ((hh.revokes.map fun r=>r.since)++(hh.papers.take (i+1)).flatMap fun p=>[p.from_,p.to_+1])));rw[aa hp,aj9,<-ajE];show _=some (HO.lst (ah (acc i++([p].flatMap fun p=>[p.from_,p.to_+1]))));exact akc (fun z=>some (HO.lst z)) (lU (acc i) [p.from_,p.to_+1]).symm
  .rintro σ H2 ⟨v2,v3,rfl,k2,qY⟩;have qb:H2 pd=some (.br od (.dK aP)):=k2 _ _ aA (ajC wF);refine⟨⟨qb,ai2 _⟩,qb,?_⟩;rw[hlen]at qY;have ea:acc hh.papers.length=(hh.revokes.map fun r=>r.since)++hh.papers.flatMap fun p=>[p.from_,p.to_+1]:=(by show(hh.revokes.map fun r=>r.since)++(hh.papers.take hh.papers.length).flatMap (fun p=>[p.from_,p.to_+1])=_;rw[ai9]);have oQ:upd H2 pd (.dK aP) D=some (.lst (((acc hh.papers.length).map fun(k:Nat)=>(k:Int)).map V.int)):=(by rw[aB wF,qY];unfold ah;rw[aj0];rfl);refine⟨_,Z,D,_,Z,ae.of oQ,(by rw[aiQ];exact A3 _),fun mh q hm hp hq=>?_⟩;have er:mh.map V.int=ah (bo hh):=(by refine qR (l:=Vbkoac.changing hh) (fun z=>?_) hp;rw[hm z,ea];unfold Vbkoac.changing;rw[aiY,aiY,ajh,ajh];exact Or.comm);have qp:pd≠q:=(fun z=>by rw[<-z,aA]at hq;cases hq);have sA:aC H (upd H2 pd (.dK aP)):=fun b o e=>by
    by_cases z:b=pd
    .rw[z,aA];rw[z,e1]at e;exact e
    .rw[aB z];exact k2 b o (by rw[aB z];exact s1 _ _ e) (aG e hD)
   rw[er];exact hQ _ q (aC.trans sA (zU hq)) (aC.free sA hq) aA
end
open PySem
theorem uX(xs:Array Nat)(j:Nat)(hr:xs.toList.Pairwise (·<·)):∀(fuel lo hi:Nat),lo<=hi->hi<=xs.size->hi-lo<=fuel->(∀i x,i<lo->xs[i]?=some x->x<j)->(∀i x,hi<=i->xs[i]?=some x->j<=x)->SetTable.below.go xs j fuel lo hi<=xs.size/\(∀i x,i<SetTable.below.go xs j fuel lo hi->xs[i]?=some x->x<j)/\(∀i x,SetTable.below.go xs j fuel lo hi<=i->xs[i]?=some x->j<=x)
 |0,lo,hi,h1,h2,h3,h4,h5=>by have e:lo=hi:=(by omega);subst e;exact⟨h2,h4,h5⟩
 |fuel+1,lo,hi,h1,h2,h3,h4,h5=>by
  have ht:∀{i k x y:Nat},i<k->xs[i]?=some x->xs[k]?=some y->x<y:=(fun{i k x y} hik hx hy=>by rw[<-aj4]at hx hy;obtain⟨Kh,rfl⟩:=ai3.mp hx;obtain⟨Lk,rfl⟩:=ai3.mp hy;exact alo.mp hr i k Kh Lk hik);unfold SetTable.below.go;by_cases fC:lo<hi
  .rw[ai5 fC];have hm:(lo+hi)/2<xs.size:=(by omega);have hg:xs[(lo+hi)/2]?=some xs[(lo+hi)/2]:=ajU hm;have hd:xs.getD ((lo+hi)/2) j=xs[(lo+hi)/2]:=(by rw[alO,hg];rfl);dsimp only;rw[hd];by_cases hc:xs[(lo+hi)/2]<j
   .rw[ai5 hc];refine uX xs j hr fuel _ _ (by omega) h2 (by omega) (fun i x Kh hx=>?_) h5;rcases alN i ((lo+hi)/2)with h|h
    .exact al4 (ht h hx hg) hc
    .have:i=(lo+hi)/2:=(by omega);subst this;rw[hg]at hx;cases hx;exact hc
   .rw[ai0 hc];refine uX xs j hr fuel _ _ (by omega) (by omega) (by omega) h4 (fun i x Kh hx=>?_);rcases alN ((lo+hi)/2) i with h|h
    .have:=ht h hg hx;omega
    .have:i=(lo+hi)/2:=(by omega);subst this;rw[hg]at hx;cases hx;omega
  .rw[ai0 fC];have e:lo=hi:=(by omega);subst e;exact⟨h2,h4,h5⟩
theorem m6(j:Nat)(hr:xs.toList.Pairwise (·<·)):SetTable.below xs j<=xs.size/\(∀i x,i<SetTable.below xs j->xs[i]?=some x->x<j)/\(∀i x,SetTable.below xs j<=i->xs[i]?=some x->j<=x):=uX xs j hr xs.size 0 xs.size (ajo _) (ai2 _) (by omega) (fun i _ h=>absurd h (alb _)) (fun i x h hx=>by rw[ak8 h]at hx;cases hx)
theorem below_at(hr:xs.toList.Pairwise (·<·)){x:Nat}(hx:xs[i]?=some x):SetTable.below xs (x+1)=i+1:=by
 obtain⟨h1,h2,h3⟩:=m6 (x+1) hr;have hi:i<xs.size:=by
  rcases alN i xs.size with h|h
  .exact h
  .rw[ak8 h]at hx;cases hx
 have ge:i+1<=SetTable.below xs (x+1):=by
  rcases alN i (SetTable.below xs (x+1))with h|h
  .exact h
  .have:=h3 i x h hx;omega
 rcases alN (i+1) (SetTable.below xs (x+1))with h|h
 .have hs:i+1<xs.size:=(by omega);have hy:xs[i+1]?=some xs[i+1]:=ajU hs;have a:=h2 (i+1) _ h hy;have b:x<xs[i+1]:=(by rw[<-aj4]at hx hy;obtain⟨Kh,e1⟩:=ai3.mp hx;obtain⟨Lk,e2⟩:=ai3.mp hy;rw[<-e1,<-e2];exact alo.mp hr i (i+1) Kh Lk (akI i));omega
 .omega
theorem DD(hr:xs.toList.Pairwise (·<·)):SetTable.below xs 0=0:=by
 obtain⟨h1,h2,h3⟩:=m6 0 hr;rcases Nat.eq_zero_or_pos (SetTable.below xs 0)with h|h
 .exact h
 .have:=h2 0 (xs[0]'(by omega)) h (ajU (by omega));omega
theorem vE(hr:xs.toList.Pairwise (·<·))(hj:xs[SetTable.below xs j]?≠some j):(SetTable.insertAt xs (SetTable.below xs j) j).toList.Pairwise (·<·):=by
 obtain⟨h1,h2,h3⟩:=m6 j hr;rw[SetTable.toList_insertAt];have ht:∀z∈xs.toList.take (SetTable.below xs j),z<j:=(fun z hz=>by obtain⟨i,hi,e⟩:=alj.mp hz;rw[ajb]at hi;rw[alg]at e;exact h2 i z (by omega) (by rw[<-aj4];exact ai3.mpr ⟨by omega,e⟩));have hp:=amj.mp (by rw[aj3];exact hr:(xs.toList.take (SetTable.below xs j)++xs.toList.drop (SetTable.below xs j)).Pairwise (·<·));have hd:∀z∈xs.toList.drop (SetTable.below xs j),j<z:=fun z hz=>by
  obtain⟨i,hi,e⟩:=alj.mp hz;rw[akt]at hi;rw[List.getElem_drop]at e;have qx:xs[SetTable.below xs j+i]?=some z:=(by rw[<-aj4];exact ai3.mpr ⟨by omega,e⟩);have:=h3 _ z (ak5 _ _) qx;rcases alN j z with h|h
  .exact h
  .have ez:z=j:=(by omega);subst ez;rcases Nat.eq_zero_or_pos i with h0|h0
   .subst h0;exact absurd qx hj
   .have hb:SetTable.below xs z<xs.size:=(by rw[<-ajv];omega);have pb:xs[SetTable.below xs z]?=some xs[SetTable.below xs z]:=ajU hb;have a:=h3 _ _ (ai2 _) pb;have b:xs[SetTable.below xs z]<z:=by
     rw[<-aj4]at pb qx;obtain⟨q1,e1⟩:=ai3.mp pb;obtain⟨q2,e2⟩:=ai3.mp qx;rw[<-e1]
     conv=>rhs;rw[<-e2]
     exact alo.mp hr _ _ q1 q2 (by omega)
    omega
 refine amj.mpr ⟨hp.1,ajV.mpr ⟨hd,hp.2.1⟩,fun a ha b hb=>?_⟩;rcases aiZ.mp hb with rfl|hb
 .exact ht a ha
 .exact al4 (ht a ha) (hd b hb)
structure ow(b:Bool)(t:SetTable):Prop where
 led:t.led=b
 dum:t.dummies= #[]
 W5:t.place.toList.Pairwise (·<·)
theorem ow.fresh(b:Bool):ow b (.fresh 0 0 b):=⟨rfl,rfl,List.Pairwise.nil⟩
theorem ow.standIn{t:SetTable}(h:ow b t)(n:Nat):ow b (t.standIn n):=⟨h.led,rfl,by
 show(Array.range n).toList.Pairwise _;rw[Array.toList_range];exact anm⟩
theorem ow.orStandIn{t:SetTable}(h:ow b t)(n:Nat):ow b (t.orStandIn n):=by
 unfold SetTable.orStandIn;split
 .exact h
 .exact h.standIn n
theorem ow.JR{t:SetTable}(h:ow b t):ow b {t with plain:=false}:=⟨h.led,h.dum,h.W5⟩
theorem has_none(j:Nat):SetTable.has #[] j=false:=rfl
theorem zR{t:SetTable}(hd:t.dummies= #[])(ha:Nat->Int)(h:Int):∀(fuel:Nat) (p:SetTable.Probe),p.dummy=none->∀j d,SetTable.probe.go t ha h fuel p=some (.empty j d)->d=none/\t.slot j= .empty
 |0,p,_,j,d,e=>by unfold SetTable.probe.go at e;cases e
 |fuel+1,p,hp,j,d,e=>by
  have adv:∀q:SetTable.Probe,q.dummy=none->(t.advance q).dummy=none:=(fun q hq=>by unfold SetTable.advance;split<;>exact hq);unfold SetTable.probe.go at e;split at e
  .rename_i hs;injection e with e;injection e with e1 e2;subst e1;exact⟨by rw[<-e2];exact hp,hs⟩
  .rename_i hs;exfalso;unfold SetTable.slot at hs;rw[hd]at hs;dsimp only at hs;split at hs
   .cases hs
   .rw[has_none]at hs;simp at hs
  .split at e
   .injection e with e;cases e
   .exact zR hd ha h fuel _ (adv p hp) j d e
theorem ow.put{t:SetTable}(h:ow b t)(hs:t.slot j= .empty):ow b (t.put j).1:=by
 refine⟨h.led,?_,vE h.W5 ?_⟩
 .show(if SetTable.has t.dummies j=true then _ else t.dummies)= #[];rw[h.dum,has_none];rfl
 .intro e;unfold SetTable.slot at hs;dsimp only at hs;rw[e]at hs;simp at hs
theorem ow.layNew{t:SetTable}(h:ow b t)(es:Array (Int×Value))(k:Int)(x:Value):ow b (PySem.layNew t es k x).2.1:=by
 unfold PySem.layNew;split
 .rename_i slot wd he;unfold SetTable.freeSlot at he;split at he
  .rename_i j d hp;obtain⟨rfl,hs⟩:=zR h.dum _ _ _ _ rfl j d hp;injection he with he;injection he with e1 e2;have Sv:j=slot:=e1;subst Sv;exact(h.put hs).orStandIn _
  .cases he
 .exact h.standIn _
theorem pw(f:Nat->Option α)(l:List Nat)(hl:l.Pairwise (·<·)):((l.filterMap fun j=>(f j).map (j,·)).map (·.1)).Pairwise (·<·)/\∀z∈(l.filterMap fun j=>(f j).map (j,·)).map (·.1),z∈l:=by
 induction l with
 |nil=>exact⟨List.Pairwise.nil,fun z hz=>by cases hz⟩
 |cons a l ih=>
  obtain⟨h1,h2⟩:=ajV.mp hl;obtain⟨i1,i2⟩:=ih h2;rw[ajZ];cases hf:f a with
  |none=>exact⟨i1,fun z hz=>aiS _ (i2 z hz)⟩
  |some y=>
   dsimp only[Option.map];rw[aji];refine⟨ajV.mpr ⟨fun z hz=>h1 z (i2 z hz),i1⟩,fun z hz=>?_⟩;rcases aiZ.mp hz with rfl|hz
   .exact aiV ..
   .exact aiS _ (i2 z hz)
theorem ow.T3{t:SetTable}(h:ow b t)(es:Array (Int×Value))(n:Nat):ow b (relayAll t es n).2.1:=by
 unfold relayAll;split
 .rename_i t' order he;dsimp only;split
  .unfold SetTable.relaid SetTable.laid at he;dsimp only[bind,Option.bind]at he;split at he
   .cases he
   .injection he with he;injection he with e1 e2;subst e1;refine⟨h.led,Z,?_⟩;dsimp only;exact(pw _ _ anm).1
  .exact h.standIn _
 .exact h.standIn _
open PySem PySem.Spec PyProof.Rows
def keyOf(e:Int×Value):Int:=match e.2 with| .int n _=>n|_=>0
abbrev f9(es:Array (Int×Value))(ep:Nat)(t:SetTable):Obj:={cls:= .type "set",dict:=none,data:= .set es ep t}
structure Wb(prog:Program)(w:World)(b:Bool)(es:Array (Int×Value))(t:SetTable)(ns:List Int):Prop where
 el:ElemsOf (intKind prog w) es.toList
 nd:(es.toList.map keyOf).Nodup
 mem:∀z,z∈es.toList.map keyOf↔z∈ns
 Xy:t.fits es.size=true
 tab:ow b t
 len:es.size<=ns.length
def ox(prog:Program)(w:World)(b:Bool)(h:Heap)(a:Addr)(ns:List Int):Prop:=∃(es:Array (Int×Value)) (ep:Nat) (t:SetTable),h.get? a=some (f9 es ep t)/\Wb prog w b es t ns
theorem jY{es:List (Int×Value)}(h:ElemsOf (intKind prog w) es)(he:e∈es):∃t,e.2= .int (keyOf e) t:=by obtain⟨⟨k,hk,_⟩,_⟩:=h e he;obtain⟨t,ht⟩:=Value.isInt_shape hk;exact⟨t,by unfold keyOf;rw[ht]⟩
theorem wM{es:List (Int×Value)}(h:ElemsOf (intKind prog w) es)(he:e∈es)(k:Int):(intKind prog w).is k e.2=true↔k=keyOf e:=by
 obtain⟨t,ht⟩:=jY h he;rw[ht];constructor
 .intro hk;exact Value.isInt_inj (.int (keyOf e) t) _ _ hk (by simp[Value.isInt])
 .rintro rfl;exact ajF _ _ _ _
theorem sW{t:SetTable}(ho:h.get? a=some (f9 es ep t))(wk:Array (Int×Value))(t':SetTable):(h.update a (Obj.putSet wk t')).get? a=some (f9 wk (ep+1) t'):=akl (Obj.putSet wk t') ho rfl
theorem Wb.perm{wk:Array (Int×Value)}{t t':SetTable}{ns:List Int}(S:Wb prog w b es t ns)(p:wk.toList.Perm es.toList)(hf:t'.fits wk.size=true)(ht:ow b t'):Wb prog w b wk t' ns:=⟨S.el.perm p,(p.map keyOf).nodup_iff.mpr S.nd,fun z=>((p.map keyOf).mem_iff).trans (S.mem z),hf,ht,by
  have:=p.length_eq;rw[ajv,ajv]at this;rw[this];exact S.len⟩
theorem LM{ns:List Int}{k:Int}{tk:Tok}{Q:Bool->Shared->Prop}(hS:ox prog w b s.heap a ns)(acF:ns.length+1<scanBound)
  (h:∀r h',Heap.SameBut a s.heap h'->ox prog w b h' a (ns++[k])->Q r {s with heap:=h'}):
  wpAny (model prog w) A (setAddHashed a (.int k tk) ((intKind prog w).hash k)) Q E s:=by
 obtain⟨es,ep,t,ho,S⟩:=hS
 have qz:(intKind prog w).is k (.int k tk)=true:=ajF _ _ _ _
 have Qb:(Value.int k tk).scannable=true:=rfl
 have hb:es.size<scanBound:=by have:=S.len;omega
 unfold setAddHashed setAddHashedIn
 refine aku (aiR (akE ho rfl S.Xy ?_))
 dsimp only
 rw[byScan_of Qb hb S.el]
 simp only[↓reduceIte]
 unfold setAddByScan
 refine aiR ?_
 refine aiR (amW ?_)
 refine aiR (wpAny_setScan_of qz ho rfl S.Xy S.el ?_)
 cases hr:List.findIdx? (fun e=>(intKind prog w).is k e.2) es.toList with
 |some j=>
  dsimp only
  obtain⟨hj,hpj,_⟩:=List.findIdx?_eq_some_iff_getElem.mp hr
  have hk:k∈ns:=by
   rw[<-S.mem,(wM S.el (akK hj) k).mp hpj]
   exact ai7.mpr ⟨_,akK hj,Z⟩
  refine ai4 (ai4 ?_)
  exact h _ s.heap (Heap.SameBut.refl a s.heap) ⟨es,ep,t,ho,S.el,S.nd,fun z=>by
   rw[S.mem z,ajh,aiU]
   exact⟨.inl,fun hz=>hz.elim id fun e=>e▸hk⟩,S.Xy,S.tab,by rw[aiT];exact ajq S.len (ak5 _ _)⟩
 |none=>
  dsimp only
  have hk:k∉es.toList.map keyOf:=fun hm=>by
   obtain⟨e,he,ek⟩:=ai7.mp hm
   have:=List.findIdx?_eq_none_iff.mp hr e he
   rw[(wM S.el he k).mpr ek.symm]at this
   cases this
  have hgw:∀(c:Bool) {s₁:Shared} {Q':Unit->Shared->Prop},Q' () s₁->wpAny (model prog w) A (match c with|true=>rule "set.scan.the-table-gave-way"|false=>pure ()) Q' E s₁:=
   fun c s₁ Q' hq=>by cases c;exact ai4 hq;exact amW hq
  have tx:=layNew_perm t es ((intKind prog w).hash k) (.int k tk)
  have AK:=layNew_fits t es ((intKind prog w).hash k) (.int k tk)
  have KH:=S.tab.layNew es ((intKind prog w).hash k) (.int k tk)
  generalize layNew t es ((intKind prog w).hash k) (.int k tk)=L at tx AK KH⊢
  obtain⟨rz,t1,HX,ahu⟩:=L
  dsimp only at tx AK KH⊢
  rw[Array.toList_push]at tx
  have hsz:rz.size=es.size+1:=by
   have:=tx.length_eq
   rw[ajv,aiT,ajv]at this
   exact this
  have S1:∀t2:SetTable,t2.fits rz.size=true->ow b t2->Wb prog w b rz t2 (ns++[k]):=fun t2 f2 o2=>by
   refine⟨(S.el.push qz Qb).perm tx,?_,fun z=>?_,f2,o2,?_⟩
   .rw[(tx.map keyOf).nodup_iff,aiY,akz]
    refine⟨S.nd,ajP.mpr ⟨ajW,ako⟩,fun x hx y hy=>?_⟩
    rw[aji,al5,aiU]at hy
    subst hy
    intro e
    exact hk (e▸hx)
   .rw[(tx.map keyOf).mem_iff,aiY,ajh,S.mem z,ajh]
    rfl
   .rw[hsz,aiT];have:=S.len;exact ak4 this
  have G7:rz.size<=sizeLine:=amz (by have:=S.len;omega)
  have GP:rz.size<scanBound:=by have:=S.len;omega
  refine aiR (hgw _ ?_)
  have fin:∀t2:SetTable,t2.fits rz.size=true->ow b t2->wpAny (model prog w) A (do
    storeSet a rz t2
    if(!HX&&t2.tooFull)=true then do
      (match(relayAll t2 rz (SetTable.grown rz.size)).2.2 with|true=>rule "set.scan.the-table-gave-way"|false=>pure ())
      storeSet a (relayAll t2 rz (SetTable.grown rz.size)).1 (relayAll t2 rz (SetTable.grown rz.size)).2.1
      pure (some true)
     else pure (some true)) (fun r s'=>∃h',r=some true/\s'={s with heap:=h'}/\Heap.SameBut a s.heap h'/\ox prog w b h' a (ns++[k])) E s:=fun t2 f2 o2=>by
   refine aiR (wpAny_storeSet_of ho rfl ?_ G7)
   have NH:=sW ho rz t2
   have U5:=ajS s.heap a (Obj.putSet rz t2)
   split
   .have hp:=relayAll_perm t2 rz (SetTable.grown rz.size)
    have uB:=relayAll_fits t2 rz (SetTable.grown rz.size)
    have Zo:=o2.T3 rz (SetTable.grown rz.size)
    generalize relayAll t2 rz (SetTable.grown rz.size)=Rl at hp uB Zo⊢
    obtain⟨es2,t3,adq⟩:=Rl
    dsimp only at hp uB Zo⊢
    refine aiR (hgw _ ?_)
    refine aiR (wpAny_storeSet_of NH rfl ?_ (amz (by
     have:=hp.length_eq
     rw[ajv,ajv]at this
     rw[this];exact GP)))
    exact ai4 ⟨_,Z,Z,U5.trans (ajS _ a _),es2,_,t3,sW NH es2 t3,(S1 t2 f2 o2).perm hp uB Zo⟩
   .exact ai4 ⟨_,Z,Z,U5,rz,_,t2,NH,S1 t2 f2 o2⟩
  split
  .refine aiR ?_
   rw[hashByValue_scannable 8 Qb]
   refine ai4 ?_
   refine ake (fin _ ?_ ?_) (fun r s' hr=>?_) fun _ _ e=>e
   .split
    .exact AK
    .exact SetTable.fits_plain_off AK
   .split
    .exact KH
    .exact KH.JR
   .obtain⟨h',rfl,rfl,h1,h2⟩:=hr
    dsimp only
    exact ai4 (h _ h' h1 h2)
  .refine aiR (ai4 ?_)
   refine ake (fin _ ?_ ?_) (fun r s' hr=>?_) fun _ _ e=>e
   .exact AK
   .exact KH
   .obtain⟨h',rfl,rfl,h1,h2⟩:=hr
    dsimp only
    exact ai4 (h _ h' h1 h2)
theorem ox.at{ns:List Int}(S:ox prog w b h a ns)(k:∀o,h.get? a=some o->h'.get? a=some o):ox prog w b h' a ns:=
 let⟨es,ep,t,ho,r⟩:=S;⟨es,ep,t,k _ ho,r⟩
theorem Fz{R:Result->Shared->Prop}{fp wr:List Addr}{G:Array GenState->Array GenState->Prop}{P:Nat->Value->Prop}{St:Nat->Shared->Prop} (W:WalksS prog w A.in1 I fp wr G n P St)(S:Addr)(Xn:S∉fp)(val:Nat->Int)(KD:∀i v,P i v->∃t,v= .int (val i) t)(hb:n+1<scanBound):∀(k i:Nat) (s:Shared),n-i=k->i<=n->St i s->ox prog w b s.heap S ((List.range i).map val)->(∀s',Moved (S::wr) G s s'->ox prog w b s'.heap S ((List.range n).map val)->R (.ok (.ret .none)) s')->codeAny (model prog w) A (.builtin "set.update.loop" ⟨[.ref S,.ref I],[]⟩) R s:=by
 have hSw:S∉wr:=fun h=>Xn (W.sub _ h);have AA:∀b∈wr,b∈S::wr:=fun b hb=>aiS _ hb;intro k
 induction k with
 |zero=>
  intro i s hk hi lx hS hR;have hin:i=n:=(by omega);subst hin;refine ala amr ?_;rw[alk alq _];show wpAny _ A.in1 (pyNext (.ref I)>>=_) _ _ s;refine aiR (W.done s _ _ lx fun s' hm=>?_);show wpAny _ A.in1 (ret Value.none) _ _ s';exact ai4 (hR s' (hm.mono AA) (hS.at fun o e=>hm.heap S o hSw e))
 |succ k ih=>
  intro i s hk hi lx hS hR;have fC:i<n:=(by omega);refine ala amr ?_;rw[alk alq _];show wpAny _ A.in1 (pyNext (.ref I)>>=_) _ _ s;refine aiR (W.item i s _ _ fC lx fun v s' hP Zs hm=>?_);obtain⟨t,rfl⟩:=KD i v hP;have Kr:ox prog w b s'.heap S ((List.range i).map val):=hS.at fun o e=>hm.heap S o hSw e;show wpAny _ A.in1 (holding [Value.int (val i) t] (setAdd S (.int (val i) t))>>=_) _ _ s';refine aiR (aku ?_);unfold setAdd;refine aku ?_;refine aiR ((intKind prog w).pyHash (k:=val i) (ajF _ _ _ _) ?_);refine LM (s:={s' with toks:=s'.toks+1}) Kr (by rw[aiQ,aj7];omega) fun r h' XN Xo=>?_;have e2:(List.range (i+1)).map val=(List.range i).map val++[val i]:=(by rw[alc,aiY];rfl);rw[<-e2]at Xo;refine ai4 ⟨amu alq _,ih (i+1) _ (by omega) fC (W.frame _ s' _ _ Zs (akC _) fun b hb o e=>?_) Xo fun Lb aag aaW=>?_⟩
  .rw[XN.2 b (fun h:b=S=>Xn (by rw[<-h];exact hb))];exact e
  .refine hR Lb (Moved.trans W.gtrans ((hm.mono AA).then_heap (akC _) fun b o hb e=>?_) aag) aaW;rw[XN.2 b (fun h:b=S=>hb (by rw[h];exact aiV))];exact e
theorem Jx(a:Value){Q₁:Value->Shared->Prop} (h:Q₁ (.ref s.heap.objs.size) {s with heap:=s.heap.push (f9 #[] 0 (.fresh 0 0 (!w.params.followText "set-order")))}):codeAny (model prog w) A (.call (.builtin "set.__new__") ⟨[.type "set",a],[]⟩) (wants Q₁ E) s:=by
 refine amS ?_;show wpAny _ A.in1 (do checkBuiltinCall "set.__new__" ⟨[.type "set",a],[]⟩;again (.builtin "set.__new__" ⟨[.type "set",a],[]⟩)) _ _ s;refine aiR (amg (PySem.F.newCall_set_1 a) (ai4 ⟨amu PySem.F.plain_set_new _,ala PySem.F.entry_set_new ?_⟩));rw[alk PySem.F.plain_set_new _];unfold Builtin.«set.__new__» Builtin.Frozenset.newClass;have AA:=sub_set_self;obtain⟨hp,g,d,tk,os⟩:=s;dsimp only
 wp_walk
 refine amG (ai4 ?_);dsimp only;simp only[newObj];refine aiR (wpAny_alloc (ai4 ?_));exact ai4 h
set_option maxHeartbeats 3200000 in
theorem Gh{l:Addr}{items:Array Value}{ns:List Int} (hh:A.handled=none)(hl:s.heap.IsList l items)(hi:PyProof.Rows.IntsAre items.toList ns)(hb:items.size+1<scanBound) (h:∀(h':Heap) (tk:Nat),ox prog w (!w.params.followText "set-order") h' s.heap.objs.size ns->(∀b o,b<s.heap.objs.size->s.heap.get? b=some o->h'.get? b=some o)->Q (.ref s.heap.objs.size) {s with heap:=h',toks:=tk}):wpAny (model prog w) A (call (.type "set") [.ref l]) Q E s:=by
 generalize hbt:(!w.params.followText "set-order")=bt at h;obtain⟨c,tl,aaf⟩:=aln.mro;have VR:=aln.made;have AA:=aln.sub;have Qk:(List.range items.size).map (fun i=>ns.getD i 0)=ns:=by
  have hlen:items.size=ns.length:=(by rw[<-ajv];exact hi.length);rw[hlen];apply amM
  .rw[aiQ,aj7]
  .intro i h1 h2;rw[alL,akM,ajN,aiW h2];rfl
 refine alP (amS ?_);show wpAny _ _ (callAny (.type "set") _) _ _ _;refine ai4 ⟨Code.quiet_builtin _ (by decide+kernel),ala F.entry_type_call ?_⟩;rw[Around.under_plain (weight_type_call_type "set" [.ref l] []) rfl];have h1:=aln.notType;have h2:=aln.canCreate;have hct:=F.typeCall_set_1 (.ref l)
 repeat (any_goals (first|assumption|wp_step))
 refine akH (Jx (.ref l) (E:=E) (Q₁:=fun obj s₁=>obj= .ref s.heap.objs.size/\s₁={s with heap:=s.heap.push (f9 #[] 0 (.fresh 0 0 bt))}) ⟨rfl,by rw[hbt]⟩) fun r s₁ hr=>?_;cases r with
 |error e=>exact hr
 |ok fl=>
  cases fl with
  |ret obj=>
   obtain⟨rfl,rfl⟩:=hr;have hS:(s.heap.push (f9 #[] 0 (.fresh 0 0 bt))).get? s.heap.objs.size=some (f9 #[] 0 (.fresh 0 0 bt)):=aje _ rfl;have hT:Shared.TypeIs {s with heap:=s.heap.push (f9 #[] 0 (.fresh 0 0 bt))} (.ref s.heap.objs.size) "set":=⟨_,hS,rfl⟩;have hli:=aln.init.lookup;have hbi:=aln.init.bind (.ref s.heap.objs.size)
   repeat (any_goals (first|assumption|wp_step))
   refine akH (amh (R:=wants (fun r s₂=>r= .none/\∃h' tk,s₂={s with heap:=h',toks:=tk}/\ox prog w bt h' s.heap.objs.size ns/\(∀b o,b<s.heap.objs.size->s.heap.get? b=some o->h'.get? b=some o)) E) aln.init.plain F.entry_set_init (check_set_init_1 hT ?_)) fun r₂ s₂ Qc=>?_
   .obtain⟨ol,hol,ib,nl,uq⟩:=hl;obtain⟨aeN,UQ,ab3,P6⟩:=ol;simp only at ib uq;subst ib;subst uq;have aaa:(s.heap.push (f9 #[] 0 (.fresh 0 0 bt))).get? l=some {cls:= .type "list",dict:=UQ,data:= .seq items nl,slots:=P6}:=aiX _ hol;have af0:=F.sub_list_set;have af1:=F.sub_list_frozenset;have jZ:(Value.type "list"==Value.type "dict")=false:=(by decide);have rh:(s.heap.push (f9 #[] 0 (.fresh 0 0 bt))).IsList l items:=⟨_,aaa,rfl,nl,rfl⟩;unfold Builtin.«set.__init__» noKeywords Builtin.Frozenset.updateFrom;generalize hPI:pyIter=PI
    wp_walk
    subst hPI;refine akR rh ?_;refine aiR (wpAny_runValue ?_);have hlS:l<s.heap.objs.size:=ajf hol;have hh3:A.in1.in1.in1.handled=none:=(by simp[hh]);have aad:l≠(s.heap.push (f9 #[] 0 (.fresh 0 0 bt))).objs.size:=(by rw[ajO];exact ajB (akT hlS));have Xn:s.heap.objs.size∉ [(s.heap.push (f9 #[] 0 (.fresh 0 0 bt))).objs.size,l]:=(by rw[ajO];simp only[aiZ,aiU,ajW,ak3,not_or];exact⟨ajB (akI _),alD hlS⟩);have KD:∀(i:Nat) (v:Value),items[i]?=some v->∃t,v= .int ((fun i=>ns.getD i 0) i) t:=fun i v hv=>
     PyProof.Rows.IntsAre.int_at hi i v (by rw[aj4];exact hv)
    refine Fz (b:=bt) ((Walks.list hh3 _ l aad items).toS) s.heap.objs.size Xn (fun i=>ns.getD i 0) KD hb (items.size-0) 0 _ (by omega) (ajo _) ⟨⟨_,aje _ rfl,Z,Z⟩,(rh.push _)⟩ ?hS0 ?hR
    case hS0=>
     exact⟨#[],0,_,aiX _ hS,fun e he=>(by cases he),ako,fun z=>Iff.rfl,Z,ow.fresh _,ai2 _⟩
    case hR=>
     intro s' hm Kr;rw[Qk]at Kr;obtain⟨h',g',d',YB,UA⟩:=s';have eg:g'=s.gens:=hm.gens;have ed:d'=s.drawn:=hm.drawn;have eo:UA=s.os:=hm.os;subst eg;subst ed;subst eo;show wpAny _ _ _ _ _ _;refine ai4 ?_;show wpAny _ _ (ret Value.none) _ _ _;refine ai4 ⟨Z,h',YB,Z,Kr,fun b o hb e=>?_⟩;have GP:b≠s.heap.objs.size:=ajB hb;have NO:b≠(s.heap.push (f9 #[] 0 (.fresh 0 0 bt))).objs.size:=(by rw[ajO];exact ajB (akT hb));exact hm.heap b o (by simp only[aiZ,aiU,ajW,ak3,not_or];exact⟨GP,NO⟩) (aiX _ (aiX _ e))
   .cases r₂ with
    |error e=>exact Qc
    |ok fl₂=>
     cases fl₂ with
     |ret r=>
      obtain⟨rfl,h',tk,rfl,Kr,Lk⟩:=Qc
      repeat (any_goals (first|assumption|wp_step))
      exact h _ _ Kr Lk
     |_=>exact Qc.elim
  |_=>exact hr.elim
theorem bR:Slot "set_iterator" "__next__" "set_iterator.__next__":= .of (owner:="set_iterator") (n:="__next__") (by rw[typeLookup_type,builtinLookup_eq_fast];kernel_rfl) (by decide+kernel) (by decide+kernel) (by decide+kernel) (by first|exact .inl (by decide+kernel)|exact .inr (by decide+kernel)) (by rw[isSubtype_type];kernel_rfl)
theorem fj:entryFor table "set_iterator.__next__"=some Builtin.«set_iterator.__next__»:=entryFor_of_tree (by kernel_rfl)
theorem gK(a:Value):argsOk "set_iterator.__next__" ⟨[a],[]⟩:=by unfold argsOk;kernel_rfl
theorem rC:entryFor table "set.__iter__"=some Builtin.«frozenset.__iter__»:=entryFor_alias (id':="frozenset.__iter__") (by kernel_rfl) (by decide+kernel) (by decide+kernel) (by kernel_rfl)
abbrev F7(S:Addr)(ep n:Nat)(f:Value)(i:Nat):Obj:={cls:= .type "set_iterator",data:= .fields #[f,.int i 0,.ref S,.int n 0,.int ep 0]}
theorem sX(a:Addr)(slot given wm:Nat):setNext a slot given wm=(do
  let(es,WK,t)<-setState a
  if<-setsByText then
   if WK !=wm then unsupported "set_iterator.__next__:elements-changed"
   return((<-setWalk a)[given]?).map fun e=>(e.2,slot)
  if(!t.plain&&decide (es.size>1))=true then unsupported "set_iterator.__next__:the-table-is-plain-no-more"
  (if(!t.led&& !es.isEmpty)=true then unsupported "set:maker-not-led"else pure ():Sem Unit)
  return match es[SetTable.below t.place slot]?,t.place[SetTable.below t.place slot]? with
   |some (_,x),some j=>some (x,j+1)
   |_,_=>none):=rfl
section
variable{t:SetTable}
theorem lT{Q':Fin->Shared->Prop}{E':Value->Shared->Prop}(hI:s.heap.get? I=some (F7 S ep n f i))(hS:s.heap.get? S=some (f9 es ep t))(hf:t.fits es.size=true)(hn:es.size=n)
  (hr:wpAny (model prog w) A.in1 (do
   if let .int slot _:=f then
    match<-setNext S slot.toNat (Int.ofNat i).toNat (Int.ofNat ep).toNat with
    |some (x,next)=>
     setField (.ref I) 0 (rawInt next)
     setField (.ref I) 1 (rawInt ((Int.ofNat i)+1))
     ret x
    |none=>setField (.ref I) 2 .none;raiseNew (<-newExc (.type "StopIteration") [])
   else
    let some places<-seqItems? f|unsupported "internal:set_iterator"
    match places[(Int.ofNat i).toNat]? with
    |some (.int place _)=>
     let x<-setNextDrawn S place.toNat (Int.ofNat ep).toNat
     setField (.ref I) 1 (rawInt ((Int.ofNat i)+1))
     ret x
    |some _=>unsupported "internal:set_iterator"
    |none=>setField (.ref I) 0 (rawInt 0);setField (.ref I) 2 .none;raiseNew (<-newExc (.type "StopIteration") [])) Q' E' s):
  wpAny (model prog w) A.in1 (Builtin.«set_iterator.__next__» ⟨[.ref I],[]⟩) Q' E' s:=by
 show wpAny _ _ (fieldsOf (.ref I)>>=_) _ _ s
 refine aiR (amY hI rfl ?_)
 show wpAny _ _ (setEntries S>>=_) _ _ s
 refine aiR (m:=setEntries S) ?_
 unfold setEntries
 refine aiR (akE hS rfl hf (ai4 ?_))
 rw[ai0 (by show¬(((es.size:Int) !=(n:Int))=true);rw[hn];simp)]
 exact hr
theorem lR(k:Heap.SameBut I h h')(RL:S≠I){o:Obj}(hS:h.get? S=some o):h'.get? S=some o:=by rw[k.2 S RL];exact hS
theorem mD{Q:Option Value->Shared->Prop}{x:Value}{nx:Nat}(hI:s.heap.get? I=some (F7 S ep n (.int slot 0) i))(hS:s.heap.get? S=some (f9 es ep t))(hf:t.fits es.size=true)(hn:es.size=n) (hx:∀(A':Around) (E':Value->Shared->Prop) (Q':Option (Value×Nat)->Shared->Prop),Q' (some (x,nx)) s->wpAny (model prog w) A' (setNext S slot i ep) Q' E' s) (hQ:∀h',h'.get? I=some (F7 S ep n (.int nx 0) (i+1))->Heap.SameBut I s.heap h'->Q (some x) {s with heap:=h'}):wpAny (model prog w) A (pyNext (.ref I)) Q E s:=by have hT:s.TypeIs (.ref I) "set_iterator":=⟨_,hI,rfl⟩;unfold pyNext;refine aiR (alu (akF (name:=Str.ofString "__next__") hT bR (akh bR hT fj (lT hI hS hf hn ?_) (gK _))));dsimp only;refine aiR (m:=setNext _ _ _ _) (hx _ _ _ ?_);dsimp only;refine aiR (ak2 hI rfl (by simp) ?_);have h1:(s.heap.update I (Obj.mapFields (·.setIfInBounds 0 (rawInt nx)))).get? I=some (F7 S ep n (.int nx 0) i):=akl _ hI rfl;refine aiR (ak2 (s:={s with heap:=s.heap.update I (Obj.mapFields (·.setIfInBounds 0 (rawInt nx)))}) h1 rfl (by simp) ?_);refine ai4 ⟨_,Z,?_⟩;exact ai4 (hQ _ (akl _ h1 rfl) ((ajS _ I _).trans (ajS _ I _)))
theorem oA{Q:Option Value->Shared->Prop}(hh:A.handled=none)(hI:s.heap.get? I=some (F7 S ep n (.int slot 0) i))(hS:s.heap.get? S=some (f9 es ep t))(hf:t.fits es.size=true)(hn:es.size=n) (hx:∀(A':Around) (E':Value->Shared->Prop) (Q':Option (Value×Nat)->Shared->Prop),Q' none s->wpAny (model prog w) A' (setNext S slot i ep) Q' E' s) (hQ:∀h',Heap.ExtBut I s.heap h'->Q none {s with heap:=h'}):wpAny (model prog w) A (pyNext (.ref I)) Q E s:=by have hT:s.TypeIs (.ref I) "set_iterator":=⟨_,hI,rfl⟩;unfold pyNext;refine aiR (alu (akF (name:=Str.ofString "__next__") hT bR (akh bR hT fj (lT hI hS hf hn ?_) (gK _))));dsimp only;refine aiR (m:=setNext _ _ _ _) (hx _ _ _ ?_);dsimp only;refine aiR (ak2 hI rfl (by simp) ?_);refine aiR (m:=newExc _ _) ?_;simp only[newExc,newTuple];refine aiR (akf ?_ (by size_fits));refine aiR (m:=firstArgMember _ _) (amg (a:=Value.none) (by first|rfl|(simp only[firstArgMember];rfl)) ?_);refine akf ?_ (by size_fits);simp only[raiseNew];refine aiR (am8 ?_);rw[show A.in1.handled=none from hh];refine aiR (ai4 (wpAny_throw ?_));refine aiR (alY (T:="StopIteration") (b:=true) ⟨_,aje _ rfl,Z⟩ am0 ?_);exact ai4 (hQ _ (((ajS ..).extBut.push _).push _))
theorem qt{Q:Option Value->Shared->Prop}{x:Int×Value}(hT':s.heap.get? T=some oT)(hTd:oT.data= .seq ps nT)(hI:s.heap.get? I=some (F7 S ep n (.ref T) i)) (hS:s.heap.get? S=some (f9 es ep t))(hf:t.fits es.size=true)(hn:es.size=n)(hp:ps[i]?=some (.int j 0))(hx:es[j]?=some x) (hQ:∀h',h'.get? I=some (F7 S ep n (.ref T) (i+1))->Heap.SameBut I s.heap h'->Q (some x.2) {s with heap:=h'}):wpAny (model prog w) A (pyNext (.ref I)) Q E s:=by have hT:s.TypeIs (.ref I) "set_iterator":=⟨_,hI,rfl⟩;unfold pyNext;refine aiR (alu (akF (name:=Str.ofString "__next__") hT bR (akh bR hT fj (lT hI hS hf hn ?_) (gK _))));dsimp only;refine aiR (wpAny_seqItems hT' hTd ?_);dsimp only;rw[show ps[(Int.ofNat i).toNat]?=some (.int j 0)from hp];dsimp only;refine aiR (m:=setNextDrawn _ _ _) ?_;unfold setNextDrawn;refine aiR (akE hS rfl hf ?_);dsimp only;rw[ai0 (by simp)];rw[show es[(j:Int).toNat]?=some x from hx];refine ai4 ?_;refine aiR (ak2 hI rfl (by simp) ?_);refine ai4 ⟨_,Z,?_⟩;exact ai4 (hQ _ (akl _ hI rfl) (ajS _ I _))
theorem tN{Q:Option Value->Shared->Prop}(hh:A.handled=none)(hT':s.heap.get? T=some oT)(hTd:oT.data= .seq ps nT)(hI:s.heap.get? I=some (F7 S ep n (.ref T) i)) (hS:s.heap.get? S=some (f9 es ep t))(hf:t.fits es.size=true)(hn:es.size=n)(hp:ps[i]?=none) (hQ:∀h',Heap.ExtBut I s.heap h'->Q none {s with heap:=h'}):wpAny (model prog w) A (pyNext (.ref I)) Q E s:=by have hT:s.TypeIs (.ref I) "set_iterator":=⟨_,hI,rfl⟩;unfold pyNext;refine aiR (alu (akF (name:=Str.ofString "__next__") hT bR (akh bR hT fj (lT hI hS hf hn ?_) (gK _))));dsimp only;refine aiR (wpAny_seqItems hT' hTd ?_);dsimp only;rw[show ps[(Int.ofNat i).toNat]?=none from hp];dsimp only;refine aiR (ak2 hI rfl (by simp) ?_);have h1:(s.heap.update I (Obj.mapFields (·.setIfInBounds 0 (rawInt 0)))).get? I=some (F7 S ep n (.int 0 0) i):=akl _ hI rfl;refine aiR (ak2 (s:={s with heap:=s.heap.update I (Obj.mapFields (·.setIfInBounds 0 (rawInt 0)))}) h1 rfl (by simp) ?_);refine aiR (m:=newExc _ _) ?_;simp only[newExc,newTuple];refine aiR (akf ?_ (by size_fits));refine aiR (m:=firstArgMember _ _) (amg (a:=Value.none) (by first|rfl|(simp only[firstArgMember];rfl)) ?_);refine akf ?_ (by size_fits);simp only[raiseNew];refine aiR (am8 ?_);rw[show A.in1.handled=none from hh];refine aiR (ai4 (wpAny_throw ?_));refine aiR (alY (T:="StopIteration") (b:=true) ⟨_,aje _ rfl,Z⟩ am0 ?_);exact ai4 (hQ _ ((((ajS _ I _).trans (ajS _ I _)).extBut.push _).push _))
end
theorem mz{α:Type}:∀{l:List α} {i:Nat} (h:i<l.length),(l[i]::l.eraseIdx i).Perm l
 |x::l,0,h=>List.Perm.refl _
 |x::l,i+1,h=>by rw[List.eraseIdx_cons_succ,ano];exact(List.Perm.swap x _ _).trans ((mz (anl h)).cons x)
theorem Dz{α:Type}(next:Nat->Nat):∀(fuel k:Nat) (left:List α) (out:Array α),left.length=fuel->(pickOrder.go next fuel k left out).toList.Perm (out.toList++left)
 |0,k,left,out,h=>by rw[amP h];unfold pickOrder.go;rw[ajs]
 |fuel+1,k,left,out,h=>by
  have fC:next k%left.length<left.length:=Nat.mod_lt _ (by omega)
  unfold pickOrder.go;rw[aiW fC];dsimp only;refine(Dz next fuel (k+1) _ _ (by rw[am1 fC];omega)).trans ?_;rw[Array.toList_push,ajE];exact List.Perm.append_left _ (mz fC)
theorem pN(next:Nat->Nat)(xs:Array α):(pickOrder next xs).toList.Perm xs.toList:=by
 have:=Dz next xs.size 0 xs.toList #[] (ajv)
 rw[akP]at this;exact this
section
variable{t:SetTable}
theorem DA{M:Model}{src:Source}{Q:Nat->Shared->Prop}(hn:n≠0)(h:∀i d,i<n->Q i {s with drawn:=d}):wpAny M A (choose src n) Q E s:=fun Γ p hΓ=>by unfold choose;rw[Sem.wp_choose];exact⟨hn,by rw[Sem.wp_pure];exact h _ _ (Nat.mod_lt _ (by omega))⟩
theorem Ad{M:Model}{α:Type}:∀(n:Nat) (xs:List α) (s:Shared) (Q:List α->Shared->Prop),xs.length=n->(∀ys d,ys.Perm xs->Q ys {s with drawn:=d})->wpAny M A (drawOrder n xs) Q E s
 |0,xs,s,Q,hn,h=>by rw[amP hn]at h⊢;exact ai4 (h [] s.drawn List.Perm.nil)
 |n+1,[],s,Q,hn,h=>by cases hn
 |n+1,x::xs,s,Q,hn,h=>by show wpAny M A (choose .order (x::xs).length>>=_) Q E s;refine aiR (DA (by rw[hn];omega) fun i d hi=>?_);rw[aiW hi];dsimp only;refine aiR (Ad n _ _ _ (by rw[am1 hi];omega) fun ys d' hp=>ai4 ?_);exact h _ d' ((hp.cons _).trans (mz hi))
theorem gY{Q:Bool->Shared->Prop}(h:Q (w.params.followText "set-order") s):wpAny (model prog w) A setsByText Q E s:=by unfold setsByText;exact aiR (amG (ai4 h))
theorem wD(hS:s.heap.get? S=some (f9 es ep t))(hf:t.fits es.size=true)(ht:w.params.followText "set-order"=true) (h:Q' (((pickOrder (w.params.setOrder S ep) es)[i]?).map fun e=>(e.2,slot)) s):wpAny (model prog w) A (setNext S slot i ep) Q' E s:=by rw[sX];refine aiR (akE hS rfl hf ?_);dsimp only;refine aiR (gY ?_);rw[ht,ai5 rfl,ai0 (by simp)];refine aiR (m:=setWalk S) ?_;unfold setWalk;refine aiR (akE hS rfl hf ?_);dsimp only;refine aiR (gY ?_);rw[ht,ai5 rfl];refine aiR (amG (ai4 ?_));exact ai4 h
theorem tM(hS:s.heap.get? S=some (f9 es ep t))(hf:t.fits es.size=true)(ht:w.params.followText "set-order"=false)(hl:t.led=true) (hd:(!t.plain&&decide (es.size>1))=false)(hb:SetTable.below t.place slot=i) (h:Q' (match es[i]?,t.place[i]? with|some (_,x),some j=>some (x,j+1)|_,_=>none) s):wpAny (model prog w) A (setNext S slot i ep) Q' E s:=by rw[sX];refine aiR (akE hS rfl hf ?_);dsimp only;refine aiR (gY ?_);rw[ht,ai0 (by simp),hd,ai0 (by simp),hl];simp only[ana,akB,akr,ali];refine aiR (ai4 (ai4 ?_));rw[hb];exact h
theorem xN(hI:s.heap.get? I=some (F7 S ep n f i))(hQ:Q (.ref I) s):wpAny (model prog w) A (pyIter (.ref I)) Q E s:=by have hT:s.TypeIs (.ref I) "set_iterator":=⟨_,hI,rfl⟩;have sl:Slot "set_iterator" "__iter__" "set_iterator.__iter__":= .of (owner:="set_iterator") (n:="__iter__") (by rw[typeLookup_type,builtinLookup_eq_fast];kernel_rfl) (by decide+kernel) (by decide+kernel) (by decide+kernel) (by first|exact .inl (by decide+kernel)|exact .inr (by decide+kernel)) (by rw[isSubtype_type];kernel_rfl);have en:entryFor table "set_iterator.__iter__"=some Builtin.«dict_keyiterator.__iter__»:=entryFor_alias (id':="dict_keyiterator.__iter__") (by kernel_rfl) (by decide+kernel) (by decide+kernel) (by kernel_rfl);refine alV hT sl (akh sl hT en ?_ (by unfold argsOk;kernel_rfl));exact ai4 ⟨_,Z,"set_iterator",_,hT,bR.lookup,hQ⟩
theorem FF(RL:S≠I)(hf:t.fits es.size=true)(ht:w.params.followText "set-order"=true)(hh:A.handled=none):Walks prog w A I [I,S] [I] es.size (fun i v=>(((pickOrder (w.params.setOrder S ep) es).toList.map (·.2)))[i]?=some v) (fun i h=>h.get? I=some (F7 S ep es.size (.int (0:Nat) 0) i)/\h.get? S=some (f9 es ep t))where
 sub:=fun b hb=>by simp at hb;simp[hb]
 frame:=fun _ _ _ st hk=>⟨hk I (by simp) _ st.1,hk S (by simp) _ st.2⟩
 item:=fun i s Q E hi st hQ=>by have hl:(pickOrder (w.params.setOrder S ep) es).size=es.size:=(by rw[<-ajv,(pN _ es).length_eq,ajv]);have Kh:i<(pickOrder (w.params.setOrder S ep) es).size:=(by rw[hl];exact hi);have hg:(pickOrder (w.params.setOrder S ep) es)[i]?=some (pickOrder (w.params.setOrder S ep) es)[i]:=ajU Kh;refine mD (x:=(pickOrder (w.params.setOrder S ep) es)[i].2) (nx:=0) st.1 st.2 hf rfl (fun A' E' Q' q=>wD st.2 hf ht (by rw[hg];exact q)) fun h' h1 h2=>?_;exact hQ _ h' s.toks (by rw[ajd,aj4,hg];rfl) ⟨h1,lR h2 RL st.2⟩ fun b o hb e=>by rw[h2.2 b (fun h=>hb (by simp[h]))];exact e
 done:=fun s Q E st hQ=>by have hl:(pickOrder (w.params.setOrder S ep) es).size=es.size:=(by rw[<-ajv,(pN _ es).length_eq,ajv]);refine oA hh st.1 st.2 hf rfl (fun A' E' Q' q=>wD st.2 hf ht (by rw[ak8 (by rw[hl];exact ai2 _)];exact q)) fun h' he=>?_;exact hQ h' s.toks fun b o hb e=>he b o (fun h=>hb (by simp[h])) e
 self:=fun _ _ _ _ st hQ=>xN st.1 hQ
def slotAt(t:SetTable):Nat->Nat
 |0=>0
 |i+1=>t.place.getD i 0+1
theorem om(h:ow b t)(hi:i<=t.place.size):SetTable.below t.place (slotAt t i)=i:=by
 cases i with
 |zero=>exact DD h.W5
 |succ i=>
  refine below_at h.W5 ?_;rw[alO,ajU (by omega)];rfl
theorem BN(RL:S≠I)(hf:t.fits es.size=true)(ht:w.params.followText "set-order"=false)(h:ow true t)(hd:(!t.plain&&decide (es.size>1))=false)(hh:A.handled=none):Walks prog w A I [I,S] [I] es.size (fun i v=>(es.toList.map (·.2))[i]?=some v) (fun i h=>h.get? I=some (F7 S ep es.size (.int (slotAt t i) 0) i)/\h.get? S=some (f9 es ep t))where
 sub:=fun b hb=>by simp at hb;simp[hb]
 frame:=fun _ _ _ st hk=>⟨hk I (by simp) _ st.1,hk S (by simp) _ st.2⟩
 item:=fun i s Q E hi st hQ=>by have hp:t.place.size=es.size:=(by simp[SetTable.fits]at hf;exact hf.1);have hg:es[i]?=some es[i]:=ajU hi;have GO:t.place[i]?=some (t.place.getD i 0):=(by rw[alO,ajU (by omega)];rfl);refine mD (x:=es[i].2) (nx:=slotAt t (i+1)) st.1 st.2 hf rfl (fun A' E' Q' q=>tM st.2 hf ht h.led hd (om h (by omega)) (by rw[hg,GO];exact q)) fun h' h1 h2=>?_;exact hQ _ h' s.toks (by rw[ajd,aj4,hg];rfl) ⟨h1,lR h2 RL st.2⟩ fun b o hb e=>by rw[h2.2 b (fun h=>hb (by simp[h]))];exact e
 done:=fun s Q E st hQ=>by have hp:t.place.size=es.size:=(by simp[SetTable.fits]at hf;exact hf.1);refine oA hh st.1 st.2 hf rfl (fun A' E' Q' q=>tM st.2 hf ht h.led hd (om h (by omega)) (by rw[ak8 (ai2 _)];exact q)) fun h' he=>?_;exact hQ h' s.toks fun b o hb e=>he b o (fun h=>hb (by simp[h])) e
 self:=fun _ _ _ _ st hQ=>xN st.1 hQ
theorem BO(RL:S≠I)(hIT:T≠I)(hf:t.fits es.size=true)(hj:js.Perm (List.range es.size))(hh:A.handled=none):Walks prog w A I [I,S,T] [I] es.size (fun i v=>(js.filterMap fun j=>es[j]?.map (·.2))[i]?=some v) (fun i h=>h.get? I=some (F7 S ep es.size (.ref T) i)/\h.get? S=some (f9 es ep t)/\h.get? T=some {cls:= .type "tuple",data:= .seq (js.map fun(j:Nat)=>rawInt j).toArray})where
 sub:=fun b hb=>by simp at hb;simp[hb]
 frame:=fun _ _ _ st hk=>⟨hk I (by simp) _ st.1,hk S (by simp) _ st.2.1,hk T (by simp) _ st.2.2⟩
 item:=fun i s Q E hi st hQ=>by
  have hl:js.length=es.size:=(by rw[hj.length_eq,aj7]);have Kh:i<js.length:=(by omega);have hin:js[i]<es.size:=akD.mp (hj.mem_iff.mp (akK Kh));have hg:es[js[i]]?=some es[js[i]]:=ajU hin;have all:∀(l:List Nat),(∀j∈l,j<es.size)->∀(i:Nat) (hi:i<l.length),(l.filterMap fun j=>es[j]?.map (·.2))[i]?=es[l[i]]?.map (·.2):=by
   intro l
   induction l with
   |nil=>intro _ i hi;cases hi
   |cons a l ih=>
    intro hm i hi;have So:=hm a (aiV ..);have ha:es[a]?=some es[a]:=ajU So;rw[ajZ,ha];dsimp only[Option.map];cases i with
    |zero=>rw[alC,List.getElem_cons_zero,ha]
    |succ i=>
     rw[al1,ano];exact ih (fun j hj=>hm j (aiS _ hj)) i (anl hi)
  refine qt (x:=es[js[i]]) (j:=js[i]) st.2.2 rfl st.1 st.2.1 hf rfl (by simp[Kh,rawInt]) hg fun h' h1 h2=>?_;exact hQ _ h' s.toks (by rw[all js (fun j hm=>akD.mp (hj.mem_iff.mp hm)) i Kh,hg];rfl) ⟨h1,lR h2 RL st.2.1,lR h2 hIT st.2.2⟩ fun b o hb e=>by rw[h2.2 b (fun h=>hb (by simp[h]))];exact e
 done:=fun s Q E st hQ=>by have hl:js.length=es.size:=(by rw[hj.length_eq,aj7]);refine tN hh st.2.2 rfl st.1 st.2.1 hf rfl (by simp[hl]) fun h' he=>?_;exact hQ h' s.toks fun b o hb e=>he b o (fun h=>hb (by simp[h])) e
 self:=fun _ _ _ _ st hQ=>xN st.1 hQ
end
theorem zI(a:Addr):setDrawn a=(do
 let(es,_,t)<-setState a
 let Ro<-setsByText
 return !Ro&&(!t.plain&&decide (es.size>1))):=rfl
section
variable{t:SetTable}{ns:List Int}
theorem JU(es:Array (Int×Value))(hj:js.Perm (List.range es.size)):(js.filterMap fun j=>es[j]?.map (·.2)).Perm (es.toList.map (·.2)):=by refine(hj.filterMap _).trans ?_;have:((List.range es.size).filterMap fun j=>es[j]?.map (·.2))=((List.range es.size).filterMap (fun i=>es[i]?)).map (·.2):=(by rw[List.map_filterMap]);rw[this,filterMap_getElem?_range]
theorem J8(hS:s.heap.get? S=some (f9 es ep t))(hf:t.fits es.size=true)(ht:ow (!w.params.followText "set-order") t)(hz:es.size<=sizeLine) (hQ:∀I h' d,s.heap.objs.size<=I->(∀a o,s.heap.get? a=some o->h'.get? a=some o)->(∃(fp:List Addr) (St:Nat->Heap->Prop) (ord:List Value),ord.Perm (es.toList.map (·.2))/\(∀A:Around,A.handled=none->Walks prog w A I fp [I] es.size (fun i v=>ord[i]?=some v) St)/\St 0 h'/\(∀a∈fp,a=S\/s.heap.objs.size<=a))->Q (.ref I) {s with heap:=h',drawn:=d}):wpAny (model prog w) A (pyIter (.ref S)) Q E s:=by
 have hT:s.TypeIs (.ref S) "set":=⟨_,hS,rfl⟩;have fC:S<s.heap.objs.size:=ajf hS;refine alV hT F.slot_set_iter (akh F.slot_set_iter hT rC ?_ (F.args_set_iter_1 _));unfold Builtin.«frozenset.__iter__»;show wpAny _ _ (Builtin.Frozenset.sizeOf S>>=_) _ _ s;refine aiR (m:=Builtin.Frozenset.sizeOf S) ?_;unfold Builtin.Frozenset.sizeOf setEntries;refine aiR (aiR (akE hS rfl hf (ai4 (ai4 ?_))));dsimp only;refine aiR (m:=setDrawn S) ?_;rw[zI];refine aiR (akE hS rfl hf ?_);dsimp only;refine aiR (gY (ai4 ?_));cases hd:(!w.params.followText "set-order"&&(!t.plain&&decide (es.size>1)))with
 |true=>
  rw[ai5 rfl];refine aiR (Ad es.size (List.range es.size) s _ aj7 fun js d hp=>?_);have hl:js.length=es.size:=(by rw[hp.length_eq,aj7]);refine aiR (wpAny_newTuple (items:=js.map fun(j:Nat)=>rawInt j) ?_ (by rw[aiQ,hl];exact hz));dsimp only;refine aiR (m:=setEpoch S) (wpAny_setEpoch_of (aiX _ hS) rfl hf ?_);refine aiR (akf (ai4 ⟨_,Z,"set_iterator",_,⟨_,aje _ rfl,Z⟩,bR.lookup,?_⟩));refine hQ _ _ d (by rw[ajO];exact akC _) (fun a o e=>aiX _ (aiX _ e)) ⟨[_,S,s.heap.objs.size],_,_,JU es hp,fun A' hh=>BO (ep:=ep) (t:=t) ?_ ?_ hf hp hh,⟨aje _ rfl,aiX _ (aiX _ hS),aiX _ (aje _ rfl)⟩,?_⟩
  .rw[ajO];exact ajB (akT fC)
  .rw[ajO];exact ajB (akI _)
  .intro a ha;rcases aiZ.mp ha with rfl|ha
   .rw[ajO];exact .inr (akC _)
   .rcases aiZ.mp ha with rfl|ha
    .exact .inl rfl
    .rw[aiU.mp ha];exact .inr (ai2 _)
 |false=>
  rw[ai0 (by simp)];refine aiR (ai4 ?_);refine aiR (m:=setEpoch S) (wpAny_setEpoch_of hS rfl hf ?_);refine aiR (akf (ai4 ⟨_,Z,"set_iterator",_,⟨_,aje _ rfl,Z⟩,bR.lookup,?_⟩));have jZ:S≠s.heap.objs.size:=ajB fC;have HF:∀a∈[s.heap.objs.size,S],a=S\/s.heap.objs.size<=a:=fun a ha=>by
   rcases aiZ.mp ha with rfl|ha
   .exact .inr (ai2 _)
   .exact .inl (aiU.mp ha)
  cases hx:w.params.followText "set-order"with
  |true=>exact hQ _ _ s.drawn (ai2 _) (fun a o e=>aiX _ e) ⟨_,_,_,(pN _ es).map _,fun A' hh=>FF (ep:=ep) (t:=t) jZ hf hx hh,⟨aje _ rfl,aiX _ hS⟩,HF⟩
  |false=>
   rw[hx]at ht hd;exact hQ _ _ s.drawn (ai2 _) (fun a o e=>aiX _ e) ⟨_,_,_,List.Perm.refl _,fun A' hh=>BN (ep:=ep) (t:=t) jZ hf hx ht hd hh,⟨aje _ rfl,aiX _ hS⟩,HF⟩
theorem Kf{Q:Bool->Shared->Prop}(hT:s.TypeIs (.ref S) "set")(h:Q false s):wpAny (model prog w) A (Builtin.List.listLengthHint (.ref S)) Q E s:=by unfold Builtin.List.listLengthHint;refine aiR (wpAny_specialOf hT F.slot_set_len.lookup ?_);dsimp only;rw[show splitId "set.__len__"=some ("set","__len__")from by decide+kernel];dsimp only;refine aiR (alY (b:=true) hT sub_set_self ?_);rw[ai0 (by decide),ai5 (by decide+kernel)];refine aiR (wpAny_typeOf hT ?_);exact ai4 h
theorem Am{Q:List Value->Shared->Prop}(hh:A.handled=none)(hS:s.heap.get? S=some (f9 es ep t))(hf:t.fits es.size=true)(ht:ow (!w.params.followText "set-order") t)(hz:es.size<=sizeLine) (hQ:∀vs h' d tk,vs.Perm (es.toList.map (·.2))->(∀a o,s.heap.get? a=some o->h'.get? a=some o)->s.toks<=tk->s.heap.objs.size<=h'.objs.size->Q vs {s with heap:=h',drawn:=d,toks:=tk}):wpAny (model prog w) A (collect (.ref S)) Q E s:=by
 have fC:S<s.heap.objs.size:=ajf hS;unfold collect;refine aiR (wpAny_runValue (ala PySem.F.entry_proto_collect ?_));rw[alk PySem.F.plain_proto_collect _];show wpAny _ A.in1 (newList []>>=fun l=>again (.builtin "list.__iadd__" ⟨[l,.ref S],[]⟩)) _ _ s;refine aiR (akf ?_);refine ai4 ⟨amu anc _,ala PySem.F.entry_list_iadd ?_⟩;rw[alk anc _];generalize Li:s.heap.push {cls:= .type "list",dict:=none,data:= .seq ([]:List Value).toArray}=h1;have hL1:h1.get? s.heap.objs.size=some (seqObj "list" #[] 0):=(by rw[<-Li];exact aje _ rfl);have hS1:h1.get? S=some (f9 es ep t):=(by rw[<-Li];exact aiX _ hS);have G7:h1.objs.size=s.heap.objs.size+1:=(by rw[<-Li,ajO]);have hold:∀a o,s.heap.get? a=some o->h1.get? a=some o:=(fun a o e=>by rw[<-Li];exact aiX _ e);show wpAny _ A.in1 (Builtin.List.listExtendWith (.ref s.heap.objs.size) (.ref S) (.ref s.heap.objs.size)) _ _ {s with heap:=h1};unfold Builtin.List.listExtendWith;refine aiR (wpAny_typeOf (T:="set") ⟨_,hS1,Z⟩ ?_);have jZ:Builtin.List.listSameRef (.ref s.heap.objs.size) (.ref S)=false:=(by simp[Builtin.List.listSameRef];exact alD fC);rw[ai0 (by rw[jZ];decide)];refine aiR (J8 (s:={s with heap:=h1}) hS1 hf ht hz fun I h2 d hI Vi hw=>?_);obtain⟨fp,St,ord,hp,W,R6,HF⟩:=hw;dsimp only at hI HF;have Xo:h2.get? S=some (f9 es ep t):=Vi _ _ hS1;refine aiR (aku (Kf ⟨_,Xo,Z⟩ ?_));rw[ai5 (by decide+kernel)];have hLf:s.heap.objs.size∉fp:=fun hm=>by
  rcases HF _ hm with e|e
  .exact absurd e (alD fC)
  .rw[G7]at e;exact aj5 _ e
 have hL2:h2.get? s.heap.objs.size=some (seqObj "list" #[] 0):=Vi _ _ hL1;refine aiR (amW ?_);refine aiR (m:=Builtin.List.listTouch _) ?_;unfold Builtin.List.listTouch;refine aiR (alM hL2 rfl ?_);have hL3:(h2.update s.heap.objs.size (Obj.mapSeq fun x=>x.push Value.none)).get? s.heap.objs.size=some (seqObj "list" #[Value.none] 1):=akl _ hL2 rfl;refine alM (s:={s with heap:=h2.update s.heap.objs.size (Obj.mapSeq fun x=>x.push Value.none),drawn:=d}) hL3 rfl ?_ (zL rfl) (by rw[ai6];exact ajo _);have hL4:((h2.update s.heap.objs.size (Obj.mapSeq fun x=>x.push Value.none)).update s.heap.objs.size (Obj.mapSeq fun x=>x.pop)).get? s.heap.objs.size=some (seqObj "list" #[] 2):=akl _ hL3 rfl;have up:∀a o,a≠s.heap.objs.size->h2.get? a=some o->((h2.update s.heap.objs.size (Obj.mapSeq fun x=>x.push Value.none)).update s.heap.objs.size (Obj.mapSeq fun x=>x.pop)).get? a=some o:=(fun a o ha e=>by rw[al8 _ _ (fun h=>ha h.symm),al8 _ _ (fun h=>ha h.symm)];exact e);have W1:=(W A.in1 hh).toS;refine ai4 ⟨amu PySem.F.plain_extend_loop _,codeAny_extend_loopS W1 hz _ hLf _ es.size 0 _ _ _ rfl (ajo _) ((W A.in1 hh).frame 0 _ _ R6 fun a ha o e=>up a o (fun h=>hLf (h▸ha)) e) hL4 (ItemsOf.nil _) fun s' Nm c' hm Kr Kp=>?_⟩;show wpAny _ A (load s.heap.objs.size>>=_) _ _ s';refine aiR (wpAny_load Kr ?_);obtain⟨h',g',d',YB,UA⟩:=s';have eg:g'=s.gens:=hm.gens;have ed:d'=d:=hm.drawn;have eo:UA=s.os:=hm.os;subst eg;subst ed;subst eo;have hl:ord.length=es.size:=(by rw[hp.length_eq,aiQ,ajv]);have eo:Nm.toList=ord:=by
  apply amM
  .rw[hl,ajv];exact Kp.1
  .intro i h1 h2;have this:ord[i]?=some Nm.toList[i]:=Kp.2 i Nm.toList[i] (by rw[<-aj4];exact aiW h1);rw[aiW h2]at this;injection this with this;exact this.symm
 refine ai4 (hQ Nm.toList h' _ YB (by rw[eo];exact hp) (fun a o e=>?_) hm.toks (aki (ajf Kr)));have ha:a<s.heap.objs.size:=ajf e;refine hm.heap a o (fun hx=>?_) (up a o (ajB ha) (Vi a o (hold a o e)));rcases aiZ.mp hx with e1|e1
 .exact absurd e1 (ajB ha)
 .rw[aiU.mp e1]at ha;rw[G7]at hI;exact absurd (ajx ha (ajq (akC _) hI)) (aj5 _)
theorem F9{l:List (Int×Value)}(h:ElemsOf (PySem.intKind prog w) l):IntsAre (l.map (·.2)) (l.map keyOf):=by
 induction l with
 |nil=>exact .nil
 |cons e l ih=>
  obtain⟨t,ht⟩:=jY h (aiV ..);rw[aji,aji,ht];exact .cons _ _ (ih h.tail)
theorem F8{vs vs':List Value}(p:vs'.Perm vs):∀{ns:List Int},IntsAre vs ns->∃mh,IntsAre vs' mh/\mh.Perm ns:=by
 induction p with
 |nil=>intro ns h;cases h;exact⟨[],.nil,.nil⟩
 |cons x p ih=>
  intro ns h;cases h with
  |cons n t hr=>
   obtain⟨mh,h1,h2⟩:=ih hr;exact⟨n::mh,.cons n t h1,h2.cons n⟩
 |swap x y l=>
  intro ns h;cases h with
  |cons n t hr=>
   cases hr with
   |cons m t' hr=>exact⟨m::n::_,.cons _ _ (.cons _ _ hr),List.Perm.swap _ _ _⟩
 |trans p1 p2 Le ET=>
  intro ns h;obtain⟨ns1,h1,q1⟩:=ET h;obtain⟨ZD,h2,q2⟩:=Le h1;exact⟨ZD,h2,q2.trans q1⟩
theorem km:∀{l:List Int},l.Pairwise (·<=·)->l.Nodup->l.Pairwise (·<·)
 | [],_,_=>List.Pairwise.nil
 |x::l,h,n=>by rw[ajV]at h;rw[ajP]at n;refine ajV.mpr ⟨fun y hy=>?_,km h.2 n.2⟩;have:=h.1 y hy;have:x≠y:=fun e=>n.1 (e▸hy);omega
theorem Bd(hh:A.handled=none)(hS:ox prog w (!w.params.followText "set-order") s.heap S ns)(hz:ns.length<scanBound) (hQ:∀(L:Addr) (h':Heap) d tk (mh:List Int) vs e,(∀z,z∈mh↔z∈ns)->mh.Pairwise (·<·)->mh.length<=ns.length->IntsAre vs mh->h'.get? L=some (seqObj "list" vs.toArray e)->s.heap.objs.size<=L->(∀a o,s.heap.get? a=some o->h'.get? a=some o)->s.toks<=tk->Q (.ref L) {s with heap:=h',drawn:=d,toks:=tk}):wpAny (model prog w) A (call (.builtin "sorted") [.ref S]) Q E s:=by
 obtain⟨es,ep,t,ho,hs⟩:=hS;have qx:es.size<=sizeLine:=amz (ajR hs.len hz);refine Calls.call_function_entry kind_sorted plain_sorted entry_sorted (args_sorted1 _) ?_;unfold Builtin.«sorted»;refine aiR (m:=checkCount "sorted" 1 1 _) (ai4 ?_);refine aiR (Am (by exact hh) ho hs.Xy hs.tab qx fun vs h1 d tk hp hk SW yF=>?_);obtain⟨ms,hi,Sb⟩:=F8 hp (F9 hs.el);have hlen:vs.length=es.size:=(by rw[hp.length_eq,aiQ,ajv]);refine aiR (am7 ?_ (by rw[hlen];exact qx));have VL:(h1.push (seqObj "list" vs.toArray 0)).get? h1.objs.size=some (seqObj "list" vs.toArray 0):=aje _ rfl;refine aiR (aku (akh slot_list_sort ⟨_,VL,Z⟩ entry_list_sort (list_sort_treeAny VL hi (by rw[hlen];exact qx) fun out mh a1 a2 a3=>⟨_,Z,?_⟩) (args_list_sort _)));obtain⟨e,he⟩:=sortedHeap_at (vs:=vs) (out:=out) VL;refine ai4 ⟨_,Z,hQ h1.objs.size _ d tk mh out.toList e (fun z=>?_) (km a3 ?_) ?_ a1 he yF (fun a o ea=>?_) SW⟩
 .rw[a2.mem_iff,Sb.mem_iff];exact hs.mem z
 .exact(a2.trans Sb).nodup_iff.mpr hs.nd
 .rw[(a2.trans Sb).length_eq,aiQ,ajv];exact hs.len
 .have hb:=ajf (hk a o ea);rw[sortedHeap_old (ajB hb) (by rw[ajO];exact akT hb),Heap.get?_push_ne _ _ _ (ajB hb)];exact hk a o ea
end
end Pp
namespace L2
open PySem PySem.Spec PyProof.Rows
theorem Inv.drawn{X:Cx}{pins:List (Addr×Obj)}{σ:St}{H:Hp}{s:Shared}(I:aV H s)(d:Drawn):aV H {s with drawn:=d}:=⟨I.ok,I.os,I.bare,I.base,I.loc,I.cell,I.free,I.iH,I.pin,I.bK,I.len⟩
theorem Gj:bootBuiltins "set"=some (.type "set"):=by decide+kernel
theorem yV:bootBuiltins "sorted"=some (.builtin "sorted"):=by decide+kernel
end L2
namespace Pp
open PySem PySem.Spec PyProof.Rows L2
theorem nU:lK:=by
 intro X e te p1 p2 q1 q2 hc hm1 hm2 g1 g2 hse he pins s σ H Q I h;have hh:X.A.handled=none:=I.ok.hd hc;refine akd (kx I g1 hm1 yV ?_ (by decide) (by decide));refine amI (cQ (Q:=fun us s1=>∃(S:Addr) (ns:List Int) (s0:Shared) (H1:Hp),us=[.ref S]/\aV H1 s0/\ox X.prog X.w (!X.w.params.followText "set-order") s1.heap S ns/\(∃h' tk,s1={s0 with heap:=h',toks:=tk})/\(∀b o,s0.heap.get? b=some o->s1.heap.get? b=some o)/\s0.heap.objs.size<=s1.heap.objs.size/\ns.length<=68/\∀(mh:List Int) (p:Addr),(∀z,z∈mh↔z∈ns)->mh.Pairwise (·<·)->H1 p=none->Q (.ref p) (upd H1 p (.lst (mh.map V.int)))) ?_ fun us s1 hm=>?_) rfl rfl
 .show wpAny _ _ (spliced ((false,eval (.Call (.Name "set" p2) [e] [] q2) X.env)::backTo q1 (starEach [] X.env))) _ _ s;refine ak7 (cQ (Q:=fun u s1=>∃(S:Addr) (ns:List Int) (s0:Shared) (H1:Hp),u= .ref S/\aV H1 s0/\ox X.prog X.w (!X.w.params.followText "set-order") s1.heap S ns/\(∃h' tk,s1={s0 with heap:=h',toks:=tk})/\(∀b o,s0.heap.get? b=some o->s1.heap.get? b=some o)/\s0.heap.objs.size<=s1.heap.objs.size/\ns.length<=68/\∀(mh:List Int) (p:Addr),(∀z,z∈mh↔z∈ns)->mh.Pairwise (·<·)->H1 p=none->Q (.ref p) (upd H1 p (.lst (mh.map V.int)))) ?_ fun u s1 ⟨S,ns,s0,H1,hu,r⟩=>?_)
  .refine akd (kx I g2 hm2 Gj ?_ (by decide) (by decide));refine alf ?_ hse rfl;rw[hse];show wpAny _ _ (spliced ((false,eval e X.env)::backTo q2 (starEach [] X.env))) _ _ s;refine ak7 (cQ (he pins s σ H _ I h) fun u s1 ⟨x,H1,I1,r1,q1⟩=>?_);refine alJ ?_;obtain⟨a,ns,rfl,hl,hn,q⟩:=q1;cases r1;obtain⟨bE,rv,hp,_⟩:=I1.list hl;have hi:=rv.ints;have hlen:bE.length=ns.length:=hi.length;refine Gh (items:=bE.toArray) (ns:=ns) hh hp.isList hi (by rw[ajj,hlen];unfold scanBound;omega) fun h' tk hS hk=>?_;refine⟨_,ns,s1,H1,Z,I1,hS,⟨h',tk,Z⟩,fun b o hb=>hk b o (ajf hb) hb,?_,hn,q⟩;obtain⟨_,_,_,ho,_⟩:=hS;exact aki (ajf ho)
  .refine alJ ?_;exact⟨S,ns,s0,H1,by rw[hu],r⟩
 .obtain⟨S,ns,s0,H1,rfl,I1,hS,⟨h',tk,rfl⟩,hk,hz,hn,q⟩:=hm;refine Bd hh hS (by unfold scanBound;omega) fun L h2 d tk2 mh vs e1 m1 m2 m3 hi hL yF Vi SW=>?_;refine⟨.ref L,upd H1 L (.lst (mh.map V.int)),?_,Z,q mh L m1 m2 (I1.bK.fresh (ajq hz yF))⟩;have J:=(I1.laid (a:=L) (o:= .lst (mh.map V.int)) (h':=h2) (t':=tk2) (fun b u hb=>Vi b u (hk b u hb)) (ajq hz yF) ⟨by rw[aiQ,ai6];omega,vs,e1,nM hi,hL⟩).drawn d;exact J
end Pp
namespace PySem
open Sem (wp)
open AutoSeq1 (wpAny_loadPart')
variable{A:Around}{E Q:Value->Shared->Prop}{s:Shared}{T newId:String}{prog:Program}{w:World}{kw:List (Str×Value)}
theorem C0(l:Addr)(items:Array Value)(n:Nat)(Rh:Option Addr)(sl:Array (Option Value))(t:Tok):Meets (Builtin.«enumerate.__new__» ⟨[.type "enumerate",.ref l],[("start",.int 1 t)]⟩) (fun _ R s=>s.heap.get? l=some {cls:= .type "list",dict:=Rh,data:= .seq items n,slots:=sl}/\R (.ok (.ret (.ref (s.heap.push {cls:= .type "list_iterator",data:= .fields #[.ref l,.int 0 0]}).objs.size))) {s with heap:=(s.heap.push {cls:= .type "list_iterator",data:= .fields #[.ref l,.int 0 0]}).push {cls:= .type "enumerate",data:= .fields #[.none,.bool false,.ref s.heap.objs.size,rawInt 1,.none,.none]}}):= .of_wp fun prog w A R s h=>by
  obtain⟨hp,g,d,tk,os⟩:=s;obtain⟨hl,h⟩:=h;have AA:=sub_enumerate;have hL:Heap.IsList (Shared.heap ⟨hp,g,d,tk,os⟩) l items:=⟨_,hl,rfl,n,rfl⟩
  wp_walk using alw hl
  refine wpAny_stack_any fun st=>ai4 ?_;split
  .rename_i c _ _ _ _ _;cases(c==Value.type "enumerate")
   .wp_walk using alw hl,akR hL
    exact⟨_,Z,h⟩
   .wp_walk using alw hl,akR hL
    exact⟨_,Z,h⟩
  .wp_walk using alw hl,akR hL
   exact⟨_,Z,h⟩
theorem rN{CV:String}{Bn Bi:Builtin}{args:List Value}{S:Spec}{Q₁:Value->Shared->Prop}(ft:TypeCalled T newId CV) (hct:checkTypeCall T ⟨args,kw⟩=pure ())(hcn:checkBuiltinCall newId ⟨.type T::args,kw⟩=pure ()) (RZ:entryFor table newId=some Bn)(Ra:entryFor table CV=some Bi)(g:Meets (Bn ⟨.type T::args,kw⟩) S) (h:S A.in1 (wants Q₁ E) s) (VN:∀obj s₁,Q₁ obj s₁->s₁.TypeIs obj T/\argsOk CV ⟨obj::args,kw⟩/\∃Si,Meets (Bi ⟨obj::args,kw⟩) Si/\Si A.in1 (wants (fun r s₂=>r= .none/\Q obj s₂) E) s₁):wpAny (model prog w) A (call (.type T) args kw) Q E s:=by
 obtain⟨c,tl,aaf⟩:=ft.mro;have VR:=ft.made;have AA:=ft.sub;refine alP (amS ?_);show wpAny _ _ (callAny (.type T) _) _ _ _;refine ai4 ⟨Code.quiet_builtin _ (by decide+kernel),ala F.entry_type_call ?_⟩;rw[Around.under_plain (weight_type_call_type T args kw) (units_type_call_type T args kw)];have h1:=ft.notType;have h2:=ft.canCreate
 repeat (any_goals (first|assumption|wp_step))
 refine akH (amh ft.plain RZ (amg hcn (g prog w A.in1 _ s h))) fun r s₁ hr=>?_;cases r with
 |error e=>exact hr
 |ok fl=>
  cases fl with
  |ret obj=>
   obtain⟨hT,bK,Si,gi,hsi⟩:=VN _ _ hr;have hli:=ft.init.lookup;have hbi:=ft.init.bind obj
   repeat (any_goals (first|assumption|wp_step))
   refine akH (amh ft.init.plain Ra (ft.init.check _ _ _ _ _ _ _ _ hT bK (gi prog w A.in1 _ s₁ hsi))) fun r₂ s₂ Qc=>?_;cases r₂ with
   |error e=>exact Qc
   |ok fl₂=>
    cases fl₂ with
    |ret r=>
     obtain⟨rfl,hq⟩:=Qc
     repeat (any_goals (first|assumption|wp_step))
    |_=>exact Qc.elim
  |_=>exact hr.elim
theorem mf{self a:Value}{rest:List Value}(hl:typeLookup (.type T) "__init__"=pure (some (.builtin "object.__init__"))) (hm:Bind.madeBy (.type T)=pure (some newId))(jZ:(some newId !=some "object.__new__")=true):Meets (Builtin.«object.__init__» ⟨self::a::rest,kw⟩) (fun _ R s=>s.TypeIs self T/\R (.ok (.ret .none)) s):=by
 refine Meets.of_wp fun prog w A R s hs=>?_;obtain⟨hT,hq⟩:=hs
 repeat (any_goals (first|assumption|wp_step))
 exact⟨_,Z,hq⟩
theorem Cz(a v:Value):checkTypeCall "enumerate" ⟨[a],[("start",v)]⟩=pure ():=by kernel_rfl
theorem GW(a v:Value):checkBuiltinCall "enumerate.__new__" ⟨[.type "enumerate",a],[("start",v)]⟩=pure ():=by kernel_rfl
theorem C1(a b v:Value):argsOk "object.__init__" ⟨[a,b],[("start",v)]⟩:=by unfold argsOk;rw[signature?_of (id:="object.__init__") (n:=['_','_','t','i','n','i','_','_']) (o:=['t','c','e','j','b','o']) (by kernel_rfl) F.owner_object];kernel_rfl
theorem rM{l:Addr}{items:Array Value}{t:Tok}(hL:s.heap.IsList l items) (h:∀h',IsEnum h' (s.heap.objs.size+1) s.heap.objs.size 1 .none->h'.IsListIter s.heap.objs.size l 0->h'.objs.size=s.heap.objs.size+2->(∀b o,s.heap.get? b=some o->h'.get? b=some o)->Q (.ref (s.heap.objs.size+1)) {s with heap:=h'}):wpAny (model prog w) A (call (.type "enumerate") [.ref l] [("start",.int 1 t)]) Q E s:=by
 obtain⟨⟨c,Rh,dt,sl⟩,hl,hc,n,hd⟩:=hL
 replace hc:c= .type "list":=hc
 replace hd:dt= .seq items n:=hd
 subst hc hd;have ft:TypeCalled "enumerate" "enumerate.__new__" "object.__init__":=F.called_enumerate;refine rN (Q₁:=fun obj s₁=>s₁.TypeIs obj "enumerate"/\Q obj s₁) ft (Cz _ _) (GW _ _) F.entry_enumerate_new F.entry_object_init (C0 l items n Rh sl t) ⟨hl,?_⟩ fun obj _ hq=>⟨hq.1,C1 obj _ _,_,mf ft.init.lookup ft.made (by decide),hq.1,Z,hq.2⟩;have hz:(s.heap.push {cls:= .type "list_iterator",data:= .fields #[.ref l,.int 0 0]}).objs.size=s.heap.objs.size+1:=ajO ..;show _/\_;rw[hz];have he:IsEnum ((s.heap.push {cls:= .type "list_iterator",data:= .fields #[.ref l,.int 0 0]}).push {cls:= .type "enumerate",data:= .fields #[.none,.bool false,.ref s.heap.objs.size,rawInt 1,.none,.none]}) (s.heap.objs.size+1) s.heap.objs.size 1 .none:=(by have:=aje (s.heap.push {cls:= .type "list_iterator",data:= .fields #[.ref l,.int 0 0]}) (o:={cls:= .type "enumerate",data:= .fields #[.none,.bool false,.ref s.heap.objs.size,rawInt 1,.none,.none]}) rfl;rw[hz]at this;exact this);refine⟨⟨_,he,Z⟩,h _ he ⟨_,aiX _ (aje _ rfl),Z,Z⟩ (by rw[ajO,hz]) fun b o x=>aiX _ (aiX _ x)⟩
theorem uW{M:Model}{pos:Pos}{args:List (Bool×Sem Value)}{ZX:List (Option Str×Sem Value)} (Cf:(args.any (·.1)||ZX.any (·.1.isNone))=false) (h:wpAny M A (evalArgs (.type T) true args ZX) (fun a s₁=>wpAny M A (call (.type T) a.pos a.kw) Q E s₁) E s):wpAny M A (callWith pos (.type T) [] args ZX) Q E s:=by unfold callWith;refine aiR (aku (ake h (fun a s₁ h₁=>aiR (alX ?_)) fun _ _ x=>x));simp only[Cf];refine aiR (ai4 ?_);exact aiR (ake h₁ (fun r s₂ hr=>aiR (aku (wpAny_point (ai4 hr)))) fun _ _ x=>x)
end PySem
namespace L2
open PySem PySem.Spec PyProof.Rows
variable{w:World}{prog:Program}{A:Around}{elts:List Expr}{kk:Nat}{FJ:Pos}
theorem Ac{it:Addr}{fp:List Addr}{n:Nat}{P:Nat->Value->Prop}{St:Nat->Heap->Prop}(D:Draws prog w A it fp n P St):Draws prog w A it fp (n+1) (fun i x=>∃j,i=j+1/\P j x) (fun i h=>∃j,i=j+1/\St j h)where
 live:=fun i h ⟨j,_,st⟩=>D.live j h st
 frame:=fun i h h' ⟨j,e,st⟩ k=>⟨j,e,D.frame j h h' st k⟩
 item:=fun i s Q E hi ⟨j,e,st⟩ hQ=>D.item j s Q E (by omega) st fun x h' tk px mS sb=>hQ x h' tk ⟨j,e,px⟩ ⟨j+1,by omega,mS⟩ sb
 done:=fun s Q E ⟨j,e,st⟩ hE=>D.done s Q E (by have:j=n:=(by omega);rw[<-this];exact st) hE
theorem GY(hh:A.handled=none)(it l:Addr)(items:Array Value)(i:Nat)(hx:items[i]?=none):Draws prog w A it [it,l] 0 (fun _ _=>False) (fun _ h=>h.IsListIter it l i/\h.IsList l items)where
 live:=fun _ _ st=>let⟨o,ho,_⟩:=st.1;⟨o,ho⟩
 frame:=fun _ _ _ st hk=>⟨st.1.at fun o e=>hk it (aiV ..) o e,st.2.at fun o e=>hk l (by simp) o e⟩
 item:=fun _ _ _ _ h=>absurd h (alb _)
 done:=fun _ _ _ st hE=>wpAny_nextOf_list_end hh st.1 st.2 hx hE
def Rx(K:W.Frag)(a:Addr):It:=⟨fun i H=>∃(xs:List V) (x:V),ae K H a xs/\xs[i]?=some x,fun i H v H'=>∃T x,v= .ref T/\H T=none/\H'=upd H T (.tup [.int ((i:Int)+1),x])/\∀xs,ae K H a xs->xs[i]?=some x,fun i H=>∃xs:List V,ae K H a xs/\xs.length<=i⟩
theorem BR{P:Program}{K:W.Frag}(a e it:Addr):Turn P w K (.Tuple elts kk FJ) (Rx K a) [e,it] e (fun i h=>(∃old,IsEnum h e it ((i:Int)+1) old)/\h.IsListIter it a i/\e≠it)where
 mem:=by simp
 obj:=fun i h st b hb=>by
  obtain⟨⟨old,he⟩,⟨o,ho,hc,hd⟩,_⟩:=st;have e':b=e\/b=it:=(by simpa using hb);rcases e' with z|z
  .rw[z];exact⟨_,he,fun v q=>nomatch q⟩
  .rw[z];exact⟨o,ho,fun v q=>by rw[hd]at q;cases q⟩
 keep:=fun i h h' st k=>let⟨⟨old,he⟩,hi,jZ⟩:=st;⟨⟨old,k e (by simp) _ he⟩,hi.at fun o q=>k it (by simp) o q,jZ⟩
 item:=by
  intro X hP hw hK hc i pins s σ H E I hf st hg;subst hP hw hK;obtain⟨⟨old,he⟩,hit,jZ⟩:=st;obtain⟨xs,x,hq,hx⟩:=hg;obtain⟨bE,rv,p,hz⟩:=I.list hq;obtain⟨u,hu,ru⟩:=rv.get hx;have hel:e<s.heap.objs.size:=ajf he;have hil:it<s.heap.objs.size:=(by obtain⟨_,q,_⟩:=hit;exact ajf q);have yl:a≠it:=(fun z=>by obtain⟨o1,q1,c1,_⟩:=hit;obtain⟨o2,q2,c2,_⟩:=p.isList;rw[z,q1]at q2;cases q2;rw[c1]at c2;injection c2 with c2;exact absurd c2 (by decide));have hea:e≠a:=(fun z=>by obtain⟨o2,q2,c2,_⟩:=p.isList;rw[<-z,he]at q2;cases q2;injection c2 with c2;exact absurd c2 (by decide));have hi:i<bE.toArray.size:=(by rw[ajj];exact(ai3.mp hu).1);have uC:IsEnum s.heap e it ((i+1:Nat):Int) old:=he;refine wpAny_pyNext_enum_itemD (Ac (Draws.list (A:=X.A.in1) (I.ok.hd hc) it a yl bE.toArray)) uC ⟨i,Z,hit,p.isList⟩ (by omega) jZ (by simp[jZ,hea]) fun x' h' tk Lg ho GK hT hsz hk=>?_;obtain⟨j,ej,Ze⟩:=Lg;obtain rfl:i=j:=by omega
  have Zm:x'=u:=(by have e1:bE.toArray[i]?=some x':=Ze;have e2:bE.toArray[i]?=some u:=(by simpa using hu);rw[e1]at e2;exact ajr e2);subst Zm;obtain⟨j2,ej2,GK,_⟩:=GK;obtain rfl:j2=i+1:=by omega
  refine⟨_,rfl,wpAny_letOwnedTupleGo_enum (s:={s with heap:=h',toks:=tk+1}) ho fun Oj he' sb=>?_⟩;have RH:Oj.get? s.heap.objs.size=some {cls:= .type "tuple",data:= .seq #[.int ((i:Int)+1) tk,x']}:=(sb.2 _ (alD hel)).trans hT;have new:cj X.prog X.w (upd H s.heap.objs.size (.tup [.int ((i:Int)+1),x])) Oj s.heap.objs.size (.tup [.int ((i:Int)+1),x]):=⟨by show 2<=sizeLine;decide,[.int ((i:Int)+1) tk,x'],.cons ⟨_,rfl⟩ (.cons ru .nil),⟨_,RH,rfl,_,rfl⟩⟩;have I1:aV (upd H s.heap.objs.size (.tup [.int ((i:Int)+1),x])) {s with heap:=Oj,toks:=tk+1}:=I.vb (ch:=[e,it]) (fun b ob hb q=>(sb.2 b (fun z=>hb (by simp[z]))).trans (hk b ob (fun z=>hb (by simp[z])) (fun z=>hb (by simp[z])) q)) hf (ai2 _) new;refine⟨.ref s.heap.objs.size,_,I1,Z,⟨_,x,Z,I.bK.fresh (ai2 _),Z,fun ys hy=>by rw[I.oK hy hq];exact hx⟩,⟨⟨x',?_⟩,GK.at fun o q=>(sb.2 it (ajC jZ)).trans q,jZ⟩,fun b hb=>?_⟩
  .exact he'
  .have pb:b<s.heap.objs.size:=by
    have e':b=e\/b=it:=(by simpa using hb);rcases e' with z|z
    .rw[z];exact hel
    .rw[z];exact hil
   rw[aB (ajB pb)];exact(hf b hb).1
 done:=by intro X hP hw hK hc i pins s σ H E I hf st hg;subst hP hw hK;obtain⟨⟨old,he⟩,hit,jZ⟩:=st;obtain⟨xs,hq,hx⟩:=hg;obtain⟨bE,rv,p,hz⟩:=I.list hq;obtain⟨f0,f1,f2,f3,f4,f5⟩:=hf it (by simp);have hl:=rv.length;have yl:a≠it:=(fun z=>by obtain⟨o1,q1,c1,_⟩:=hit;obtain⟨o2,q2,c2,_⟩:=p.isList;rw[z,q1]at q2;cases q2;rw[c1]at c2;injection c2 with c2;exact absurd c2 (by decide));exact wpAny_pyNext_enum_endD (GY (A:=X.A.in1) (I.ok.hd hc) it a bE.toArray i (by simp;omega)) he ⟨hit,p.isList⟩ fun h' eb=>⟨Z,I.turned (t':=s.toks) (fun b o hb q=>eb b o hb q) f0 f1 f3 f4 f5⟩
 self:=fun A i s Q E st h=>let⟨⟨_,he⟩,_⟩:=st;wpAny_pyIter_enum he h
def QX(K:W.Frag)(ta:TA):TI:=fun σ H R=>ta σ H fun vs H1=>∃a xs,vs=[.ref a]/\ae K H1 a xs/\R (Rx K a) H1
theorem JS{X:Cx}{e:Expr}{ta:TA}{p pos Uk kG:Pos}{j:Nat}(hg:Gl X "enumerate")(hm:X.mg "enumerate"=none)(ha:PA X [e] ta)(hs:starEach [e] X.env=[(false,eval e X.env)]:=by rfl):PI X (.Tuple elts kk FJ) (.Call (.Name "enumerate" p) [e] [⟨some "start",.Constant (.int 1) j kG,Uk⟩] pos) (QX X.K ta):=by
 intro pins s σ H R I h;refine akd (kx I hg hm boot_enumerate ?_);refine uW (by rw[hs];rfl) (evalArgs_kw2 (by rfl) (cQ (ha pos pins s σ H _ I h) fun us s1 ⟨vs,H1,I1,r1,q1⟩=>?_) hs);refine(show wpAny _ _ (evalAll [(do let v<-eval (.Constant (.int 1) j kG) X.env;standAt pos;pure v)]) _ _ s1 from ?_);refine wpAny_evalAll_cons (aiR (wpAny_Constant_int (aiR (alX (ai4 (wpAny_evalAll_nil ?_))))));obtain⟨a,xs,ex,hq,q⟩:=q1;subst ex;cases r1 with
 |cons r rr=>
  cases rr;cases r;have I1':=I1.tok (s1.toks+1);obtain⟨bE,rv,p',hz⟩:=I1'.list hq;refine rM p'.isList fun h' he hit hsz hk=>wpAny_pyIter_enum he ?_;have I2:aV H1 {s1 with heap:=h',toks:=s1.toks+1}:=I1.kept (t':=s1.toks+1) hk;refine⟨s1.heap.objs.size+1,[s1.heap.objs.size+1,s1.heap.objs.size],_,_,H1,Z,I2,BR a (s1.heap.objs.size+1) s1.heap.objs.size,⟨⟨.none,he⟩,hit,Nat.succ_ne_self _⟩,fun b hb=>?_,q⟩;have e':b=s1.heap.objs.size+1\/b=s1.heap.objs.size:=(by simpa using hb);have hle:s1.heap.objs.size<=b:=by
   rcases e' with z|z
   .rw[z];exact ak5 _ _
   .rw[z];exact ai2 _
  exact I1.Kx hle (I1.bK.fresh hle)
end L2
namespace Pp
open PySem PySem.Spec PyProof.Rows L2
open PM (ao bS fS Rk)
variable{K:Frag}{w:World}{mg:Str->Option Value}{P prog:Program}{base h:Heap}{LO LN a c c1 c2 f kS:Addr}{C:Cs}{p0 p1 p2 p3 p4 q qual y:Str}{fd:FuncData}{kz:List Int}{an od:Option Addr}{ps:List Str}{fv ct doc oc pm:Value}{sp:Sp}{e e1 j:Nat}{m n:Nd}{as:List Addr}{H:Hp}{uo sl:Array (Option Value)}{A:Around}{E:Value->Shared->Prop}{s:Shared}{vs:List Value}{X:Cx}{z:Int}
theorem Ku{h:Known}(r:Rk h n (PM.rk h n)):PM.gd h n=(au h n).findIdx (fun g=>g.all (PM.lv h (PM.rk h n-1)))/\PM.gd h n<(au h n).length/\(au h n)[PM.gd h n]?=some (PM.gr h n):=by
 obtain⟨p,g,hp,ho,hg,Vl,_⟩:=PM.Ek r;have eg:au h n=p.grounds.map fun g=>g.map (nodeOf p n.2):=(by unfold au;rw[hp];simp only;rw[ai5 ho]);refine⟨?_,?_,?_⟩
 .rw[eg,List.findIdx_map];unfold PM.gd;rw[hp];simp only;congr 1;funext g;simp[alH,amF]
 .rw[eg,aiQ];exact(ai3.mp hg).1
 .rw[eg,ajd,hg,Vl];rfl
def Cv(ok:List Nd->Bool)(gs:List (List Nd))(i:Nat):List V:=((List.range i).filter fun j=>ok (gs.getD j [])).map fun(j:Nat)=>V.int ((j:Int)+1)
theorem K1{ok:List Nd->Bool}{gs:List (List Nd)}(h:gs.findIdx ok<gs.length):(Cv ok gs gs.length)[0]?=some (V.int ((gs.findIdx ok:Int)+1)):=by
 unfold Cv;generalize hm:gs.findIdx ok=m at h;have e:List.range gs.length=List.range m++(m::(List.range (gs.length-m-1)).map fun j=>m+1+j):=by
  have e1:gs.length=m+(1+(gs.length-m-1)):=by omega
  conv=>lhs;rw[e1]
  rw[List.range_add,List.range_add,aiY,aj0];congr 1;simp only[List.range_one,aji,al5,Nat.add_zero,akj,akP];congr 1;refine aj6 fun j _=>?_;show m+(1+j)=m+1+j;omega
 have no:(List.range m).filter (fun j=>ok (gs.getD j []))=[]:=(by rw[al7];intro j hj;have hj:=akD.mp hj;have:=List.not_of_lt_findIdx (p:=ok) (xs:=gs) (i:=j) (by rw[hm];exact hj);rw[ajN,aiW (by omega)];simpa using this);have yes:ok (gs.getD m [])=true:=(by have:=List.findIdx_getElem (p:=ok) (xs:=gs) (w:=by rw[hm];exact h);rw[ajN,aiW h];simpa [hm]using this);rw[e,aj8,no,akP,ajT (p:=fun j=>ok (gs.getD j [])) yes];rfl
section
variable{K:W.Frag}
abbrev Yn:=top 45
theorem FT:aM ["known","pair","ranks","fitting","place","ground","rest"] ["known","pair","ranks"] (aF Yn):=dc
def To(C:Cs):Sp:=fun vs H Q _=>∃ka h b n rd R a,vs=[.ref ka,.ref b,.ref rd]/\aq C H ka h/\fS h/\TupAt H b n/\H rd=some (.dT (lj R))/\dw h a R/\n∈under h a/\PM.st h n/\∀H',aC H H'->Q (.int ((PM.gd h n:Int)+1)) H'
theorem UN(F:bL "proof_ground" Yn)(T:Txt K mg C)(dG:kj 4):de 5 ["known","pair","ranks"] (To C):=by
 refine d9 FT
 .obtain⟨ka,h,b,n,rd,R,a,rfl,_⟩:=h;rfl
 .obtain⟨ka,hh,b,n,rd,R,a,rfl,hK,ok,hb,jm,hR,hn,lx,hQ⟩:=h;have hu:=bu hr;have fD:=ja hK n;refine⟨_,aD (zS 3 FT.nd (aU cA)) (aD (bU ajm rfl (JS (by rfl) T.dZ (bM (aJ dG hr (cY (pv 0) (pv 1))))) (JT rfl (nj (zG 4 FT.nd) (nj (zG 5 FT.nd) D0))) (aE (aZ (bF (bA lJ (by rfl) T.dZ PyProof.Rows.Boot.«all» (bb (fw (own:=[("rest",6)]) rfl FT.nd (ax (pv 5)) (cV rfl) (fun _ _ _ _ _=>zG 6 FT.nd) (fun _ _ _ _ _=>eZ) (fun _ _ _ _ _=>tI (kZ (fB hu (pv 6) (pv 2))) (pO (fe n9 (dq hu (pv 2) (pv 6)) (dq hu (pv 2) (pv 1)))))) cA))) (aE (bp (fN aju ajM ajL cN (pv 3) (bM (pv 4))))) aN))) (aE (aH (af aX (pv 3) aK)))),?_⟩;have rs:=(PM.fG ok lx).1;obtain⟨g1,g2,g3⟩:=Ku rs;have lkn:R.lookup n=some (PM.rk hh n):=(hR n hn _).mpr rs;have tst:∀m∈bG hh n,∀j,R.lookup m=some j->decide ((j:Int)<(PM.rk hh n:Int))=PM.lv hh (PM.rk hh n-1) m:=(fun m hm j e=>by have rj:=(hR m (dj ok a n hn m hm) j).mp e;have:=rs.pos;rw[ajw,ajQ,PM.Rk.lt_iff rj];omega);have tno:∀m∈bG hh n,R.lookup m=none->PM.lv hh (PM.rk hh n-1) m=false:=fun m hm e=>by
   cases q:PM.lv hh (PM.rk hh n-1) m with
   |false=>rfl
   |true=>
    obtain⟨j,_,rj⟩:=PM.Dp _ q;rw[(hR m (dj ok a n hn m hm) j).mpr rj]at e;cases e
  let OM:List Nd->Bool:=fun g=>g.all (PM.lv hh (PM.rk hh n-1))
  refine⟨ajo _,fun fl Ec=>?_⟩;have s0:aC H (upd H fl (.lst [])):=zU Ec;refine⟨_,Z,_,Z,ka,hh,b,n,Z,hK.same (aC.x s0),s0 _ _ hb,fun H1 gl ls s1 pY Cm jz GG=>?_⟩;have aaB:=s1 _ _ aA;have La:=aC.trans s0 s1;have ZJ:gl≠fl:=(fun q=>by rw[q,aA]at pY;cases pY);have ZI:fl∉ls:=(fun hm=>by have:=GG fl hm;rw[aA]at this;cases this);have hlen:ls.length=(au hh n).length:=Paired.length jz;refine⟨gl,_,Z,ae.of Cm,lD (J:=Rx K gl) (n:=ls.length) (fun i σ H'=>∃(v4 v5 v6:Option V),σ=[some (.ref ka),some (.ref b),some (.ref rd),some (.ref fl),v4,v5,v6]/\aC H H'/\H' gl=some (.lst (ls.map V.ref))/\Paired (aT H') ls (au hh n)/\H' fl=some (.lst (Cv OM (au hh n) i))) ⟨none,none,none,Z,La,Cm,jz,aaB⟩ ?_ ?_ ?_⟩
  .rintro i σ H2 hi ⟨v4,v5,v6,rfl,s2,GO,yD,Vs⟩;exact⟨_,V.ref ls[i],ae.of GO,by rw[ajd,aiW hi];rfl⟩
  .rintro i x σ H2 H3 hi ⟨v4,v5,v6,rfl,s2,GO,yD,Vs⟩ ⟨Tu,y,rfl,hT,eH,hy⟩;have XH:=hy _ (ae.of GO);obtain⟨l,hl,rfl⟩:=bT XH;obtain⟨g,hg,as,yl,Sg⟩:=aR yD hl;have ly:g∈au hh n:=ai1 hg;have h4:=fD.2.1 g ly;have Bz:aC H2 H3:=(by rw[eH];exact zU hT);have RG:H3 Tu=some (.tup [.int ((i:Int)+1),.ref l]):=(by rw[eH];exact aA);refine⟨Tu,_,Z,gF.of RG,Z,_,_,Z,_,_,Z,Z,?_⟩;have s3:=aC.trans s2 Bz;have HE:=Bz _ _ GO;have hf3:=Bz _ _ Vs;have Qs:Paired (aT H3) ls (au hh n):=Paired.a8 yD fun _ _ z=>z.same (aC.x Bz);have AI:=Bz _ _ yl;have VO:aI H3 as g:=Paired.a8 Sg fun _ _ z=>Bz _ _ z;refine⟨_,Z,l,Z,⟨_,ae.of AI⟩,fun D hD=>eG (K:=K) (a:=l) (xs:=as.map V.ref) (fun j H'=>aC H3 H'/\H' D=some (.lst (((g.take j).map (PM.lv hh (PM.rk hh n-1))).map V.bl))) ⟨zU hD,aA⟩ (fun j H' _ ⟨s4,_⟩=>ae.of (s4 _ _ AI)) ?_ ?_⟩
   .rintro j y H4 hj ⟨s4,nF⟩;obtain⟨c,hc,rfl⟩:=bT hj;obtain⟨m,hm,Sj⟩:=VO.lC hc;have XX:m∈bG hh n:=akJ.mpr ⟨g,ly,ai1 hm⟩;have Tz:=aC.trans s3 s4;have KJ:=Tz _ _ jm;have fin:∀v:Bool,v=PM.lv hh (PM.rk hh n-1) m->∃acc,H4 D=some (.lst acc)/\acc.length<sizeLine/\aC H3 (upd H4 D (.lst (acc++[V.bl v])))/\upd H4 D (.lst (acc++[V.bl v])) D=some (.lst (((g.take (j+1)).map (PM.lv hh (PM.rk hh n-1))).map V.bl)):=fun v hv=>by
     refine⟨_,nF,?_,aC.upd s4 hD,?_⟩
     .rw[aiQ,aiQ,ajb,ai6];omega
     .rw[aA,aa hm,aiY,aiY,hv];rfl
    refine⟨Z,?_⟩;dsimp only[nQ];rw[ai5 rfl];refine⟨_,Z,_,Z,rd,_,Z,ba.t KJ (s4 _ _ Sj),_,Z,?_⟩;rw[dm,aj2];cases e:R.lookup m with
    |none=>exact aO nofun (fun _=>fin false (tno m XX e).symm)
    |some j'=>
     refine aO (fun _=>?_) (fun z=>absurd rfl z);refine⟨_,Z,_,Z,rd,_,Z,(show ba H4 rd (V.ref c) (some (V.int (j':Nat))) by
      have:=ba.t KJ (s4 _ _ Sj);rw[dm,e]at this;exact this),_,rfl,_,rfl,rd,_,rfl,(show ba H4 rd (V.ref b) (some (V.int (PM.rk hh n:Nat))) by
      have:=ba.t KJ (Tz _ _ hb);rw[dm,lkn]at this;exact this),_,_,rfl,rfl,?_⟩
     exact fin _ (tst m XX j' e)
   .rintro H4 ⟨s4,nF⟩;rw[aiQ,Paired.length VO,ai9]at nF;refine⟨D,_,Z,ae.of nF,_,Z,?_⟩;have eo:((g.map (PM.lv hh (PM.rk hh n-1))).all id)=OM g:=(by rw[alH];rfl);rw[eo];have Tz:=aC.trans s3 s4;have BF:=s4 _ _ HE;have Xh:=s4 _ _ hf3;have mr:Paired (aT H4) ls (au hh n):=Paired.a8 Qs fun _ _ z=>z.same (aC.x s4);have egD:(au hh n).getD i []=g:=(by rw[ajN,hg];rfl);have WG:Cv OM (au hh n) (i+1)=Cv OM (au hh n) i++(if OM g=true then [V.int ((i:Int)+1)]else []):=by
     unfold Cv;rw[alc,aj8,aiY];congr 1;by_cases q:OM g=true
     .rw[ai5 q,ajT (by rw[egD];exact q)];rfl
     .rw[ai0 q,akb (by rw[egD];exact q)];rfl
    refine aO (fun h1=>?_) (fun h1=>?_)
    .refine⟨_,Z,.inl ⟨Z,_,ae.of Xh⟩,_,Z,fl,_,_,Z,Z,Xh,?_,?_⟩
     .unfold Cv;rw[aiQ,ai6];have z:=ajk (fun j=>OM ((au hh n).getD j [])) (List.range i);rw[aj7]at z;have:=fD.1;omega
     .refine⟨_,_,_,Z,aC.upd Tz Ec,?_,?_,?_⟩
      .rw[aB ZJ];exact BF
      .exact fM (by rw[Xh];exact True.intro) ZI mr
      .rw[aA,WG,ai5 h1]
    .refine⟨_,_,_,Z,Tz,BF,mr,?_⟩;rw[WG,ai0 h1,ajs];exact Xh
  .rintro σ H2 ⟨v4,v5,v6,rfl,s2,GO,yD,Vs⟩;refine⟨⟨_,ae.of GO,by rw[aiQ];exact ai2 _⟩,?_⟩;rw[hlen]at Vs;have hd:=K1 (ok:=OM) (gs:=au hh n) (by rw[<-g1];exact g2);rw[<-g1]at hd;refine⟨_,Z,fl,_,_,_,Z,Z,ae.of Vs,aS (j:=0) hd,?_⟩;exact hQ H2 s2
abbrev Yl:=top 46
theorem Yc:aM ["known","pair","ranks"] ["known","pair","ranks"] (aF Yl):=dc
def Tj(C:Cs):Sp:=fun vs H Q _=>∃ka h b n rd R a,vs=[.ref ka,.ref b,.ref rd]/\aq C H ka h/\fS h/\TupAt H b n/\H rd=some (.dT (lj R))/\dw h a R/\n∈under h a/\PM.st h n/\∀H' l,aC H H'->H l=none->aT H' l (PM.gr h n)->Q (.ref l) H'
theorem UL(F:bL "proof_rests" Yl)(dG:kj 5)(dP:jk 5):de 6 ["known","pair","ranks"] (Tj C):=by
 refine d9 Yc
 .obtain⟨ka,h,b,n,rd,R,a,rfl,_⟩:=h;rfl
 .obtain⟨ka,hh,b,n,rd,R,a,rfl,hK,ok,hb,jm,hR,hn,lx,hQ⟩:=h;refine⟨_,aE (aH (af aX (aJ dG hr (cY (pv 0) (pv 1))) (cE xq (aJ dP hr (ny (pv 0) (pv 1) (pv 2))) aK))),?_⟩;have rs:=(PM.fG ok lx).1;obtain⟨g1,g2,g3⟩:=Ku rs;refine⟨_,Z,_,Z,ka,hh,b,n,Z,hK,hb,fun H1 gl ls s1 pY Cm jz GG=>?_⟩;refine⟨_,Z,_,Z,_,Z,ka,hh,b,n,rd,R,a,Z,hK.same (aC.x s1),ok,s1 _ _ hb,s1 _ _ jm,hR,hn,lx,fun H2 s2=>?_⟩;have fC:PM.gd hh n<ls.length:=(by rw[Paired.length jz];exact g2);obtain⟨l,hl⟩:∃l,ls[PM.gd hh n]?=some l:=⟨_,aiW fC⟩;obtain⟨g,hg,hlg⟩:=aR jz hl;rw[g3]at hg;cases hg;refine⟨_,_,Z,Z,gl,_,_,V.ref l,Z,Z,ae.of (s2 _ _ Cm),?_,?_⟩
  .have e:(PM.gd hh n:Int)+1-1=((PM.gd hh n:Nat):Int):=(by omega);rw[e];exact aS (v:=V.ref l) (by rw[ajd,hl];rfl)
  .exact hQ H2 l (aC.trans s1 s2) (GG l (ai1 hl)) (hlg.same (aC.x s2))
end
open PM (fS)
section
variable{K:W.Frag}
abbrev Bv:=top 100
theorem rY:aM ["house","days","paper","revocation"] ["house"] (aF Bv):=dc
theorem Jn(F:bL "days_heard" Bv)(T:Txt K mg C)(R:lK)(Li:mg "sorted"=none)(Lh:mg "set"=none):de 1 ["house"] (Tr C):=by
 refine d9 rY
 .obtain⟨a,st,fp,rfl,_⟩:=h;rfl
 .obtain⟨a,st,fp,rfl,hH,hQ⟩:=h;obtain⟨dx,fs,pd,rd,dl,pk,rk,ds,e1,e2,e3,e4,e5,e6,e7,e8,e9,o9,iU,iT,wo,r6⟩:=hH.ex;have n1:=T.nH "papers" (by decide);have n2:=T.nH "revocations" (by decide);refine⟨_,aD (gZ (kX (i:=1) (own:=[("paper",2)]) rfl rY.nd rfl rfl rfl (i3 (aL (pv 0) rfl)) (cV rfl) (fun _ _ _ _ _=>zG 2 rY.nd) (fun _ _ _ _ _=>eZ) (fun _ _ _ _ _=>eF (K:=K) (pv 2) rfl))) (aD (gZ (bU ajm rfl (i3 (aL (pv 0) rfl)) (zG 3 rY.nd) (aD (bp (fN aju ajM ajL cN (pv 1) (bM (aL (pv 3) rfl)))) (aE (aZ (b9 (xo (aL (pv 3) rfl))) (aE (bp (fN aju ajM ajL cN (pv 1) (bM (aL (pv 3) rfl))))) aN))))) (aE (aH (R _ _ _ _ _ _ _ rfl Li Lh rfl rfl rfl (pv 1))))),?_⟩;have hP:Paired (fR C H) pk st.papers:=Paired.a8 e8 fun _ _ z=>z.on iU;have hlen:pk.length=st.papers.length:=Paired.length hP;have nY:rk.length=st.revokes.length:=Paired.length o9;have ok:=hH.ok;refine⟨pd,_,e7,True.intro,fun od=>?_⟩;have CD:a≠pd:=ak e1 e7 nofun;refine⟨_,Z,a,_,dx,fs,_,Z,(by rw[aB CD];exact e1),T.cH,n1,e4,pd,od,pk,Z,aA,fun D hD=>oN (J:=Ry pd od pk) (n:=pk.length) (fun i H'=>aC (upd H pd (.br od (.dK pk))) H'/\H' D=some (.lst (ah ((st.papers.take i).map fun p=>p.heard)))) ⟨zU hD,aA⟩ (fun i H' hi ⟨s1,_⟩=>⟨s1 _ _ aA,hi⟩) ?_ ?_⟩
  .rintro i x H1 H2 hi ⟨s1,kC⟩ ⟨rfl,kk,jn⟩;obtain⟨p,hp,ek,c,ec,wU⟩:=aR hP jn;have K6:x= .ref c:=ec;subst K6;obtain⟨dy,gs,gl,jo,g1,g2,g3,g4,g5,_⟩:=wU.ex;have cp:c≠pd:=ak jo e7 nofun;refine⟨Z,?_⟩;dsimp only[nQ];rw[ai5 rfl];refine⟨_,Z,c,_,dy,gs,_,Z,s1 _ _ (by rw[aB cp];exact jo),T.cP,T.E1,g4,_,kC,?_,aC.upd s1 hD,?_⟩
   .unfold ah;rw[aiQ,aiQ,ajb,ai6];have:=ok.pf;omega
   .rw[aA,aa hp,aiY,lU];rfl
  rintro H1 ⟨s1,kC⟩;have qb:H1 pd=some (.br od (.dK pk)):=s1 _ _ aA;refine⟨⟨qb,ai2 _⟩,qb,?_⟩;rw[hlen,ai9]at kC;have wF:D≠pd:=ak kC qb nofun;have Xs:H D=none:=(by rw[aB wF]at hD;exact hD);have sU:aC H (upd H1 pd (.dK pk)):=aC.unlock e7 s1;have qY:upd H1 pd (.dK pk) D=some (.lst (ah (st.papers.map fun p=>p.heard))):=(by rw[aB wF];exact kC);generalize upd H1 pd (.dK pk)=H2 at sU qY⊢;have e9':=sU _ _ e9;refine⟨rd,_,e9',True.intro,fun rZ=>?_⟩;have Mu:a≠rd:=ak e1 e9 nofun;have SM:D≠rd:=ak qY e9' nofun;let acc:Nat->List Nat:=fun i=>(st.papers.map fun p=>p.heard)++(st.revokes.take i).flatMap fun r=>r.heard::r.back.toList;have A3:∀i,(acc i).length<=64:=fun i=>by
   have h1:∀l:List Revoke,(l.flatMap fun r=>r.heard::r.back.toList).length<=2*l.length:=fun l=>by
    induction l with
    |nil=>exact ajo _
    |cons r l ih=>
     rw[ajD,aiT,ajc,ajc];have:r.back.toList.length<=1:=(by cases r.back<;>simp);omega
   have:=h1 (st.revokes.take i);show((st.papers.map fun p=>p.heard)++(st.revokes.take i).flatMap fun r=>r.heard::r.back.toList).length<=64;rw[aiT,aiQ];rw[ajb]at this;have:=ok.pf;have:=ok.rf;omega
  refine⟨_,Z,a,_,dx,fs,_,Z,(by rw[aB Mu];exact sU _ _ e1),T.cH,n2,e5,rd,rZ,rk,Z,aA,lD (J:=Ry rd rZ rk) (n:=rk.length) (fun i σ H'=>∃v2 v3:Option V,σ=[some (.ref a),some (.ref D),v2,v3]/\(∀b o,upd H2 rd (.br rZ (.dK rk)) b=some o->b≠D->H' b=some o)/\H' D=some (.lst (ah (acc i)))) ⟨_,_,Z,fun b o e _=>e,(by rw[aB SM,qY];show _=some (HO.lst (ah (_++[])));rw[ajs])⟩ ?_ ?_ ?_⟩
  .rintro i σ H' hi ⟨v2,v3,rfl,k2,_⟩;exact⟨k2 _ _ aA (ajC SM),hi⟩
  .rintro i x σ H3 H4 hi ⟨v2,v3,rfl,k2,oQ⟩ ⟨rfl,kk,jn⟩;obtain⟨r,gO,ek,c,ec,Cb⟩:=aR o9 jn;have K6:x= .ref c:=ec;subst K6;obtain⟨dy,gs,jo,g1,g2,g3,g4,g5,g6⟩:=Cb.ex;have cD:c≠D:=aG jo Xs;have cr:c≠rd:=ak jo e9 nofun;have hc4:H4 c=some (.ins C.rev dy gs):=k2 _ _ (by rw[aB cr];exact sU _ _ jo) cD;have nl:(ah (acc i)).length<=64:=(by unfold ah;rw[aiQ];exact A3 i);have tk:acc (i+1)=acc i++(r.heard::r.back.toList):=(by show _++(st.revokes.take (i+1)).flatMap (fun r=>r.heard::r.back.toList)=_;rw[aa gO,aj9,<-ajE];congr 1;simp);refine⟨_,Z,.inl ⟨Z,_,ae.of oQ⟩,_,Z,c,_,dy,gs,_,Z,hc4,T.cR,T.HM,g4,D,_,_,Z,Z,oQ,(by rw[ai6];omega),?_⟩;refine⟨_,Z,c,_,dy,gs,_,Z,(by rw[aB cD];exact hc4),T.cR,T.HM,g5,_,Z,?_⟩;cases hb:r.back with
   |none=>
    refine aO nofun (fun _=>?_);refine⟨_,_,Z,fun b o e nb=>by rw[aB nb];exact k2 b o e nb,?_⟩;rw[aA,tk,hb];exact akc (fun z=>some (HO.lst z)) (lU (acc i) [r.heard]).symm
   |some bk=>
    refine aO (fun _=>?_) (fun z=>absurd rfl z);rw[hb]at g5;refine⟨_,Z,.inl ⟨Z,_,ae.of aA⟩,_,Z,c,_,dy,gs,_,Z,(by rw[aB cD];exact hc4),T.cR,T.HM,g5,D,_,_,Z,Z,aA,(by rw[aiT,ai6];show _+1<_;omega),?_⟩;refine⟨_,_,Z,fun b o e nb=>by rw[aB nb,aB nb];exact k2 b o e nb,?_⟩;rw[aA,tk,hb,ajE];exact akc (fun z=>some (HO.lst z)) (lU (acc i) [r.heard,bk]).symm
  .rintro σ H3 ⟨v2,v3,rfl,k2,oQ⟩;have RW:H3 rd=some (.br rZ (.dK rk)):=k2 _ _ aA (ajC SM);refine⟨⟨RW,ai2 _⟩,RW,?_⟩;rw[nY]at oQ;have ea:acc st.revokes.length=PM.lY st:=(by show _++(st.revokes.take st.revokes.length).flatMap (fun r=>r.heard::r.back.toList)=_;rw[ai9];rfl);have nF:upd H3 rd (.dK rk) D=some (.lst (((acc st.revokes.length).map fun(k:Nat)=>(k:Int)).map V.int)):=(by rw[aB SM,oQ];unfold ah;rw[aj0];rfl);refine⟨_,Z,D,_,Z,ae.of nF,(by rw[aiQ];have:=A3 st.revokes.length;omega),fun mh q hm hp hq=>?_⟩;have er:mh.map V.int=ah (ir st):=qR (l:=PM.lY st) (fun z=>by rw[hm z,ea]) hp;have sA:aC H (upd H3 rd (.dK rk)):=fun b o e=>by
    by_cases z:b=rd
    .rw[z,aA];rw[z,e9]at e;exact e
    .rw[aB z];exact k2 b o (by rw[aB z];exact sU _ _ e) (aG e Xs)
   rw[er];exact hQ _ q (aC.trans sA (zU hq)) (aC.free sA hq) aA
end
open PySem PySem.Spec PyProof.Rows
section
variable{keys:Array Value}{P:PySem.Fin->Shared->Prop}
def sortedAt(h:Heap)(kS a:Addr)(out:Array Value):Heap:=(h.update kS (Obj.mapSeq fun _=>(#[]:Array Value))).update a (Obj.mapSeq fun _=>out)
theorem z7{st:SortSt}(nk:s.heap.get? kS=some (seqObj "list" keys e))(na:s.heap.get? a=some (seqObj "list" #[] e1))(Xd:kS≠a) (hk:IntsAre keys.toList kz)(hlen:kz.length=vs.length)(hZ:vs.length<=sizeLine)(hp:(arrOf st).Perm (keys.zip vs.toArray))(hs:SortedTo (arrOf st) (arrOf st).size)(Ec:failedOf st=none) (lx:Stable PyProof.Rows.intKind (arrOf st) (keys.zip vs.toArray)) (h:∀out:Array Value,out.size=vs.length->KskOutSt false kz vs out.toList->P (.done (.ret .none)) {s with heap:=sortedAt s.heap kS a out}):wpAny (model prog w) A (ksk_tail a false e1 (.ref kS) st) P E s:=by have hsz:keys.size=vs.length:=(by have h1:=hk.length;rw[ajv]at h1;omega);have Zr:(arrOf st).size=vs.length:=(by rw[hp.size_eq,Array.size_zip,hsz,ajj,Nat.min_self]);have NC:((arrOf st).map (·.2)).size=vs.length:=(by rw[Array.size_map];exact Zr);have s1:=ajS s.heap kS (Obj.mapSeq fun _=>(#[]:Array Value));have na1:(s.heap.update kS (Obj.mapSeq fun _=>(#[]:Array Value))).get? a=some (seqObj "list" #[] e1):=(s1.2 a Xd.symm).trans na;unfold ksk_tail;dsimp only;refine aiR (alM nk rfl ?_ (by rw[hsz];exact hZ) (ajo _));refine aiR (wpAny_letGo ?_);refine aiR (seqEpoch_at na1 rfl ?_);refine aiR (alM na1 rfl ?_ (ajo _) (ajq (alE (by simp only[akr,ali];exact NC)) (Nat.le_succ_of_le hZ)));rw[Ec];simp only[bne_self_eq_false,akr,ali];exact ai4 (h _ NC (ksk_outSt (b:=false) hk hp hs lx))
theorem M0(nk:s.heap.get? kS=some (seqObj "list" keys e))(na:s.heap.get? a=some (seqObj "list" #[] e1))(Xd:kS≠a)(hk:IntsAre keys.toList kz)(hlen:kz.length=vs.length)(hZ:vs.length<=sizeLine) (h:∀out:Array Value,out.size=vs.length->KskOutSt false kz vs out.toList->P (.done (.ret .none)) {s with heap:=sortedAt s.heap kS a out}):wpAny (model prog w) A (ksk_end a false vs.toArray e1 (.ref kS) keys) P E s:=by
 have hsz:keys.size=vs.length:=(by have h1:=hk.length;rw[ajv]at h1;omega);have Ur:(keys.zip vs.toArray).size=vs.length:=(by rw[Array.size_zip,hsz,ajj,Nat.min_self]);unfold ksk_end;dsimp only;simp only[akr,ali];by_cases h2:vs.toArray.size<2
 .rw[ai5 h2,ai5 h2];refine aiR (ai4 ?_);rw[StateT.run_pure];refine aiR (ai4 ?_);dsimp only;refine z7 (st:=SortSt.mk' general' (keys.zip vs.toArray) #[] 7 none) nk na Xd hk hlen hZ (Array.Perm.refl _) ?_ rfl (Stable.refl _) h;intro i j hij hj;have hj2:j<(keys.zip vs.toArray).size:=hj;rw[Ur]at hj2;rw[ajj]at h2;have:i=j:=(by omega);subst this;exact Int.le_refl _
 .rw[ai0 h2,ai0 h2];rw[ajj]at h2;rw[ksk_kind hk (by rw[hsz];omega)];refine aiR (ai4 ?_);refine aiR (ake (wpS_sortRunsSt (κ:=PyProof.Rows.intKind) (a₀:=keys.zip vs.toArray) (st:=SortSt.mk' oneType' (keys.zip vs.toArray) #[] 7 none) (Q:=fun _ mS=>(arrOf mS).Perm (keys.zip vs.toArray)/\failedOf mS=none/\SortedTo (arrOf mS) (arrOf mS).size/\Stable PyProof.Rows.intKind (arrOf mS) (keys.zip vs.toArray)) intKind_oneLt (ksk_keysOfInt (ksk_intKeys hk)) ⟨Array.Perm.refl _,Z,Z⟩ rfl (Stable.refl _) (by rw[Ur];rw[ai6]at hZ;omega) fun mS a1 a2 a3 a4=>⟨a1,a2,by rw[a1.size_eq];exact sortedTo_of_int a3,a4⟩) ?_ fun _ _ e=>e);rintro⟨⟨⟩,mS⟩ s' ⟨rfl,hp,hf,hs,lx⟩;dsimp only;exact z7 nk na Xd hk hlen hZ hp hs hf lx h
end
def OC(H2:Hp)(as:List Addr)(kz:List Int):Sp:=fun vs H Q _=>∃(a:Addr) (k:Int) (i:Nat),vs=[.ref a]/\as[i]?=some a/\kz[i]?=some k/\aC H2 H/\Q (.int k) H
theorem il:∀{as:List Addr} {us:List Value},bI (as.map V.ref) us->us=as.map Value.ref
 | [],us,h=>by cases h;rfl
 |a::as,us,h=>by
  rw[aji]at h;cases h with
  |cons h1 h2=>
   rw[il h2,aji];have:_=Value.ref a:=h1;rw[this]
theorem pM:∀(as:List Addr),bI (as.map V.ref) (as.map Value.ref)
 | []=> .nil
 |a::as=>by rw[aji,aji];exact .cons rfl (pM as)
def Wa(v:Value):Addr:=match v with| .ref a=>a|_=>0
theorem Jc{out:List Value}(h:KskOutSt false kz (as.map Value.ref) out):∃ps:List (Int×Addr),ps.Perm (kz.zip as)/\ps.Pairwise (fun p q=>p.1<=q.1)/\(∀c,ps.filter (fun p=>p.1==c)=(kz.zip as).filter (fun p=>p.1==c))/\out=ps.map fun p=>Value.ref p.2:=by
 obtain⟨qs,h1,h2,h3,h4⟩:=h;have ez:kz.zip (as.map Value.ref)=(kz.zip as).map fun p=>(p.1,Value.ref p.2):=(by rw[List.zip_map_right];rfl);let g:Int×Value->Int×Addr:=fun p=>(p.1,Wa p.2);have back:(kz.zip (as.map Value.ref)).map g=kz.zip as:=by
  rw[ez,aj0]
  conv=>rhs;rw[<-amk (kz.zip as)]
  exact aj6 fun p _=>rfl
 have isr:∀q∈qs,q.2=Value.ref (Wa q.2):=(fun q hq=>by have:=h1.mem_iff.mp hq;rw[ez]at this;obtain⟨p,_,rfl⟩:=ai7.mp this;rfl);refine⟨qs.map g,?_,?_,fun c=>?_,?_⟩
 .rw[<-back];exact h1.map g
 .rw[List.pairwise_map];refine h3.imp fun{p q} VG=>?_;simpa using VG
 .rw[<-back,aly,aly];have e:((fun p:Int×Addr=>p.1==c)∘g)=fun p:Int×Value=>p.1==c:=rfl;rw[e,h4 c]
 .rw[h2,aj0];exact aj6 fun q hq=>isr q hq
theorem rL{pins:List (Addr×Obj)}{σ:L2.St}{H2:Hp}{s2:Shared}{l c':Addr}{L':List (Addr×Obj)}{k:Nat}{Q:VK}(I2:aV H2 s2)(hr:cu (k+2) X.A) (hl:ae X.K H2 l (as.map V.ref))(hz:as.length<=100000)(Xa:kz.length=as.length)(C:BA X.prog X.w X.K X.mg X.base k f L' c' qual (OC H2 as kz))(hc:gW H2 c' qual)(hL:A4 L' s2 X.stack H2) (hQ:∀(D:Addr) (H3:Hp) (ps:List (Int×Addr)),H2 D=none->aC H2 H3->ps.Perm (kz.zip as)->ps.Pairwise (fun p q=>p.1<=q.1)->(∀c,ps.filter (fun p=>p.1==c)=(kz.zip as).filter (fun p=>p.1==c))->H3 D=some (.lst (ps.map fun p=>V.ref p.2))->Q (.ref D) H3):gy (call (.builtin "sorted") [.ref l] [(Str.ofString "key",.ref f)]) (EP X pins σ Q) X.xe s2:=by
 obtain⟨_,Qe⟩:=C;obtain⟨bE,rv,mI,_⟩:=I2.list hl;have ei:=il rv;subst ei;have hZ:(as.map Value.ref).length<=sizeLine:=(by rw[aiQ,ai6];omega);have SX:cu k X.A.in1.in1:=(cu.in1 (k:=k) (cu.in1 (k:=k+1) hr));refine call_function_entry_kw kind_sorted plain_sorted entry_sorted (ksk_s1 _ _) ?_;unfold Builtin.«sorted»;refine aiR (m:=checkCount "sorted" 1 1 _) (ai4 ?_);refine aiR (collect_list mI.isList ?_ hZ);refine aiR (am7 ?_ hZ);generalize hhA:(s2.heap.push (seqObj "list" #[] 0)).update s2.heap.objs.size (Obj.mapSeq (·++(as.map Value.ref).toArray))=hA;have M7:hA.objs.size=s2.heap.objs.size+1:=(by rw[<-hhA,Heap.size_update,amZ]);have OX:∀b o,s2.heap.get? b=some o->hA.get? b=some o:=(fun b o q=>by have fC:b<s2.heap.objs.size:=ajf q;rw[<-hhA,Heap.get?_update_ne _ _ _ _ (ajB fC),Heap.get?_push_ne _ _ _ (ajB fC)];exact q);have NG:(hA.push (seqObj "list" (as.map Value.ref).toArray 0)).get? hA.objs.size=some (seqObj "list" (as.map Value.ref).toArray 0):=aje _ rfl;show wpAny _ _ _ _ _ {s2 with heap:=hA.push (seqObj "list" (as.map Value.ref).toArray 0)};have I3:aV (upd H2 hA.objs.size (.lst (as.map V.ref))) {s2 with heap:=hA.push (seqObj "list" (as.map Value.ref).toArray 0)}:=I2.laid (t':=s2.toks) (fun b u q=>aiX _ (OX b u q)) (by rw[M7];exact akC _) ⟨by rw[aiQ,ai6];omega,as.map Value.ref,0,pM as,NG⟩;have RM:s2.heap.objs.size<=hA.objs.size:=(by rw[M7];exact akC _);have Xt:H2 hA.objs.size=none:=I2.bK.fresh (by rw[M7];exact akC _);refine aiR (aku (wpAny_call_entry_kw slot_list_sort ⟨_,NG,Z⟩ entry_list_sort ?body (ksk_l1 _ _)))
 case body=>
 generalize hA.objs.size=D at NG I3 Xt RM;show wpAny (model X.prog X.w) X.A.in1.in1 (Builtin.«list.sort» ⟨[.ref D],[(Str.ofString "key",.ref f)]⟩) _ _ _;rw[ksk_t1];generalize hB:hA.push (seqObj "list" (as.map Value.ref).toArray 0)=V7 at NG I3;have Ul:∀b o,s2.heap.get? b=some o->V7.get? b=some o:=(fun b o q=>by rw[<-hB];exact aiX _ (OX b o q));unfold ksk_tree;refine aiR (listItems_at NG rfl ?_);refine aiR (alM NG rfl ?_ (by rw[ajj];exact hZ) (ajo _));obtain⟨e1,NH⟩:∃e1,(V7.update D (Obj.mapSeq fun _=>(#[]:Array Value))).get? D=some (seqObj "list" #[] e1):=⟨_,amb NG fun _=> #[]⟩;have s1:=ajS V7 D (Obj.mapSeq fun _=>(#[]:Array Value));have I4:aV (upd H2 D (.lst [])) {s2 with heap:=V7.update D (Obj.mapSeq fun _=>(#[]:Array Value))}:=(by have:=I3.write (x:=D) (e:=D) (o:= .lst []) (t':=s2.toks) (by rw[aA];trivial) (.inl rfl) (fun b u hb q=>(s1.2 b hb).trans q) ⟨_,NH⟩ ⟨zL rfl,[],e1,.nil,NH⟩;rw[eX]at this;exact this);refine aiR (seqEpoch_at NH rfl ?_);refine aiR (wpAny_newTuple ?_ hZ);refine aiR (am7 ?_ (ajo _));refine aku ?_;generalize hhC:(V7.update D (Obj.mapSeq fun _=>(#[]:Array Value)))=hC at NH I4 s1;have hkS:((hC.push (seqObj "tuple" (as.map Value.ref).toArray 0)).push (seqObj "list" #[] 0)).get? (hC.push (seqObj "tuple" (as.map Value.ref).toArray 0)).objs.size=some (seqObj "list" #[] 0):=aje _ rfl;have ho2:((hC.push (seqObj "tuple" (as.map Value.ref).toArray 0)).push (seqObj "list" #[] 0)).get? D=some (seqObj "list" #[] e1):=aiX _ (aiX _ NH);have Ke:hC.objs.size<=(hC.push (seqObj "tuple" (as.map Value.ref).toArray 0)).objs.size:=(by rw[amZ];exact akC _);have I5:aV (upd (upd H2 D (.lst [])) (hC.push (seqObj "tuple" (as.map Value.ref).toArray 0)).objs.size (.lst [])) {s2 with heap:=(hC.push (seqObj "tuple" (as.map Value.ref).toArray 0)).push (seqObj "list" #[] 0)}:=I4.laid (t':=s2.toks) (fun b u q=>aiX _ (aiX _ q)) Ke ⟨zL rfl,[],0,.nil,hkS⟩;have Kd:upd H2 D (.lst []) (hC.push (seqObj "tuple" (as.map Value.ref).toArray 0)).objs.size=none:=I4.bK.fresh Ke;have OW:∀b o,s2.heap.get? b=some o->((hC.push (seqObj "tuple" (as.map Value.ref).toArray 0)).push (seqObj "list" #[] 0)).get? b=some o:=(fun b o q=>by have hbD:b≠D:=(fun z=>by rw[z]at q;exact absurd (ajf q) (Nat.not_lt.mpr RM));refine aiX _ (aiX _ ?_);exact(s1.2 b hbD).trans (Ul b o q));show wpAny (model X.prog X.w) X.A.in1.in1 (ksk_rest D (.ref f) false (as.map Value.ref).toArray e1 (.ref (hC.push (seqObj "tuple" (as.map Value.ref).toArray 0)).objs.size)) _ _ {s2 with heap:=(hC.push (seqObj "tuple" (as.map Value.ref).toArray 0)).push (seqObj "list" #[] 0)};have Vd:s2.heap.objs.size<=(hC.push (seqObj "tuple" (as.map Value.ref).toArray 0)).objs.size:=(by rw[amZ,<-hhC,Heap.size_update,<-hB,amZ,M7];exact ajq (akC _) (ajq (akC _) (akC _)));generalize (hC.push (seqObj "tuple" (as.map Value.ref).toArray 0)).objs.size=kS at hkS I5 Kd Vd;generalize (hC.push (seqObj "tuple" (as.map Value.ref).toArray 0)).push (seqObj "list" #[] 0)=hE at hkS ho2 I5 OW;have Oh:D≠kS:=(fun z=>by rw[<-z,aA]at Kd;cases Kd);have Vg:H2 kS=none:=(by rw[aB (ajC Oh)]at Kd;exact Kd);obtain⟨od,I6⟩:=I5.lock (d:=D) (u:= .lst []) (by rw[aB Oh,aA]) trivial;have eod:od=seqObj "list" #[] e1:=(by have:=(I6.bK D _ aA).1;rw[ho2]at this;exact(ajr this).symm);subst eod;have nof:∀o' u',X.Gx D≠some (.br o' u'):=I5.wC (d:=D) (u:= .lst []) (by rw[aB Oh,aA]) trivial;have RK:∀p∈L',p.1≠D/\p.1≠kS:=fun p hp=>by
  have lt:=ajf (hL p hp).1;refine⟨fun z=>?_,fun z=>?_⟩
  .rw[z]at lt;exact absurd lt (Nat.not_lt.mpr RM)
  .rw[z]at lt;exact absurd lt (Nat.not_lt.mpr Vd)
 unfold ksk_rest;refine aiR (amW ?_);rw[List.forIn_toArray];refine aiR (ksk_fold (fun i s'=>∃Hc,aV Hc s'/\Hc kS=some (.lst ((kz.take i).map V.int))/\Hc D=some (.br (seqObj "list" #[] e1) (.lst []))/\(∀b,b≠kS->b≠D->Hc b=H2 b)/\∀p∈L',s'.heap.get? p.1=some p.2) (as.map Value.ref) 0 _ ⟨_,I6,by rw[aB (ajC Oh),aA];rfl,aA,fun b h1 h2=>by rw[aB h2,aB h1,aB h2],fun p hp=>OW p.1 p.2 (hL p hp).1⟩ ?step ?done)
 case step=>
  rintro j x s' hx ⟨Hc,I,yn,Sn,Vz,ib⟩;simp only[Nat.zero_add]at yn⊢;rw[ajd]at hx;obtain⟨a,ha,rfl⟩:=al3.mp hx;have hj:j<as.length:=(ai3.mp ha).1;obtain⟨kk,hkj⟩:∃kk,kz[j]?=some kk:=⟨_,aiW (by omega)⟩;have sm:aC H2 Hc:=(fun b o q=>by rw[Vz b (fun z=>by rw[z,Vg]at q;cases q) (fun z=>by rw[z,Xt]at q;cases q)];exact q);have F4:A4 L' s' X.stack Hc:=fun p hp=>⟨ib p hp,by rw[Vz p.1 (RK p hp).2 (RK p hp).1];exact(hL p hp).2.1,(hL p hp).2.2⟩;have e0:=I.K5;have Sv:vO X.prog X.w X.K X.mg X.base X.A.in1.in1 X.stack s' Hc:=⟨e0.frames,e0.mod,e0.bs,e0.HL,e0.mx,e0.NS,e0.bK,e0.bare⟩;refine aiR (alu (alP (akH (Qe X.A.in1.in1 X.stack s' Hc [.ref a] [.ref a] (fun v H'=>v= .int kk/\H'=Hc) SX Sv F4 (sm _ _ hc) (.cons rfl .nil) ⟨a,kk,j,Z,ha,hkj,sm,Z,Z⟩) fun r Lb hq=>?_)));cases r with
  |error e=>exact False.elim hq
  |ok fl=>
   cases fl with
   |ret u=>
    have lk:∀p∈L',Lb.heap.get? p.1=some p.2:=(fun p hp=>by obtain⟨_,_,_,_,un,_⟩:=hq;exact un.keep p.1 p.2 (ib p hp) (F4 p hp).2.1 (hL p hp).2.2 (by simp));obtain⟨v,H',I',ru,rfl,rfl⟩:=I.after hq;obtain⟨t2,rfl⟩:∃t2,u= .int kk t2:=ru;dsimp only;obtain⟨qx,bE,n,SA,Sf⟩:=I'.bK kS _ yn;have hsz:bE.length=(kz.take j).length:=(by rw[<-SA.length,aiQ]);have hle:bE.length<=as.length:=(by rw[hsz,ajb];omega);have s9:=ajS Lb.heap kS (Obj.mapSeq (·.push (.int kk t2)));obtain⟨c2,wZ⟩:∃c2,(Lb.heap.update kS (Obj.mapSeq (·.push (.int kk t2)))).get? kS=some (seqObj "list" (bE.toArray.push (.int kk t2)) c2):=⟨_,amb Sf (·.push (.int kk t2))⟩;have ek:kz.take (j+1)=kz.take j++[kk]:=(by rw[List.take_add_one,hkj];rfl);refine aiR (alM Sf rfl ?_ (by rw[ajj,ai6];omega) (by rw[Array.size_push,ajj,ai6];omega));refine ai4 ⟨Z,upd H' kS (.lst ((kz.take (j+1)).map V.int)),?_,aA,by rw[aB Oh];exact Sn,fun b h1 h2=>by rw[aB h1];exact Vz b h1 h2,fun p hp=>?_⟩
    .refine I'.write (x:=kS) (e:=kS) (t':=Lb.toks) (by rw[yn];trivial) (.inl rfl) (fun b u hb q=>(s9.2 b hb).trans q) ⟨_,wZ⟩ ⟨by rw[aiQ,ajb,ai6];omega,bE++[.int kk t2],c2,?_,?_⟩
     .rw[ek,aiY];exact bI.append SA (.cons ⟨t2,Z⟩ .nil)
     .rw[wZ];simp[seqObj]
    .exact(s9.2 p.1 (RK p hp).2).trans (lk p hp)
   |next=>exact False.elim hq
   |brk=>exact False.elim hq
   |cont=>exact False.elim hq
 case done=>
  rintro s' ⟨Hc,I,yn,Sn,Vz,ib⟩;have et:kz.take (0+(as.map Value.ref).length)=kz:=aky (by rw[aiQ];omega);rw[et]at yn;obtain⟨qx,bE,n,SA,Sf⟩:=I.bK kS _ yn;have hi:=SA.ints;have VJ:s'.heap.get? D=some (seqObj "list" #[] e1):=(I.bK D _ Sn).1;refine aiR (listItems_at Sf rfl ?_);refine M0 (kz:=kz) Sf VJ (ajC Oh) hi (by rw[aiQ];exact Xa) hZ fun out hos ho=>⟨_,Z,?_⟩;obtain⟨ps,p1,p2,p3,p4⟩:=Jc ho;have s8:=ajS s'.heap kS (Obj.mapSeq fun _=>(#[]:Array Value));obtain⟨c8,hc8⟩:∃c8,(s'.heap.update kS (Obj.mapSeq fun _=>(#[]:Array Value))).get? kS=some (seqObj "list" #[] c8):=⟨_,amb Sf fun _=> #[]⟩;have I8:=I.write (x:=kS) (e:=kS) (o:= .lst []) (t':=s'.toks) (h':=s'.heap.update kS (Obj.mapSeq fun _=>(#[]:Array Value))) (by rw[yn];trivial) (.inl rfl) (fun b u hb q=>(s8.2 b hb).trans q) ⟨_,hc8⟩ ⟨zL rfl,[],c8,.nil,hc8⟩;have I9:=I8.unlock (d:=D) (by rw[aB Oh];exact Sn) nof;have hD8:(s'.heap.update kS (Obj.mapSeq fun _=>(#[]:Array Value))).get? D=some (seqObj "list" #[] e1):=(s8.2 D Oh).trans VJ;obtain⟨c9,hc9⟩:∃c9,(sortedAt s'.heap kS D out).get? D=some (seqObj "list" out c9):=⟨_,amb hD8 fun _=>out⟩;have s9:=ajS (s'.heap.update kS (Obj.mapSeq fun _=>(#[]:Array Value))) D (Obj.mapSeq fun _=>out);have hlen:ps.length=as.length:=(by rw[p1.length_eq,akQ,Xa,Nat.min_self]);have I10:=I9.write (x:=D) (e:=D) (o:= .lst (ps.map fun p=>V.ref p.2)) (t':=s'.toks) (h':=sortedAt s'.heap kS D out) (by rw[aA];trivial) (.inl rfl) (fun b u hb q=>(s9.2 b hb).trans q) ⟨_,hc9⟩ ⟨by rw[aiQ,hlen,ai6];omega,out.toList,c9,?_,hc9⟩
  .refine ai4 ⟨_,Z,.ref D,_,I10,Z,hQ D _ ps Xt (fun b o q=>?_) p1 p2 p3 aA⟩;have h1:b≠D:=(fun z=>by rw[z,Xt]at q;cases q);have h2:b≠kS:=(fun z=>by rw[z,Vg]at q;cases q);rw[aB h1,aB h1,aB h2,Vz b h2 h1];exact q
  .rw[p4];have:=pM (ps.map (·.2));rw[aj0,aj0]at this;exact this
theorem y9{α:Type}(f:α->Nat)(N:Nat):∀(l:List α),l.Pairwise (fun x y=>f x<=f y)->(∀x∈l,f x<=N)->l=(l.filter fun x=>decide (f x<N))++l.filter fun x=>f x==N
 | [],_,_=>rfl
 |x::l,hp,hb=>by
  obtain⟨h1,h2⟩:=ajV.mp hp;by_cases h:f x<N
  .rw[ajT (by simpa using h),akb (by simp;omega),akj,<-y9 f N l h2 fun y hy=>hb y (aiS _ hy)]
  .have e:f x=N:=(by have:=hb x (aiV ..);omega);have a:l.filter (fun x=>decide (f x<N))=[]:=(al7.mpr fun y hy=>by have:=h1 y hy;simp;omega);have b:l.filter (fun x=>f x==N)=l:=(ams.mpr fun y hy=>by have:=h1 y hy;have:=hb y (aiS _ hy);simp;omega);rw[akb (by simpa using h),a,akP,ajT (by simpa using e),b]
theorem bucket{α:Type}(f:α->Nat):∀(N:Nat) (l:List α),l.Pairwise (fun x y=>f x<=f y)->(∀x∈l,f x<N)->l=(List.range N).flatMap fun k=>l.filter fun x=>f x==k
 |0,l,_,hb=>by
  cases l with
  |nil=>rfl
  |cons x l=>exact absurd (hb x (aiV ..)) (alb _)
 |N+1,l,hp,hb=>by
  rw[alc,aj9,ajD,List.flatMap_nil,ajs];have e:=y9 f N l hp fun x hx=>Nat.le_of_lt_succ (hb x hx);have ih:=(bucket f N (l.filter fun x=>decide (f x<N)) (hp.filter _) fun x hx=>by simpa using(ajy.mp hx).2);have c:((List.range N).flatMap fun k=>(l.filter fun x=>decide (f x<N)).filter fun x=>f x==k)=(List.range N).flatMap fun k=>l.filter fun x=>f x==k:=PM.jb fun k hk=>by
   rw[List.filter_filter];refine akA fun x _=>?_;have:=akD.mp hk;by_cases z:f x=k
   .simp[z,this]
   .simp[z]
  rw[<-c,<-ih];exact e
theorem LD{ns:List Nd}{r:Nd->Nat}{g:Addr->Nd}(hl:as.length=ns.length)(hg:∀z∈as.zip ns,g z.1=z.2){ps:List (Int×Addr)}(p1:ps.Perm ((ns.map fun m=>(r m:Int)).zip as))(p2:ps.Pairwise fun p q=>p.1<=q.1) (p3:∀c,ps.filter (fun p=>p.1==c)=((ns.map fun m=>(r m:Int)).zip as).filter (fun p=>p.1==c)){J:Nat}(hJ:∀n∈ns,r n<=J):ps.map (fun p=>g p.2)=(List.range (J+1)).flatMap fun k=>ns.filter fun n=>r n==k:=by
 have ez:(ns.map fun m=>(r m:Int)).zip as=(as.zip ns).map fun z=>((r z.2:Int),z.1):=by
  clear hg p1 p3 hJ
  induction as generalizing ns with
  |nil=>cases ns<;>rfl
  |cons a as ih=>
   cases ns with
   |nil=>rfl
   |cons n ns=>
    rw[aji,alR,alR,aji,ih (by simpa using hl)]
 have mem:∀p∈ps,∃n∈ns,p.1=(r n:Int):=(fun p hp=>by have:=p1.mem_iff.mp hp;rw[ez]at this;obtain⟨z,hz,rfl⟩:=ai7.mp this;exact⟨z.2,(alx hz).2,rfl⟩);have b:=bucket (fun p:Int×Addr=>p.1.toNat) (J+1) ps (p2.imp fun{p q} h=>by omega) fun p hp=>by obtain⟨n,hn,e⟩:=mem p hp;have:=hJ n hn;show p.1.toNat<J+1;rw[e];omega
 conv=>lhs;rw[b]
 rw[al0];refine PM.jb fun k _=>?_;have e1:ps.filter (fun p=>p.1.toNat==k)=ps.filter fun p=>p.1==(k:Int):=(akA fun p hp=>by obtain⟨n,_,e⟩:=mem p hp;rw[e,alI,ajw];simp;omega);rw[e1,p3,ez,aly,aj0];have e2:((fun p:Int×Addr=>p.1==(k:Int))∘fun z:Addr×Nd=>((r z.2:Int),z.1))=(fun z:Addr×Nd=>r z.2==k):=(by funext z;show((r z.2:Int)==(k:Int))=(r z.2==k);rw[ajw];simp;omega);rw[e2];have e3:((as.zip ns).filter fun z=>r z.2==k).map ((fun p:Int×Addr=>g p.2)∘fun z:Addr×Nd=>((r z.2:Int),z.1))=((as.zip ns).filter fun z=>r z.2==k).map (·.2):=aj6 fun z hz=>hg z (ajy.mp hz).1;rw[e3];have e4:(as.zip ns).map (·.2)=ns:=List.map_snd_zip (by omega)
 conv=>rhs;rw[<-e4]
 rw[aly];rfl
def Hg(X:Cx)(k:Nat)(PT:Addr)(ls:List (Pos×Str))(params:Arguments)(body:Expr)(scope:Scope)(ao:List (Str×Addr))(fs:List Str)(is:List Nat)(te:TE):TE:=fun σ H Q=>
 te σ H fun v H1=>∃(l:Addr) (as:List Addr),v= .ref l/\H1 l=some (.lst (as.map V.ref))/\as.length<=100000/\ou H1 PT ls/\∃fvs:List V,fvs.length=is.length/\(∀(j i:Nat) (v:V),is[j]?=some i->fvs[j]?=some v->σ[i]?=some (some v))/\∀(f c':Addr) (pm r8:Value) (L:List (Addr×Obj)) (H2:Hp),aw H1 H2->ou H2 PT ls->(∀b qs,b≠PT->H1 b=some (.hU qs)->H2 b=some (.hU qs))->CellsOk L ao fs fvs->∃kz:List Int,kz.length=as.length/\BA X.prog X.w X.K X.mg X.base k f ((f,W.kla_obj "<lambda>" (X.env.qual++"<lambda>") params body scope ao pm c' r8)::L) c' (X.env.qual++"<lambda>") (OC H2 as kz)/\∀(D:Addr) (H3:Hp) (ps:List (Int×Addr)),H2 D=none->aC H2 H3->ps.Perm (kz.zip as)->ps.Pairwise (fun p q=>p.1<=q.1)->(∀c,ps.filter (fun p=>p.1==c)=(kz.zip as).filter (fun p=>p.1==c))->H3 D=some (.lst (ps.map fun p=>V.ref p.2))->Q (.ref D) H3
theorem B5{k:Nat}{p pos mq kp:Pos}{e:Expr}{te:TE}{PT:Addr}{ls:List (Pos×Str)}{params:Arguments}{body:Expr}{scope:Scope}{ao:List (Str×Addr)}{fs:List Str}{is:List Nat} (hr:cu (k+2) X.A)(hg:Gl X "sorted")(hm:X.mg "sorted"=none)(he:PE X e te) (B:BM X.base X.mg)(wY:X.env.code= .ref c)(hC:W.CodeHd X.base c PT)(Ce:(mq,X.env.qual++"<lambda>")∈ls)(AB:∀q∈ls,q.1.line=mq.line->q.1.col=mq.col->q.2=X.env.qual++"<lambda>") (ib:closureFor scope X.env=pure ao)(M:LQ X ao fs is)(Kj:defaultsOf params X.env=([],[]):=by rfl) (hs:starEach [e] X.env=(false,eval e X.env)::starEach [] X.env:=by rfl):PE X (.Call (.Name "sorted" p) [e] [⟨some "key",.Lambda params body scope mq,kp⟩] pos) (Hg X k PT ls params body scope ao fs is te):=by
 intro pins s σ H Q I h;refine akd (kx I hg hm (show bootBuiltins "sorted"=some (.builtin "sorted") by decide+kernel) ?_ (by decide) (by decide));have hb:backTo pos (starEach [e] X.env)=(false,eval e X.env)::backTo pos (starEach [] X.env):=(by rw[hs];rfl);refine callWith_kw ?_ hb (by rw[hb];rfl) rfl rfl;rw[hb];refine ak7 (cQ (he pins s σ H _ I h) fun u s1 ⟨v,H1,I1,r1,l,as,ev,hl,hz,hT,fvs,Ec,hfv,q⟩=>?_);refine alJ ?_;subst ev;have eu:u= .ref l:=r1;subst eu;refine kws_cons (z6 I1 B wY hC hT Ce AB Kj ib fun f c' pm r8 H2 s2 I2 sx h2s RH wZ hf Co hfs yF hkp=>?_);refine kws_nil ?_;obtain⟨L,CL,hL⟩:=Ar I2 M Ec hfv;have tb:∀b qs,b≠PT->H1 b=some (.hU qs)->H2 b=some (.hU qs):=(fun b qs hb e=>by rw[h2s b hb (I1.bK.lt e)];exact e);obtain⟨kz,Xa,C,fin⟩:=q f c' pm r8 L H2 sx RH tb CL;refine rL I2 hr (ae.of (sx.kp _ _ hl nofun)) hz Xa C wZ (fun p hp=>?_) fin;rcases aiZ.mp hp with e|e
 .rw[e];exact⟨hf,Co,hfs⟩
 .exact hL p e
theorem RN{h:Known}(k:aq C H a h)(n:Nd):(PM.gr h n).length<=12:=by
 obtain⟨dx,fs,pd,rl,aP,rs,e,f1,f2,e1,p1,e2,p2⟩:=k.ex;unfold PM.gr groundRests;cases hp:paperOf h n.1 with
 |none=>exact ajo _
 |some p=>
  simp only;obtain⟨_,v2⟩:=gh (C:=C) (H:=H) n.1 p1;obtain⟨c,_,wU⟩:=v2 p hp;rw[aiQ];by_cases lt:PM.gd h n<p.grounds.length
  .rw[PM.rq lt];have:=wU.fD.2 _ (akK lt);omega
  .rw[PM.Ej (by omega)];exact ajo _
theorem V9{h:Known}(ok:fS h)(s:PM.st h n)(hm:m∈PM.gr h n):m∈bG h n:=akJ.mpr ⟨_,ai1 (Ku (PM.fG ok s).1).2.2,hm⟩
theorem xy{h:Known}(ok:fS h){a:Nd}(s:PM.st h a):∀m∈PM.need h a,m∈under h a/\PM.st h m:=by
 unfold PM.need;rw[PM.dJ];refine PM.jM (P:=fun m=>m∈under h a/\PM.st h m) (fun m hm k hk=>?_) _ _ fun m hm=>?_
 .exact⟨dj ok a m hm.1 k (V9 ok hm.2 hk),(PM.Ol ok hm.2 hk).1⟩
 .rw[aiU.mp hm];exact⟨bq h a,s⟩
theorem F1{l:List (Addr×Nd)}(h:l.lookup a=some m):(a,m)∈l:=by
 induction l with
 |nil=>cases h
 |cons x l ih=>
  obtain⟨b,y⟩:=x;rw[ajz]at h;cases e:a==b with
  |true=>
   rw[e]at h;cases h;rw[eq_of_beq e];exact aiV ..
  |false=>
   rw[e]at h;exact aiS _ (ih h)
theorem Lx(h1:TupAt H a m)(h2:TupAt H a n):m=n:=by have e:some (HO.tup ((bZ m).map kV))=some (HO.tup ((bZ n).map kV)):=h1.symm.trans h2;have e':(bZ m).map kV=(bZ n).map kV:=(by injection e with e;injection e);have e2:[V.int (m.1:Nat),V.int (m.2:Nat)]=[V.int (n.1:Nat),V.int (n.2:Nat)]:=e';injection e2 with e3 e4;injection e3 with e3;injection e4 with e4;injection e4 with e4;exact ami (Int.ofNat.inj e3) (Int.ofNat.inj e4)
abbrev Yi:=top 47
theorem L3:aM ["known","asked","ranks","row","steps","pair"] ["known","asked","ranks"] (aF Yi):=dc
def My:Pos:=⟨161,25,161,67⟩
def Mx:Pos:=⟨163,32,163,54⟩
def CP:List (Pos×Str):=[(My,("proof_steps.<locals>.<lambda>":Str)),(Mx,("proof_steps.<locals>.<lambda>":Str))]
section
variable{K:W.Frag}{TT:List (Addr×List (Pos×Str))}
theorem QD{PT:Addr}(F:A6 K "proof_steps" "proof_steps" Yi f fd c)(B:BM base mg)(hC:W.CodeHd base c PT)(Xm:(PT,CP)∈TT)(Xl:∀x∈TT,x.1=PT->x.2=CP)(Zt:mg "sorted"=none) (dC:ya P w K mg base 8 "come_to" ["start","following"] (xJ P w K mg base TT 7))(dA:cO 6 "proof_rests" ["known","pair","ranks"] (Tj C))(dP:jk 8):de 9 ["known","asked","ranks"] (Tg C TT):=by
 obtain⟨fc,fdc,FC,Sj,Xc,hbc⟩:=dC.ex;refine F.ok L3 (fun vs H Q E h=>?_) (fun A outer s H vs Q E hr h=>?_)
 .obtain⟨ka,h,b,n,rd,R,rfl,_⟩:=h;rfl
 .obtain⟨ka,hh,b,n,rd,R,rfl,hK,hb,ok,hT,jm,RI,hs,hQ⟩:=h;have hu:=bu hr;have hR:dw hh n R:=RI.rk n (aiU.mpr rfl);have R6:PM.st hh n:=(PM.aj ok).mp hs;refine⟨_,aD (zS 3 L3.nd (tH (P:=PT) (ls:=CP) (fs:=["known","ranks"]) (is:=[0,2]) FC hr rfl Sj Xc hbc (pv 1) B rfl hC (aiV ..) (fun q hq _ _=>by
     rcases aiZ.mp hq with e|hq
     .rw[e];rfl
     .rw[aiU.mp hq];rfl) rfl ?M))
   (aD (zS 4 L3.nd (aU cA))
   (aD (bU ajm rfl (ax (B5 (k:=6) (PT:=PT) (ls:=CP) (fs:=["ranks"]) (is:=[2]) hr rfl Zt (pv 3) B rfl hC (aiS _ (aiU.mpr rfl)) (fun q hq _ _=>by
     rcases aiZ.mp hq with e|hq
     .rw[e];rfl
     .rw[aiU.mp hq];rfl) rfl ?M2)) (zG 5 L3.nd)
    (aE (bp (fN aju ajM ajL cN (pv 4) (bM (cZ (ny (af cU (pv 5) aK) (af cU (pv 5) aK) (aJ dP hr (ny (pv 0) (pv 5) (pv 2))))))))))
   (aE (aH (pv 4))))),?_⟩
  case M=>
   refine⟨Z,fun j i y h1 h2=>?_,fun y hy=>?_,fun y c' h1=>?_,fun y hy=>?_⟩
   .match j,h1,h2 with
    |0,h1,h2=>
     cases h1;cases h2;rfl
    |1,h1,h2=>
     cases h1;cases h2;rfl
    |j+2,h1,h2=>simp at h1
   .simp only[aiZ,ajW,ak3]at hy;rcases hy with e|e
    .rw[e];exact⟨Z,Z⟩
    .rw[e];exact⟨Z,Z⟩
   .rw[ajz]at h1;cases e:y==("ranks":Str)with
    |true=>
     rw[e]at h1;have ey:=eq_of_beq e;subst ey;exact⟨aiS _ (aiU.mpr rfl),h1⟩
    |false=>
     rw[e]at h1;simp only at h1;rw[ajz]at h1;cases e2:y==("known":Str)with
     |true=>
      rw[e2]at h1;have ey:=eq_of_beq e2;subst ey;exact⟨aiV ..,h1⟩
     |false=>rw[e2]at h1;cases h1
   .simp only[aiZ,ajW,ak3]at hy;rcases hy with e|e
    .rw[e];exact⟨_,Z⟩
    .rw[e];exact⟨_,Z⟩
  case M2=>
   refine⟨Z,fun j i y h1 h2=>?_,fun y hy=>?_,fun y c' h1=>?_,fun y hy=>?_⟩
   .match j,h1,h2 with
    |0,h1,h2=>
     cases h1;cases h2;rfl
    |j+1,h1,h2=>simp at h1
   .rw[aiU.mp hy];exact⟨Z,Z⟩
   .rw[ajz]at h1;cases e:y==("ranks":Str)with
    |true=>
     rw[e]at h1;have ey:=eq_of_beq e;subst ey;exact⟨aiU.mpr rfl,h1⟩
    |false=>rw[e]at h1;cases h1
   .rw[aiU.mp hy];exact⟨_,Z⟩
  have cl:bS (PM.gr hh) (PM.need hh n):=PM.zf ok;have II:(PM.need hh n).length<=100000:=iL ok (fun m k hm=>PM.uE hm) (fun m=>RN hK m) n;refine⟨_,Z,hT _ Xm,[.ref ka,.ref rd],Z,?_,fun fl c' pm r8 L H2 s2 P5 sx tk Y0 V0 Ks RC=>?_⟩
  .intro j i v h1 h2
   match j,h1,h2 with
   |0,h1,h2=>
    cases h1;cases h2;rfl
   |1,h1,h2=>
    cases h1;cases h2;rfl
   |j+2,h1,h2=>simp at h1
  have t2:bY TT H2:=sQ hT sx tk Y0 Xl;have Cq:aq C H2 ka hh:=hK.same sx;have vF:=sx.kp _ _ jm nofun;refine⟨b,n,fl,_,c',_,PM.gr hh,Z,sx.kp _ _ hb nofun,t2,V0,Ks,cl,(by rw[ai6];show(PM.need hh n).length<_;omega),?_,fun H3 l as YL t3 Kb hl hn=>?_⟩
  .refine C9 (k:=6) (x:="one") (fs:=["known","ranks"]) (fvs:=[.ref ka,.ref rd]) (pU (by rfl)) (Pp.CellsOk.cons _ RC) (aiV ..) (fun u=>rfl) (fun vs H Q E z=>?_) (fun A' Jb s' H' v Q' gO z=>?_)
   .obtain⟨a,m,rfl,_⟩:=z;rfl
   .obtain⟨a,m,ev,G9,hm,Ta,tt,q⟩:=z;cases ev;obtain⟨NI,Qr⟩:=xy ok R6 m hm;refine⟨_,aJ dA gO (ny (pv 1) (pv 0) (pv 2)),?_⟩;refine⟨_,Z,_,Z,_,Z,ka,hh,a,m,rd,R,n,Z,Cq.same Ta,ok,G9,Ta.kp _ _ vF nofun,hR,NI,Qr,fun H4 l4 s4 BE ⟨as4,Qy,XU⟩=>?_⟩;exact q H4 l4 as4 (aC.x s4) (aC.tabs s4 tt) BE Qy XU
  have Hk:=sx.trans YL;have hlen:as.length=(PM.need hh n).length:=Paired.length hn;refine⟨ajo _,fun r gO=>?_⟩;have s4:aC H3 (upd H3 r (.lst [])):=zU gO;have t4:bY TT (upd H3 r (.lst [])):=bY.of t3 s4;refine⟨_,Z,l,as,Z,s4 _ _ hl,(by rw[hlen];exact II),t4 _ Xm,[.ref rd],Z,?_,fun f2 c2 pm2 ahP L2' H5 LZ tk5 Yz Vy=>?_⟩
  .intro j i v h1 h2
   match j,h1,h2 with
   |0,h1,h2=>
    cases h1;cases h2;rfl
   |j+1,h1,h2=>simp at h1
  have t5:bY TT H5:=sQ t4 LZ tk5 Yz Xl;have hn5:aI H5 as (PM.need hh n):=hn.same ((aC.x s4).trans LZ);have Zy:H5 rd=some (.dT (lj R)):=((Hk.trans (aC.x s4)).trans LZ).kp _ _ jm nofun;have lk:∀m∈PM.need hh n,R.lookup m=some (PM.rk hh m):=(fun m hm=>by obtain⟨NI,Qr⟩:=xy ok R6 m hm;exact(hR m NI _).mpr (PM.fG ok Qr).1);refine⟨(PM.need hh n).map fun m=>(PM.rk hh m:Int),by rw[aiQ,hlen],?_,fun D H6 ps hD s6 p1 p2 p3 NP=>?_⟩
  .refine C9 (k:=5) (x:="one") (fs:=["ranks"]) (fvs:=[.ref rd]) (pU (by rfl)) (Pp.CellsOk.cons _ Vy) (aiV ..) (fun u=>rfl) (fun vs H Q E z=>?_) (fun A' Jb s' H' v Q' gO z=>?_)
   .obtain⟨a,k,i,rfl,_⟩:=z;rfl
   .obtain⟨a,k,i,ev,hai,hki,sm,q⟩:=z;cases ev;refine⟨_,dq (bu gO) (pv 1) (pv 0),?_⟩;obtain⟨m,hm,GH⟩:=hn5.lC hai;rw[ajd,hm]at hki;cases hki;refine⟨_,Z,_,Z,rd,V.int (PM.rk hh m:Nat),Z,?_,q⟩;have:=ba.t (sm _ _ Zy) (sm _ _ GH);rw[dm,lk m (ai1 hm)]at this;exact this
  obtain⟨J,hJ,ePr⟩:=PM.B4 ok R6;let g:Addr->Nd:=fun a=>((as.zip (PM.need hh n)).lookup a).getD (0,0);have zt:∀z∈as.zip (PM.need hh n),TupAt H3 z.1 z.2:=(fun z hz=>by obtain⟨j,hj,ej⟩:=alj.mp hz;rw[amJ]at ej;rw[akQ]at hj;obtain⟨m,hm,GH⟩:=aI.lC (ns:=PM.need hh n) hn (aiW (show j<as.length by omega));rw[<-ej];rw[aiW (by omega)]at hm;cases hm;exact GH);have hg:∀z∈as.zip (PM.need hh n),g z.1=z.2:=fun z hz=>by
   obtain⟨m,hm⟩:∃m,(as.zip (PM.need hh n)).lookup z.1=some m:=by
    cases e:(as.zip (PM.need hh n)).lookup z.1 with
    |some m=>exact⟨m,rfl⟩
    |none=>
     have:=List.lookup_eq_none_iff.mp e z hz;simp at this
   show((as.zip (PM.need hh n)).lookup z.1).getD (0,0)=z.2;rw[hm];have a:=zt (z.1,m) (F1 hm);have b:=zt z hz;exact Lx a b
  have em:=LD (r:=PM.rk hh) hlen hg p1 p2 p3 hJ;have eP:proofOf hh n.1 n.2=(ps.map fun p=>g p.2).map fun m=>(⟨m.1,m.2,PM.gd hh m+1⟩:Vbkoac.Step):=(by rw[ePr,em,al0]);have MF:ps.length<=100000:=(by rw[p1.length_eq,akQ,aiQ];omega);have pm:∀p∈ps,TupAt H3 p.2 (g p.2)/\g p.2∈PM.need hh n:=(fun p hp=>by have h1:=p1.mem_iff.mp hp;obtain⟨j,hj,ej⟩:=alj.mp h1;rw[amJ]at ej;rw[akQ,aiQ]at hj;have hz:(as[j]'(by omega),(PM.need hh n)[j]'(by omega))∈as.zip (PM.need hh n):=alj.mpr ⟨j,by rw[akQ];omega,by rw[amJ]⟩;have e2:p.2=as[j]'(by omega):=(by rw[<-ej]);rw[e2,hg _ hz];exact⟨zt _ hz,akK _⟩);have HA:H6 r=some (.lst []):=s6 _ _ (LZ.kp _ _ aA nofun);have SM:D≠r:=(fun z=>by rw[z,LZ.kp _ _ (show upd H3 r (.lst []) r=some (.lst [])from aA) nofun]at hD;cases hD);have sxr:∀H',(∀b o,b≠r->H6 b=some o->H' b=some o)->aw H3 H':=fun H' hk=>by
   refine⟨fun b o e n=>?_,fun b ps e=>?_⟩
   .have:b≠r:=(fun z=>by rw[z,gO]at e;cases e);exact hk b o this (s6 _ _ (LZ.kp _ _ (s4 _ _ e) n))
   .have:b≠r:=(fun z=>by rw[z,gO]at e;cases e);obtain⟨qs,e5⟩:=LZ.tb b ps (s4 _ _ e);exact⟨qs,hk b _ this (s6 _ _ e5)⟩
  refine⟨D,Z,⟨_,ae.of NP⟩,bO (K:=K) (a:=D) (xs:=ps.map fun p=>V.ref p.2) (fun i σ H'=>∃(ts:List Addr) (v5:Option V),σ=[some (.ref ka),some (.ref b),some (.ref rd),some (.ref l),some (.ref r),v5]/\(∀b o,b≠r->H6 b=some o->H' b=some o)/\H' r=some (.lst (ts.map V.ref))/\Paired (m8 H') ts (((ps.take i).map fun p=>g p.2).map fun m=>(⟨m.1,m.2,PM.gd hh m+1⟩:Vbkoac.Step))) ⟨[],none,Z,fun _ _ _ e=>e,HA,.nil⟩ (fun i σ H' _ ⟨_,_,_,hk,_⟩=>ae.of (hk _ _ SM NP)) ?_ ?_⟩
  .rintro i y σ H7 hi ⟨ts,v5,rfl,Sk,Lj,U1⟩;rw[ajd]at hi;obtain⟨p,hp,rfl⟩:=al3.mp hi;obtain⟨XS,hpn⟩:=pm p (ai1 hp);obtain⟨NI,Qr⟩:=xy ok R6 _ hpn;have Tb:=sxr H7 Sk;have VE:TupAt H7 p.2 (g p.2):=Tb.kp _ _ XS nofun;have hT7:gF K H7 p.2 [V.int ((g p.2).1:Nat),V.int ((g p.2).2:Nat)]:=gF.of VE;refine⟨_,Z,.inl ⟨Z,_,ae.of Lj⟩,?_⟩;refine⟨_,Z,p.2,_,0,_,Z,Z,hT7,Z,?_⟩;refine⟨_,Z,p.2,_,1,_,Z,Z,hT7,Z,?_⟩;refine⟨_,Z,_,Z,_,Z,ka,hh,p.2,g p.2,rd,R,n,Z,hK.same (Hk.trans Tb),ok,VE,(Hk.trans Tb).kp _ _ jm nofun,hR,NI,Qr,fun H8 s8=>?_⟩;refine⟨(zL rfl),fun t ht=>?_⟩;have s9:aC H8 (upd H8 t (.tup [V.int ((g p.2).1:Nat),V.int ((g p.2).2:Nat),V.int ((PM.gd hh (g p.2):Int)+1)])):=zU ht;have Z0:=s9 _ _ (s8 _ _ Lj);have htr:t≠r:=(fun z=>by rw[z,s8 _ _ Lj]at ht;cases ht);have tl:ts.length<=100000:=(by rw[Paired.length U1,aiQ,aiQ,ajb];omega);refine⟨r,_,_,Z,Z,Z0,(by rw[aiQ,ai6];omega),?_⟩;refine⟨ts++[t],_,Z,fun b o hb e=>?_,by rw[aA,aiY];rfl,?_⟩
   .rw[aB hb];exact s9 _ _ (s8 _ _ (Sk b o hb e))
   .have LY:ps.take (i+1)=ps.take i++[p]:=(by rw[List.take_add_one,hp];rfl);rw[LY,aiY,aiY];have nr:∀{a:Addr} {x:Vbkoac.Step},m8 H7 a x->m8 (upd (upd H8 t (.tup [V.int ((g p.2).1:Nat),V.int ((g p.2).2:Nat),V.int ((PM.gd hh (g p.2):Int)+1)])) r (.lst (ts.map V.ref++[V.ref t]))) a x:=(fun{a x} e=>by have:a≠r:=(fun z=>by have e':H7 a=some (.tup [V.int (x.id:Nat),V.int (x.day:Nat),V.int (x.ground:Nat)]):=e;rw[z,Lj]at e';cases e');show upd _ _ _ a=_;rw[aB this];exact s9 _ _ (s8 _ _ e));refine Paired.snoc (Paired.a8 U1 fun _ _ e=>nr e) ?_;show upd _ _ _ t=_;rw[aB htr,aA];rfl
  .rintro σ H7 ⟨ts,v5,rfl,Sk,Lj,U1⟩;rw[aiQ,ai9,<-eP]at U1;have Tb:=sxr H7 Sk;have t7:bY TT H7:=(bY.of t5 s6).keep (fun b ps e=>Sk b _ (fun z=>by rw[z,HA]at e;cases e) e) (fun b φ e=>Sk b _ (fun z=>by rw[z,HA]at e;cases e) e);refine⟨_,Z,hQ H7 r ts (Hk.trans Tb) t7 (Hk.free gO) Lj U1 ?_⟩;rw[eP,aiQ,aiQ];exact MF
end
open PySem.W (nsIn Frag)
structure Dn(K:Frag)(x:Str)(st:Stmt):Prop where
 ex:∃f fd,o3 K x x st f fd/\nsIn K mainGlobals x=some (some (.ref f))
theorem WR{x:Str}{st:Stmt}{kV:Value}(a:nsIn K mainGlobals x=some (some (.ref f))) (l:K.lookup f=some ⟨oc,od,.func (W.fnOf x x (du st) (cX st) (aF st) .none kV doc pm an fv ct),uo⟩)(c:W.codeIn K fv x=true)(k:W.keepIn K (.ref f)=true):Dn K x st:=⟨_,_,Kv l c k,a⟩
structure Cn(K:Frag)(x q:Str)(st:Stmt)(C:Addr):Prop where
 ns:nsIn K mainGlobals x=some (some (.ref C))
 cls:G2 K C
 ZO:∃f fd,Mk K C f/\o3 K "__init__" q st f fd
theorem WV{x:Str}{st:Stmt}{C:Addr}{kV:Value}(a:nsIn K mainGlobals x=some (some (.ref C))) (pg:W.plainGet K C Str.empty=true)(hd:W.hasDictIn K C=true)(po:W.plainOver K C=true)(sa:W.findIn K (.ref C) "__setattr__"=some (some (.builtin "object.__setattr__")))(mk:W.makesIn K C=true)(kc:W.keepIn K (.ref C)=true) (i:W.findIn K (.ref C) "__init__"=some (some (.ref f)))(fn:W.isFn K (.ref f)=true) (l:K.lookup f=some ⟨oc,od,.func (W.fnOf "__init__" q (du st) (cX st) (aF st) .none kV doc pm an fv ct),uo⟩)(c:W.codeIn K fv q=true)(k:W.keepIn K (.ref f)=true):Cn K x q st C:=⟨a,⟨pg,hd,po,sa⟩,_,_,⟨mk,i,fn,kc⟩,Kv l c k⟩
theorem An{x x' q':Str}{st mS:Stmt}{C C':Addr}(a:Cn K x q st C)(b:Cn K x' q' mS C')(h:q≠q'):C≠C':=fun e=>by subst e;obtain⟨f,fd,m,F⟩:=a.ZO;obtain⟨f',fd',m',F'⟩:=b.ZO;have e1:=m.init.symm.trans m'.init;injection e1 with e1;injection e1 with e1;injection e1 with e1;subst e1;obtain⟨oc,od,kV,doc,pm,an,fv,ct,uo,rfl,lk,_⟩:=F.ex;obtain⟨oc',od',kV',ahM,pm',an',ahQ,ct',aez,rfl,XG,_⟩:=F'.ex;rw[lk]at XG;injection XG with XG;injection XG with _ _ e3 _;injection e3 with e3;exact h (akc FuncData.qualname e3)
def Zn(K:Frag)(x:Str)(z:Int):Prop:=∃t,nsIn K mainGlobals x=some (some (.int z t))
theorem S3{x:Str}{t:Tok}(a:nsIn K mainGlobals x=some (some (.int z t))):Zn K x z:=⟨t,a⟩
theorem bH{x:Str}(X:K.In h)(G:h.Ns mainGlobals mg)(a:Zn K x z):Num mg x z:=let⟨t,e⟩:=a;⟨t,amq X G e⟩
theorem WI{x:Str}{st:Stmt}{kV:Value}(l:K.lookup f=some ⟨oc,od,.func (W.fnOf x qual (du st) (cX st) (aF st) .none kV doc pm an (.ref c) ct),uo⟩) (cc:W.codeIn K (.ref c) qual=true)(k:W.keepIn K (.ref f)=true):A6 K x qual st f (W.fnOf x qual (du st) (cX st) (aF st) .none kV doc pm an (.ref c) ct) c:=⟨⟨oc,od,kV,doc,pm,an,ct,uo,rfl,l,cc⟩,k⟩
theorem Om{x:Str}{st:Stmt}(F:A6 K x qual st f fd c):o3 K x qual st f fd:=let⟨oc,od,kV,doc,pm,an,ct,uo,e,l,cc⟩:=F.ex;⟨⟨oc,od,kV,doc,pm,an,_,ct,uo,e,l,cc⟩,F.kp⟩
theorem O7{q:Frag}{x:Str}{PT:Addr}{occ:Value}{odc:Option Addr}{slc:Array (Option Value)}{vs:Array Value}(a:nsIn q mainGlobals x=some (some (.ref f)))(l:q.lookup f=some ⟨oc,od,.func fd,sl⟩)(hc:fd.code= .ref c) (lc:q.lookup c=some ⟨occ,odc,.fields vs,slc⟩)(Xw:vs[11]?=some (.ref PT)):W.tabIn q x=some (c,PT):=by unfold W.tabIn;rw[a];simp only[l,hc,lc,Xw]
theorem up{k:Nat}{x:Str}(D:bz P w K mg base j x ps sp)(h:j<=k:=by decide):bz P w K mg base k x ps sp:=D.mono h
theorem O4{k:Nat}{x:Str}{C:Addr}(D:jt P w K mg base j x C ps sp)(h:j<=k:=by decide):jt P w K mg base k x C ps sp:=
 let⟨f,fd,M,F,r⟩:=D.ex;⟨f,fd,M,F.mono h,r⟩
theorem bd1{st:Stmt}(h:∀kV doc pm an fv ct a,bindArgs (W.fnOf y q (du st) (cX st) (aF st) .none kV doc pm an fv ct) ⟨[a],[]⟩=pure ([p0].zip [a])):∀g gd,o3 K y q st g gd->Binds K gd [p0] []:=fun _ _ F=>F.binds fun _ _ _ _ _ _ us hl=>match us,hl with| [a],_=>h _ _ _ _ _ _ _
theorem bd2{st:Stmt}(h:∀kV doc pm an fv ct a b,bindArgs (W.fnOf y q (du st) (cX st) (aF st) .none kV doc pm an fv ct) ⟨[a,b],[]⟩=pure ([p0,p1].zip [a,b])):∀g gd,o3 K y q st g gd->Binds K gd [p0,p1] []:=fun _ _ F=>F.binds fun _ _ _ _ _ _ us hl=>match us,hl with| [a,b],_=>h _ _ _ _ _ _ _ _
theorem X0{st:Stmt}(h:∀kV doc pm an fv ct a b c,bindArgs (W.fnOf y q (du st) (cX st) (aF st) .none kV doc pm an fv ct) ⟨[a,b,c],[]⟩=pure ([p0,p1,p2].zip [a,b,c])):∀g gd,o3 K y q st g gd->Binds K gd [p0,p1,p2] []:=fun _ _ F=>F.binds fun _ _ _ _ _ _ us hl=>match us,hl with| [a,b,c],_=>h _ _ _ _ _ _ _ _ _
theorem bd4{st:Stmt}(h:∀kV doc pm an fv ct a b c d,bindArgs (W.fnOf y q (du st) (cX st) (aF st) .none kV doc pm an fv ct) ⟨[a,b,c,d],[]⟩=pure ([p0,p1,p2,p3].zip [a,b,c,d])):∀g gd,o3 K y q st g gd->Binds K gd [p0,p1,p2,p3] []:=fun _ _ F=>F.binds fun _ _ _ _ _ _ us hl=>match us,hl with| [a,b,c,d],_=>h _ _ _ _ _ _ _ _ _ _
theorem bd5{st:Stmt}(h:∀kV doc pm an fv ct a b c d e,bindArgs (W.fnOf y q (du st) (cX st) (aF st) .none kV doc pm an fv ct) ⟨[a,b,c,d,e],[]⟩=pure ([p0,p1,p2,p3,p4].zip [a,b,c,d,e])):∀g gd,o3 K y q st g gd->Binds K gd [p0,p1,p2,p3,p4] []:=fun _ _ F=>F.binds fun _ _ _ _ _ _ us hl=>match us,hl with| [a,b,c,d,e],_=>h _ _ _ _ _ _ _ _ _ _ _
theorem bd6{p5:Str}{st:Stmt}(h:∀kV doc pm an fv ct a b c d e f,bindArgs (W.fnOf y q (du st) (cX st) (aF st) .none kV doc pm an fv ct) ⟨[a,b,c,d,e,f],[]⟩=pure ([p0,p1,p2,p3,p4,p5].zip [a,b,c,d,e,f])):∀g gd,o3 K y q st g gd->Binds K gd [p0,p1,p2,p3,p4,p5] []:=fun _ _ F=>F.binds fun _ _ _ _ _ _ us hl=>match us,hl with| [a,b,c,d,e,f],_=>h _ _ _ _ _ _ _ _ _ _ _ _
section
variable{k:Nat}{x:Str}{st:Stmt}{C:Addr}
theorem ai(P:Program)(w:World)(base:Heap)(X:K.In h)(G:h.Ns mainGlobals mg)(d:Dn K x st)(hF:∀f fd,o3 K x x st f fd->gU P w K mg base vT k f fd ps sp)(hb:∀f fd,o3 K x x st f fd->Binds K fd ps []:=by first|exact bd1 fun _ _ _ _ _ _ _=>rfl|exact bd2 fun _ _ _ _ _ _ _ _=>rfl|exact X0 fun _ _ _ _ _ _ _ _ _=>rfl|exact bd4 fun _ _ _ _ _ _ _ _ _ _=>rfl|exact bd5 fun _ _ _ _ _ _ _ _ _ _ _=>rfl|exact bd6 fun _ _ _ _ _ _ _ _ _ _ _ _=>rfl):bz P w K mg base k x ps sp:=
 let⟨f,fd,F,a⟩:=d.ex;⟨f,fd,hF f fd F,amq X G a,F.kp,hb f fd F⟩
theorem Rg(P:Program)(w:World)(base:Heap){sp:Ow}(X:K.In h)(G:h.Ns mainGlobals mg)(d:Dn K x st)(hF:∀f fd,o3 K x x st f fd->xB P w K mg base vT k f fd ps sp)(hb:∀f fd,o3 K x x st f fd->Binds K fd ps []):ya P w K mg base k x ps sp:=
 let⟨f,fd,F,a⟩:=d.ex;⟨f,fd,hF f fd F,amq X G a,F.kp,hb f fd F⟩
theorem wt(P:Program)(w:World)(base:Heap)(X:K.In h)(G:h.Ns mainGlobals mg)(d:Cn K x q st C)(hF:∀f fd,o3 K "__init__" q st f fd->gU P w K mg base vT k f fd ps sp)(hb:∀f fd,o3 K "__init__" q st f fd->Binds K fd ps []:=by first|exact bd1 fun _ _ _ _ _ _ _=>rfl|exact bd2 fun _ _ _ _ _ _ _ _=>rfl|exact X0 fun _ _ _ _ _ _ _ _ _=>rfl|exact bd4 fun _ _ _ _ _ _ _ _ _ _=>rfl|exact bd5 fun _ _ _ _ _ _ _ _ _ _ _=>rfl|exact bd6 fun _ _ _ _ _ _ _ _ _ _ _ _=>rfl):jt P w K mg base k x C ps sp:=
 let⟨f,fd,m,F⟩:=d.ZO;⟨f,fd,m,hF f fd F,amq X G d.ns,hb f fd F⟩
end
def Bc(K:Frag)(TB:List (Addr×Addr)):Sp:=fun vs H Q _=>∃la cs,vs=[.ref la]/\(∀H',(∀o,Nt H la o->H' la=some o)->ae K H' la ((cs.flatMap enc).map V.int))/\(cs.flatMap enc).length<=100000/\(∀c∈cs,(bJ c).length<=200)/\(outs Vbkoac.start cs).length<=10000000/\(∀t∈TB,H t.2=some (.hU #[]))/\∀H' g,H' g=some (.lst ((outs Vbkoac.start cs).map V.int))->Q (.ref g) H'
theorem NL{l1 l2:List (Pos×Str)}{k:Nat}(F:gU P w K mg base vT k f fd ["calls"] (Hx K C [(LO,l1),(LN,l2)])):gU P w K mg base vT k f fd ["calls"] (Bc K [(c1,LO),(c2,LN)]):=F.imp fun vs H Q E ⟨la,cs,e,h1,h3,h4,h5,h6,hQ⟩=>⟨la,cs,e,h1,h3,h4,h5,fun t ht=>by
  have tab:∀(PT:Addr) (l:List (Pos×Str)),H PT=some (.hU #[])->ou H PT l:=fun PT l e=>⟨#[],e,by trivial,fun q _=> .inl rfl⟩;rcases aiZ.mp ht with rfl|ht
  .exact tab _ _ (h6 (c1,LO) (aiV ..))
  .rw[aiU.mp ht];exact tab _ _ (h6 (c2,LN) (aiS _ (aiU.mpr rfl))),fun H' g e _=>hQ H' g e⟩
section
variable{K:W.Frag}
theorem all_mk{fa Cp Cr Cd Ch Ck Cc f1 f2:Addr}{WH RU:FuncData}(X:K.In h)(G:h.Ns mainGlobals mg)(hfa:mg "answers"=some (.ref fa)) (Ag:Dn K "read_call" Il) (K9:Dn K "is_day" Bu) (C4:Dn K "tell_day" Yg) (Ai:Dn K "is_number" Bt) (rH:Dn K "decided_today" Yq) (Gc:Dn K "is_rest" xb) (yL:Dn K "read_rests" Yj) (uN:Dn K "read_grounds" Yk) (yK:Dn K "tell_paper" Yf) (oU:Dn K "tell_revocation" Ye) (Af:Dn K "take_back" Yh) (qA:Dn K "answer_telling" JC) (je:Dn K "refusal_of_known_day" Ii) (oW:Dn K "refusal_of_days" Ij) (m5:Dn K "refusal_of_asked" Ik) (Aj:Dn K "counts_at" xi) (C7:Dn K "known_at" sr) (Rm:Dn K "hits" Iv) (rE:Dn K "revocation_of" Bm) (p8:Dn K "good_by_itself" Iw) (C5:Dn K "rests_on" sq) (Ak:Dn K "all_rests" pL) (rG:Dn K "grounds_under" Yo) (yM:Dn K "leaning_on" Ip) (Gd:Dn K "is_full" xc) (oX:Dn K "has_full_ground" Bw) (p7:Dn K "newly_standing" Pt) (vH:Dn K "ranks_under" Bo) (vK:Dn K "is_standing" Iu) (WT:Dn K "why" Pk) (Rn:Dn K "flat" Iy) (uO:Dn K "proof_ground" Yn) (vJ:Dn K "proof_rests" Yl) (uP:Dn K "first_fallen" xg) (NZ:Dn K "proof" Pr) (yN:Dn K "is_made_of" Io) (Na:Dn K "parts" Bp) (oV:Dn K "steps_are_right" Bk) (Ri:Dn K "tree" Ia) (uM:Dn K "set_is_right" Pq) (Rj:Dn K "shut" Ie) (uQ:Dn K "answer_asked" JH) (Ah:Dn K "papers_on" Bq) (vG:Dn K "standing_on" Ic) (qC:Dn K "all_that_stand" Px) (uK:Dn K "turning_days" IZ) (uJ:Dn K "with_stretch" Yd) (uL:Dn K "stretches_of" Po) (NY:Dn K "spans" Bl) (Nc:Dn K "moved" Bs) (rJ:Dn K "answer_survey" JD) (lG:Dn K "refusal_of_pulling" Ih) (oY:Dn K "find_revocation" Iz) (lF:Dn K "without_revocation" sk) (vI:Dn K "pulled_down" xX) (rF:Dn K "pulled_papers" Ym) (C3:Dn K "way_down" Pl) (Nf:Dn K "chain" Bx) (qB:Dn K "answer_pulling" JE) (LA:Dn K "decide" xh) (yP:Dn K "days_heard" Bv) (C6:Dn K "pairs_of" Br) (kE:Dn K "changed_as_known_at" Pw) (p9:Dn K "days_of_change" Pu) (K8:Dn K "review" xW) (oZ:Dn K "answer_decision" JG) (GZ:Dn K "told_of" Ib) (vL:Dn K "answer_fact" JF) (vM:Dn K "answer_call" JB) (yO:Dn K "grounds_of" sv) (Gf:Dn K "come_to" JA) (Gg:Dn K "answers" Im) (r9:Cn K "Paper" "Paper.__init__" xY Cp) (tP:W.findIn K (.ref Cp) "number"=some none) (u9:W.findIn K (.ref Cp) "first"=some none) (x5:W.findIn K (.ref Cp) "last"=some none) (qu:W.findIn K (.ref Cp) "grounds"=some none) (u7:W.findIn K (.ref Cp) "heard"=some none) (fm:Cn K "Revocation" "Revocation.__init__" Ig Cr) (lp:W.findIn K (.ref Cr) "number"=some none) (mj:W.findIn K (.ref Cr) "paper"=some none) (mi:W.findIn K (.ref Cr) "since"=some none) (ml:W.findIn K (.ref Cr) "heard"=some none) (i6:W.findIn K (.ref Cr) "taken_back"=some none) (jg:Cn K "Decision" "Decision.__init__" I0 Cd) (oE:W.findIn K (.ref Cd) "number"=some none) (pS:W.findIn K (.ref Cd) "paper"=some none) (tU:W.findIn K (.ref Cd) "day"=some none) (pR:W.findIn K (.ref Cd) "stood"=some none) (qv:W.findIn K (.ref Cd) "made"=some none) (oe:Cn K "House" "House.__init__" xf Ch) (vC:W.findIn K (.ref Ch) "today"=some none) (tT:W.findIn K (.ref Ch) "papers"=some none) (lr:W.findIn K (.ref Ch) "revocations"=some none) (oC:W.findIn K (.ref Ch) "decisions"=some none) (Ey:Cn K "Known" "Known.__init__" xZ Ck) (tS:W.findIn K (.ref Ck) "papers"=some none) (lq:W.findIn K (.ref Ck) "revocations"=some none) (LC:Cn K "Call" "Call.__init__" By Cc) (vD:W.findIn K (.ref Cc) "number"=some none) (tV:W.findIn K (.ref Cc) "numbers"=some none) (CJ:W.findIn K (.ref Cc) "row"=some none) (CK:W.findIn K (.ref Cc) "end"=some none) (UT:W.nsIn K mainGlobals "len"=some none) (Ms:W.nsIn K mainGlobals "range"=some none) (UU:W.nsIn K mainGlobals "any"=some none) (UW:W.nsIn K mainGlobals "all"=some none) (Jr:W.nsIn K mainGlobals "sorted"=some none) (za:W.nsIn K mainGlobals "enumerate"=some none) (QJ:W.nsIn K mainGlobals "list"=some none) (Mr:W.nsIn K mainGlobals "tuple"=some none) (US:W.nsIn K mainGlobals "set"=some none) (UR:W.nsIn K mainGlobals "zip"=some none) (a1:W.nsIn K mainGlobals "proof_steps"=some (some (.ref f1))) (FC1:A6 K "proof_steps" "proof_steps" Yi f1 WH c1) (a2:W.nsIn K mainGlobals "closed_set"=some (some (.ref f2))) (FC2:A6 K "closed_set" "closed_set" xj f2 RU c2) (BK:Zn K "ACCEPTED" 0) (pB:Zn K "ALL_THAT_STAND" 9) (O2:Zn K "BACK" 3) (Lv:Zn K "CHAIN" 12) (S5:Zn K "DAY" 0) (HU:Zn K "DECIDE" 14) (O1:Zn K "FULL" (-6)) (E8:Zn K "GONE_BY" (-5)) (BJ:Zn K "LAST_DAY" 9999) (uw:Zn K "LAST_NUMBER" 999) (pA:Zn K "MOST_DECISIONS" 30) (sJ:Zn K "MOST_GROUNDS" 3) (uu:Zn K "MOST_PAPERS" 24) (xD:Zn K "MOST_RESTS" 4) (mN:Zn K "MOST_REVOCATIONS" 20) (Lu:Zn K "MOVED" 13) (yu:Zn K "NONE_SUCH" (-3)) (yt:Zn K "NOT_KNOWN" 1) (E7:Zn K "NOT_YET" (-7)) (yr:Zn K "NO_GROUND" 5) (sI:Zn K "OUT_OF_RANGE" (-2)) (Ls:Zn K "PAPER" 1) (Lr:Zn K "PROOF" 6) (HS:Zn K "PULLED" 11) (HR:Zn K "REVIEW" 15) (HQ:Zn K "REVOKE" 2) (E6:Zn K "REVOKED" 4) (O0:Zn K "SHUT" 8) (Lq:Zn K "SPANS" 10) (BI:Zn K "STANDING" 0) (HP:Zn K "STANDS" 4) (sG:Zn K "TOLD_ALREADY" (-4)) (E5:Zn K "TOLD_OF" 16) (yq:Zn K "TOO_EARLY" 2) (BH:Zn K "TOO_LATE" 3) (Oz:Zn K "TREE" 7) (S4:Zn K "WHY" 5) (xC:Zn K "WRONG_LIST" (-9)) (Sh:DH P w K mg) (tb1:W.tabIn K "proof_steps"=some (c1,LO)) (R4:W.tabIn K "closed_set"=some (c2,LN)) (no1:K.lookup LO=none) (no2:K.lookup LN=none) (ne:LO≠LN) :∃(fd:FuncData) (TB:List (Addr×Addr)),(∀t∈TB,(∃x∈(["proof_steps","closed_set"]:List Str),W.tabIn K x=some t)/\K.lookup t.2=none)/\(∀(s:Shared) (us:List Value),us.length=(["calls"]:List Str).length->BindsTo s fd ⟨us,[]⟩ ((["calls"]:List Str).zip us))/\∀base:Heap,K.In base->base.Ns mainGlobals mg->BM base mg->(∀t∈TB,W.CodeHd base t.1 t.2)->gU P w K mg base vT 13 fa fd ["calls"] (Bc K TB):=by
 obtain⟨f0,fd0,F0,a0⟩:=Gg.ex;have e0:=hfa.symm.trans (amq X G a0);cases e0;refine⟨fd0,[(c1,LO),(c2,LN)],fun t ht=>?_,fun s us hu=>?_,fun base Xb Gb B uD=>?_⟩
 .rcases aiZ.mp ht with rfl|ht
  .exact⟨⟨"proof_steps",aiV ..,tb1⟩,no1⟩
  .rw[aiU.mp ht];exact⟨⟨"closed_set",aiS _ (aiU.mpr rfl),R4⟩,no2⟩
 .obtain⟨oc,od,kV,doc,pm,an,fv,ct,uo,rfl,lk,uD⟩:=F0.ex
  match us,hu with
  | [_],_=>exact .of_eq rfl
 let C:Cs:=⟨Cp,Cr,Cd,Ch,Ck,Cc⟩
 let TT:List (Addr×List (Pos×Str)):=[(LO,CP),(LN,[(lW,("closed_set.<locals>.<lambda>":Str))])]
 have T:Txt K mg C:=by
  refine⟨r9.cls,fm.cls,jg.cls,oe.cls,Ey.cls,LC.cls,fun f hf=>?_,fun f hf=>?_,fun f hf=>?_,fun f hf=>?_,fun f hf=>?_,fun f hf=>?_,fun f hf=>?_⟩
  .simp only[aiZ,ajW,ak3]at hf;rcases hf with rfl|rfl|rfl|rfl|rfl
   .exact tP
   .exact u9
   .exact x5
   .exact qu
   .exact u7
  .simp only[aiZ,ajW,ak3]at hf;rcases hf with rfl|rfl|rfl|rfl|rfl
   .exact lp
   .exact mj
   .exact mi
   .exact ml
   .exact i6
  .simp only[aiZ,ajW,ak3]at hf;rcases hf with rfl|rfl|rfl|rfl|rfl
   .exact oE
   .exact pS
   .exact tU
   .exact pR
   .exact qv
  .simp only[aiZ,ajW,ak3]at hf;rcases hf with rfl|rfl|rfl|rfl
   .exact vC
   .exact tT
   .exact lr
   .exact oC
  .simp only[aiZ,ajW,ak3]at hf;rcases hf with rfl|rfl
   .exact tS
   .exact lq
  .simp only[aiZ,ajW,ak3]at hf;rcases hf with rfl|rfl|rfl|rfl
   .exact vD
   .exact tV
   .exact CJ
   .exact CK
  .simp only[aiZ,ajW,ak3]at hf;rcases hf with rfl|rfl|rfl|rfl|rfl|rfl|rfl|rfl|rfl|rfl
   .exact akS X G UT
   .exact akS X G Ms
   .exact akS X G UU
   .exact akS X G UW
   .exact akS X G Jr
   .exact akS X G za
   .exact akS X G QJ
   .exact akS X G Mr
   .exact akS X G US
   .exact akS X G UR
 have Ap:Apart C:=⟨An oe r9 (by decide),An oe fm (by decide),An oe jg (by decide),An fm r9 (by decide),An fm jg (by decide)⟩;have h1:=uD (c1,LO) (aiV ..);have h2:=uD (c2,LN) (aiS _ (aiU.mpr rfl));have m1:(LO,CP)∈TT:=aiV ..;have m2:(LN,[(lW,("closed_set.<locals>.<lambda>":Str))])∈TT:=aiS _ (aiU.mpr rfl);have u1:∀x∈TT,x.1=LO->x.2=CP:=fun x hx e=>by
  rcases aiZ.mp hx with rfl|hx
  .rfl
  .rw[aiU.mp hx]at e;exact absurd e.symm ne
 have u2:∀x∈TT,x.1=LN->x.2=[(lW,("closed_set.<locals>.<lambda>":Str))]:=fun x hx e=>by
  rcases aiZ.mp hx with rfl|hx
  .exact absurd e ne
  .rw[aiU.mp hx]
 have Ou:∀k,ya P w K mg base (k+1) "come_to" ["start","following"] (xJ P w K mg base TT k):=fun k=>Rg P w base X G Gf (fun _ _ F=>Mg F T.dZ) (bd2 fun _ _ _ _ _ _ _ _=>rfl);have bP:=bH X G BK;have i7:=bH X G pB;have QN:=bH X G O2;have Mw:=bH X G Lv;have OS:=bH X G S5;have zm:=bH X G HU;have CI:=bH X G O1;have lV:=bH X G E8;have CH:=bH X G BJ;have vB:=bH X G uw;have pQ:=bH X G pA;have tR:=bH X G sJ;have vA:=bH X G uu;have x6:=bH X G xD;have mm:=bH X G mN;have Mv:=bH X G Lu;have kf:=bH X G yu;have zl:=bH X G yt;have Fv:=bH X G E7;have zk:=bH X G yr;have bN:=bH X G sI;have EE:=bH X G Ls;have ED:=bH X G Lr;have tQ:=bH X G HS;have Jz:=bH X G HR;have zj:=bH X G HQ;have Fu:=bH X G E6;have QM:=bH X G O0;have EC:=bH X G Lq;have CG:=bH X G BI;have zi:=bH X G HP;have iD:=bH X G sG;have Ft:=bH X G E5;have zh:=bH X G yq;have CF:=bH X G BH;have Jy:=bH X G Oz;have OR:=bH X G S4;have jV:=bH X G xC;have Rw:=wt P w base X G LC (fun _ _ F=>Jq (C:=C) F T);have A8:=ai P w base X G Ag (fun _ _ F=>MW F T Sh (O4 Rw));have jF:=ai P w base X G K9 (fun _ _ F=>Jm F CH);have DL:=ai P w base X G C4 (fun _ _ F=>UH F T Ap (up jF) bN lV bP);have ck:=ai P w base X G Ai (fun _ _ F=>Jl F vB);have gV:=ai P w base X G rH (fun _ _ F=>UP F T);have G0:=ai P w base X G Gc (fun _ _ F=>Fh F (up ck));have yc:=ai P w base X G yL (fun _ _ F=>UJ F T (up G0));have uh:=ai P w base X G uN (fun _ _ F=>UK F T (up yc) tR x6);have Nq:=wt P w base X G r9 (fun _ _ F=>Ff (C:=C) F T);have yb:=ai P w base X G yK (fun _ _ F=>UG F T Ap (up jF) (up ck) (up gV) (up uh) (O4 Nq) bN lV bP iD CI jV vA);have yZ:=wt P w base X G fm (fun _ _ F=>MR (C:=C) F T);have o4:=ai P w base X G oU (fun _ _ F=>UE F T Ap (up jF) (up ck) (up gV) (O4 yZ) bN lV bP iD CI mm);have A7:=ai P w base X G Af (fun _ _ F=>UI F T Ap (up ck) (up gV) bN lV bP iD kf);have qM:=ai P w base X G qA (fun _ _ F=>Mi F T (up DL) (up yb) (up o4) (up A7) OS EE zj);have d8:=ai P w base X G je (fun _ _ F=>MT F T (up jF) bN Fv bP);have fu:=ai P w base X G oW (fun _ _ F=>MU F (up jF) (up d8) bN);have iJ:=ai P w base X G m5 (fun _ _ F=>MV F (up ck) (up fu) bN);have A9:=ai P w base X G Aj (fun _ _ F=>Fm F T);have E3:=wt P w base X G Ey (fun _ _ F=>Fg (C:=C) F T);have eW:=ai P w base X G C7 (fun _ _ F=>B9 F T (up A9) (O4 E3));have LV:=ai P w base X G Rm (fun _ _ F=>Mb F T);have jr:=ai P w base X G rE (fun _ _ F=>Jf F T (up LV));have qK:=ai P w base X G p8 (fun _ _ F=>Mc F T (up jr));have DM:=ai P w base X G C5 (fun _ _ F=>B8 F);have nA:=ai P w base X G yO (fun _ _ F=>zY F T (up qK) (up DM));have jG:eD 4:=let⟨f,fd,F,r⟩:=nA.ex;⟨f,fd,CA F,r⟩;have lP:=ai P w base X G Ak (fun _ _ F=>zZ F);have rS:=ai P w base X G rG (fun _ _ F=>UO F T (up jG) (up lP));have yd:=ai P w base X G yM (fun _ _ F=>MZ F (up lP));have G1:=ai P w base X G Gd (fun _ _ F=>Fi F);have iY:=ai P w base X G oX (fun _ _ F=>Jo F (up G1));have qJ:=ai P w base X G p7 (fun _ _ F=>QF F (up iY));have cv:=ai P w base X G vH (fun _ _ F=>Jg F T (up rS) (up yd) (up iY) (up qJ));have ie:=ai P w base X G vK (fun _ _ F=>Ma F (up cv));have Wh:=ai P w base X G WT (fun _ _ F=>P9 F T (up ie) (up jr) CG zl zh CF Fu zk);have ye:=ai P w base X G Rn (fun _ _ F=>Md F);have lO:=ai P w base X G uO (fun _ _ F=>UN F T (up nA));have vQ:=ai P w base X G vJ (fun _ _ F=>UL F (up nA) (up lO));have vP:ki 9:=⟨_,_,QD FC1 B h1 m1 u1 T.dZ (Ou 7) (up vQ) (up lO),amq X G a1,FC1.kp,(X0 fun _ _ _ _ _ _ _ _ _=>rfl) _ _ (Om FC1)⟩;have uj:=ai P w base X G uP (fun _ _ F=>Fk F T (up jG));have yg:mF 8:=⟨_,_,Fn FC2 B h2 m2 u2 (Ou 6) (up uj),amq X G a2,FC2.kp,(X0 fun _ _ _ _ _ _ _ _ _=>rfl) _ _ (Om FC2)⟩;have Nv:=ai P w base X G NZ (fun _ _ F=>QE F (up cv) (up ye) (up vP) (up yg));have o6:=ai P w base X G yN (fun _ _ F=>MY F T);have E4:=ai P w base X G Na (fun _ _ F=>Jh (C:=C) F T);have o5:=ai P w base X G oV (fun _ _ F=>Jd F T (up jG));have R0:=ai P w base X G Ri (fun _ _ F=>MN F (up o6) (up E4) (up o5) jV bP);have ug:=ai P w base X G uM (fun _ _ F=>QC F T (up jG));have R1:=ai P w base X G Rj (fun _ _ F=>MQ F (up o6) (up E4) (up ug) jV bP);have uk:=ai P w base X G uQ (fun _ _ F=>Mo F T (up iJ) (up eW) (up ie) (up Wh) (up Nv) (up R0) (up R1) bP zi OR ED Jy);have qi:=ai P w base X G Ah (fun _ _ F=>Ji F T);have mK:=ai P w base X G vG (fun _ _ F=>MP F T (up cv) (up qi));have qO:=ai P w base X G qC (fun _ _ F=>ok_all F (up fu) (up eW) (up mK) bP);have ue:=ai P w base X G uK (fun _ _ F=>MM F T nU T.dZ T.dZ);have ud:=ai P w base X G uJ (fun _ _ F=>UD F T);have uf:=ai P w base X G uL (fun _ _ F=>QB F T (up ue) (up cv) (up ud));have Nu:=ai P w base X G NY (fun _ _ F=>Je F (up ck) (up d8) (up eW) (up uf) (up ye) bP bN);have Nw:=ai P w base X G Nc (fun _ _ F=>Jk F T (up fu) (up d8) (up eW) (up mK) bP);have rT:=ai P w base X G rJ (fun _ _ F=>Mj F T (up qO) (up Nu) (up Nw) i7 EC);have lN:=ai P w base X G lG (fun _ _ F=>MS F T (up iJ) (up ck) tQ bN);have o7:=ai P w base X G oY (fun _ _ F=>Me F T);have lM:=ai P w base X G lF (fun _ _ F=>B7 F T (O4 E3));have mL:=ai P w base X G vI (fun _ _ F=>Fe F T (up cv) (up lM));have rR:=ai P w base X G rF (fun _ _ F=>UM F T (up mL) (up qi));have DK:=ai P w base X G C3 (fun _ _ F=>QA F (up LV) (up jG) (up lP));have Ny:=ai P w base X G Nf (fun _ _ F=>Jp F (up mL) (up ye) (up DK));have qN:=ai P w base X G qB (fun _ _ F=>Ml F T (up lN) (up eW) (up o7) (up rR) (up Ny) tQ bP kf);have DI:=wt P w base X G jg (fun _ _ F=>Mf (C:=C) F T);have LW:=ai P w base X G LA (fun _ _ F=>Fl F T (up jF) (up ck) (up ie) (up eW) (O4 DI) bN bP CI pQ);have yf:=ai P w base X G yP (fun _ _ F=>Jn F T nU T.dZ T.dZ);have ui:=ai P w base X G C6 (fun _ _ F=>Jj F T);have kI:=ai P w base X G kE (fun _ _ F=>QH F T (up cv) (up eW) (up ui));have qL:=ai P w base X G p9 (fun _ _ F=>QG F T (up yf) (up kI));have LU:=ai P w base X G K8 (fun _ _ F=>Fc F T (up qL) (up cv) (up eW) (up ui) bP);have o8:=ai P w base X G oZ (fun _ _ F=>Mn F T (up LW) (up LU) zm);have Gz:=ai P w base X G GZ (fun _ _ F=>MO F T (up ck) (up ye) bP bN kf);have vR:=ai P w base X G vL (fun _ _ F=>Mm F T (up Gz) bP Ft);have vS:=ai P w base X G vM (fun _ _ F=>Mh F T (up qM) (up uk) (up rT) (up qN) (up o8) (up vR) OS EE zj QN zi OR ED Jy QM i7 EC tQ Mw Mv zm Jz);have Nr:=wt P w base X G oe (fun _ _ F=>Fj (C:=C) F T);exact NL (MX F0 T (up A8) (up vS) (O4 Nr))
end
theorem jw{t:Addr}{n:Int}{b:Bool}{j:Tok}(l:K.lookup t=some ⟨.type "tuple",od,.seq #[.int n j,.bool b] e,sl⟩)(H:Hp):gF K H t [V.int n,V.bl b]:= .inr ⟨_,_,_,l,rfl,rfl,zL rfl,.cons ⟨j,rfl⟩ (.cons rfl .nil)⟩
theorem FQ(X:K.In h)(G:h.Ns mainGlobals mg){S t0 t1 t2 t3 t4 t5 t6 t7 t8 t9 Ww Wv Wu Wt Ws Wr Wq Wp:Addr}{k0 k1 k2 k3 k4 k5 k6 k7 k8 k9 k10 k11 k12 k13 k14 k15 k16 k17 j0 j1 j2 j3 j4 j5 j6 j7 j8 j9 j10 j11 j12 j13 j14 j15 j16 j17:Tok}{h0 h1 h2 h3 h4 h5 h6 h7 h8 h9 h10 Xw AQ h13 h14 h15 h16 h17:Int}{ep e0 e2 e3 e4 e5 e6 e7 e8 e9 o9 iU iT wo r6 e15 e16 e17:Nat}{od0 od1 rZ od3 od4 od5 od6 od7 od8 od9 Y9 Y8 Y7 Y6 Y5 Y4 Y3 Y2:Option Addr}{sl0 sl1 sl2 sl3 sl4 sl5 sl6 sl7 sl8 sl9 YY YX YW YV YU YT YS YR:Array (Option Value)} (a:nsIn K mainGlobals "SHAPES"=some (some (.ref S))) (l:K.lookup S=some ⟨.type "dict",none,.dict #[⟨h0,.int 0 k0,.ref t0⟩,⟨h1,.int 1 k1,.ref t1⟩,⟨h2,.int 2 k2,.ref t2⟩,⟨h3,.int 3 k3,.ref t3⟩,⟨h4,.int 4 k4,.ref t4⟩,⟨h5,.int 5 k5,.ref t5⟩,⟨h6,.int 6 k6,.ref t6⟩,⟨h7,.int 7 k7,.ref t7⟩,⟨h8,.int 8 k8,.ref t8⟩,⟨h9,.int 9 k9,.ref t9⟩,⟨h10,.int 10 k10,.ref Ww⟩,⟨Xw,.int 11 k11,.ref Wv⟩,⟨AQ,.int 12 k12,.ref Wu⟩,⟨h13,.int 13 k13,.ref Wt⟩,⟨h14,.int 14 k14,.ref Ws⟩,⟨h15,.int 15 k15,.ref Wr⟩,⟨h16,.int 16 k16,.ref Wq⟩,⟨h17,.int 17 k17,.ref Wp⟩] ep,#[]⟩) (l0:K.lookup t0=some ⟨.type "tuple",od0,.seq #[.int 1 j0,.bool false] e0,sl0⟩) (l1:K.lookup t1=some ⟨.type "tuple",od1,.seq #[.int 3 j1,.bool true] e1,sl1⟩) (l2:K.lookup t2=some ⟨.type "tuple",rZ,.seq #[.int 3 j2,.bool false] e2,sl2⟩) (l3:K.lookup t3=some ⟨.type "tuple",od3,.seq #[.int 1 j3,.bool false] e3,sl3⟩) (l4:K.lookup t4=some ⟨.type "tuple",od4,.seq #[.int 3 j4,.bool false] e4,sl4⟩) (l5:K.lookup t5=some ⟨.type "tuple",od5,.seq #[.int 3 j5,.bool false] e5,sl5⟩) (l6:K.lookup t6=some ⟨.type "tuple",od6,.seq #[.int 3 j6,.bool false] e6,sl6⟩) (l7:K.lookup t7=some ⟨.type "tuple",od7,.seq #[.int 3 j7,.bool true] e7,sl7⟩) (l8:K.lookup t8=some ⟨.type "tuple",od8,.seq #[.int 3 j8,.bool true] e8,sl8⟩) (l9:K.lookup t9=some ⟨.type "tuple",od9,.seq #[.int 2 j9,.bool false] e9,sl9⟩) (ZW:K.lookup Ww=some ⟨.type "tuple",Y9,.seq #[.int 2 j10,.bool false] o9,YY⟩) (l11:K.lookup Wv=some ⟨.type "tuple",Y8,.seq #[.int 3 j11,.bool false] iU,YX⟩) (l12:K.lookup Wu=some ⟨.type "tuple",Y7,.seq #[.int 4 j12,.bool false] iT,YW⟩) (l13:K.lookup Wt=some ⟨.type "tuple",Y6,.seq #[.int 3 j13,.bool false] wo,YV⟩) (l14:K.lookup Ws=some ⟨.type "tuple",Y5,.seq #[.int 2 j14,.bool false] r6,YU⟩) (l15:K.lookup Wr=some ⟨.type "tuple",Y4,.seq #[.int 0 j15,.bool false] e15,YT⟩) (l16:K.lookup Wq=some ⟨.type "tuple",Y3,.seq #[.int 1 j16,.bool false] e16,YS⟩) (l17:K.lookup Wp=some ⟨.type "tuple",Y2,.seq #[.int 0 j17,.bool false] e17,YR⟩) (hh:[h0,h1,h2,h3,h4,h5,h6,h7,h8,h9,h10,Xw,AQ,h13,h14,h15,h16,h17]=[hashInt 0,hashInt 1,hashInt 2,hashInt 3,hashInt 4,hashInt 5,hashInt 6,hashInt 7,hashInt 8,hashInt 9,hashInt 10,hashInt 11,hashInt 12,hashInt 13,hashInt 14,hashInt 15,hashInt 16,hashInt 17]) :DH P w K mg:=by
 refine⟨S,[(0,.ref t0),(1,.ref t1),(2,.ref t2),(3,.ref t3),(4,.ref t4),(5,.ref t5),(6,.ref t6),(7,.ref t7),(8,.ref t8),(9,.ref t9),(10,.ref Ww),(11,.ref Wv),(12,.ref Wu),(13,.ref Wt),(14,.ref Ws),(15,.ref Wr),(16,.ref Wq),(17,.ref Wp)],_,amq X G a,l,⟨_,_,⟨Z,Z,Z⟩,Z,?_,?_,show([0,1,2,3,4,5,6,7,8,9,10,11,12,13,14,15,16,17]:List Int).Nodup by decide⟩,fun c=>?_⟩
 .injection hh with q0 hh;injection hh with q1 hh;injection hh with q2 hh;injection hh with q3 hh;injection hh with q4 hh;injection hh with q5 hh;injection hh with q6 hh;injection hh with q7 hh;injection hh with q8 hh;injection hh with q9 hh;injection hh with Dt hh;injection hh with vv hh;injection hh with Ds hh;injection hh with BD hh;injection hh with B3 hh;injection hh with q15 hh;injection hh with q16 hh;injection hh with q17 hh;intro e he;rw[<-Array.mem_toList_iff]at he;simp only[aiZ,ajW,ak3]at he;rcases he with rfl|rfl|rfl|rfl|rfl|rfl|rfl|rfl|rfl|rfl|rfl|rfl|rfl|rfl|rfl|rfl|rfl|rfl
  .exact⟨0,ajF _ _ _ _,q0⟩
  .exact⟨1,ajF _ _ _ _,q1⟩
  .exact⟨2,ajF _ _ _ _,q2⟩
  .exact⟨3,ajF _ _ _ _,q3⟩
  .exact⟨4,ajF _ _ _ _,q4⟩
  .exact⟨5,ajF _ _ _ _,q5⟩
  .exact⟨6,ajF _ _ _ _,q6⟩
  .exact⟨7,ajF _ _ _ _,q7⟩
  .exact⟨8,ajF _ _ _ _,q8⟩
  .exact⟨9,ajF _ _ _ _,q9⟩
  .exact⟨10,ajF _ _ _ _,Dt⟩
  .exact⟨11,ajF _ _ _ _,vv⟩
  .exact⟨12,ajF _ _ _ _,Ds⟩
  .exact⟨13,ajF _ _ _ _,BD⟩
  .exact⟨14,ajF _ _ _ _,B3⟩
  .exact⟨15,ajF _ _ _ _,q15⟩
  .exact⟨16,ajF _ _ _ _,q16⟩
  .exact⟨17,ajF _ _ _ _,q17⟩
 .exact .cons (ajF _ _ _ _) rfl (.cons (ajF _ _ _ _) rfl (.cons (ajF _ _ _ _) rfl (.cons (ajF _ _ _ _) rfl (.cons (ajF _ _ _ _) rfl (.cons (ajF _ _ _ _) rfl (.cons (ajF _ _ _ _) rfl (.cons (ajF _ _ _ _) rfl (.cons (ajF _ _ _ _) rfl (.cons (ajF _ _ _ _) rfl (.cons (ajF _ _ _ _) rfl (.cons (ajF _ _ _ _) rfl (.cons (ajF _ _ _ _) rfl (.cons (ajF _ _ _ _) rfl (.cons (ajF _ _ _ _) rfl (.cons (ajF _ _ _ _) rfl (.cons (ajF _ _ _ _) rfl (.cons (ajF _ _ _ _) rfl (.nil))))))))))))))))))
 .cases c with
  |day _=>exact⟨t0,rfl,fun H=>jw l0 H⟩
  |paper _ _ _ _=>exact⟨t1,rfl,fun H=>jw l1 H⟩
  |revoke _ _ _=>exact⟨t2,rfl,fun H=>jw l2 H⟩
  |back _=>exact⟨t3,rfl,fun H=>jw l3 H⟩
  |stands _ _ _=>exact⟨t4,rfl,fun H=>jw l4 H⟩
  |why _ _ _=>exact⟨t5,rfl,fun H=>jw l5 H⟩
  |proof _ _ _=>exact⟨t6,rfl,fun H=>jw l6 H⟩
  |tree _ _ _ _=>exact⟨t7,rfl,fun H=>jw l7 H⟩
  |shut _ _ _ _=>exact⟨t8,rfl,fun H=>jw l8 H⟩
  |all _ _=>exact⟨t9,rfl,fun H=>jw l9 H⟩
  |spans _ _=>exact⟨Ww,rfl,fun H=>jw ZW H⟩
  |pulled _ _ _=>exact⟨Wv,rfl,fun H=>jw l11 H⟩
  |chain _ _ _ _=>exact⟨Wu,rfl,fun H=>jw l12 H⟩
  |moved _ _ _=>exact⟨Wt,rfl,fun H=>jw l13 H⟩
  |decide_ _ _=>exact⟨Ws,rfl,fun H=>jw l14 H⟩
  |review=>exact⟨Wr,rfl,fun H=>jw l15 H⟩
  |told _=>exact⟨Wq,rfl,fun H=>jw l16 H⟩
  |sizes=>exact⟨Wp,rfl,fun H=>jw l17 H⟩
open PySem.W (WData Codec Frag)
theorem F3{xs:List V}(hs:ae K H a xs):∀H',(∀o,Nt H a o->H' a=some o)->ae K H' a xs:=fun H' k=>by
 rcases hs with(h|⟨o,h⟩)|h
 .exact .inl (.inl (k _ ⟨h,nofun⟩))
 .exact .inl (.inr ⟨o,k _ ⟨h,nofun⟩⟩)
 .exact .inr h
end Pp
set_option maxRecDepth 100000 in
set_option maxHeartbeats 0 in
open Pp in
theorem PySem.Challenge.cw_papersonpapers_s01_answers_holds : PySem.Challenge.rw_papersonpapers_s01_answers.Holds := by
 w_on;k_headS;(case hw=>exact⟨[.list [.int 17]],by decide+kernel,by decide+kernel⟩)
 k_fillS
 refine L2.BL (r:=PySem.Challenge.rw_papersonpapers_s01_answers) (k:=13) (CX:=L2.vT) (ps:=["calls"]) (sp:=Bc) ["proof_steps","closed_set"] (by decide+kernel) rfl rfl ⟨rfl,by decide,by decide⟩ (fun w h Y=>PySem.W.kIn_of Y) ?abh ?cF ?cS (fun _ _ _ _ z=>z)
 case abh=>
  intro x hx;simp only[aiZ,ajW,ak3]at hx;rcases hx with rfl|rfl
  ·exact⟨_,rfl⟩
  ·exact⟨_,rfl⟩
 case cF=>
  intro w mg fa h Y KX G KP;refine' all_mk KX G KP ?_ ?_ ?_ ?_ ?_ ?_ ?_ ?_ ?_ ?_ ?_ ?_ ?_ ?_ ?_ ?_ ?_ ?_ ?_ ?_ ?_ ?_ ?_ ?_ ?_ ?_ ?_ ?_ ?_ ?_ ?_ ?_ ?_ ?_ ?_ ?_ ?_ ?_ ?_ ?_ ?_ ?_ ?_ ?_ ?_ ?_ ?_ ?_ ?_ ?_ ?_ ?_ ?_ ?_ ?_ ?_ ?_ ?_ ?_ ?_ ?_ ?_ ?_ ?_ ?_ ?_ ?_ ?_ ?_ ?_ ?_ ?_ ?_ ?_ ?_ ?_ ?_ ?_ ?_ ?_ ?_ ?_ ?_ ?_ ?_ ?_ ?_ ?_ ?_ ?_ ?_ ?_ ?_ ?_ ?_ ?_ ?_ ?_ ?_ ?_ ?_ ?_ ?_ ?_ ?_ ?_ ?_ ?_ ?_ ?_ ?_ ?_ ?_ ?_ ?_ ?_ ?_ ?_ ?_ ?_ ?_ ?_ ?_ ?_ ?_ ?_ ?_ ?_ ?_ ?_ ?_ ?_ ?_ ?_ ?_ ?_ ?_ ?_ ?_ ?_ ?_ ?_ ?_ ?_ ?_ ?_ ?_ ?_ ?_ ?_ ?_ ?_ ?_ ?_ ?_ ?_ ?_ ?_ ?_ ?_ ?_
  all_goals first|k_is|exact rfl|decide|(refine' WR ?_ ?_ ?_ ?_<;>first|k_is|exact rfl|skip)|(refine' WV ?_ ?_ ?_ ?_ ?_ ?_ ?_ ?_ ?_ ?_ ?_ ?_<;>first|k_is|exact rfl|skip)|(refine' S3 ?_<;>first|k_is|exact rfl|skip)|(refine' WI ?_ ?_ ?_<;>first|k_is|exact rfl|skip)|(refine' O7 ?_ ?_ ?_ ?_ ?_<;>first|k_is|exact rfl|skip)|(refine' FQ KX G ?_ ?_ ?_ ?_ ?_ ?_ ?_ ?_ ?_ ?_ ?_ ?_ ?_ ?_ ?_ ?_ ?_ ?_ ?_ ?_ ?_<;>first|k_is|exact rfl|skip)|skip
 case cS=>
  intro K TB H xs a hO hT Zf RE hx;cases hx with
  |cons h1 h2=>
   cases h2;cases h1 with
   |lst hs ha=>
    have e:=L2.EO a.1 _ ha;subst e;obtain⟨cs,e1,e2,e3,e4,e5⟩:=A1 (l:=a.1) RE;have hle:=AW e2;rw[e1]at hs;refine⟨_,cs,rfl,F3 hs,by omega,e2,e4,hT,fun H' g hg=>?_⟩;rw[←e3]at hg;exact .lst (L2.ae.of hg) (L2.Er _)
