import PyProof.Rows.All
import Wide.All
import OpenK.AllK
import Wide.FinOn
import Lean
import PyProof.EqAt
import PyProof.EqKinds
import PyProof.TupleCall
import PySem.Challenge.RW_slanttiles_k68_whole_none_does_with_fewe
open PySem renaming wpAny_bind->Aa,wpAny_pure->Ac,wpAny_newObj_type->Bh,wpAny_call_entry->Bm,wpAny_holding->Bs,codeAny_builtin->Ca,mem_of_lookup->Cb,wpAny_callSpecial?_slot->Ci,wpAny_truthy_bool->Cm,sizeLine_eq->Co,wpAny_seqItems->Cr,wpAny_dictEntries->Cy,plainId_quiet->Da,wpAny_mono->Dn,boot_len->Dq,wpAny_field->Dx,wpAny_isInstance->Ec,wpAny_forIn_list->Ed,wpAny_setState_of->Ei,wpAny_specialOf->Em,wpAny_setField->Fj,wpAny_typeNameOfWhole_valiter->Ga,wpAny_typeNameOfWhole_keyiter->Gb,wpAny_passesOwn->Gm,wpAny_notOrdered_dict->Gn,wpAny_dictEpoch->Gp,wpAny_pyIter_list->Gu,wpAny_typeOf->Hj,wpAny_typeNameOf_valiter->Hk,wpAny_typeNameOf_keyiter->Hl,wpAny_rule->Hm,wpAny_comprehension_free->Hn,codeAny_mono->Ho,wpAny_updateSeq->Hu,wpAny_tupleItemsOf->Hv,wpAny_setField_rec->Hw,wpAny_attempt->Hx,wpAny_Call_Name_kw->Hy,isSubtype_tuple_tuple->Ir,wpAny_askSetting->Ja,wpAny_standAt->Je,wpAny_letGo->Jm,wpAny_fieldsOf->Kb,wpAny_pyIter_slot->Ki,wpAny_assign_Name->Kj,wpAny_of_eq->Ku,wpAny_loadPart'->Lj,wpAny_isOneOf_valiter->Lk,wpAny_execs_nil->Ll,putSet_of->Lm,exec_Assign_Name_used->Lo,builtinLookup_eq_fast->Lq,wpAny_tryCatch->Mb,wpAny_runValue->Mc,isSubtype_stop->Md,wpAny_newList->Mq,wpAny_handled->Mr,wpAny_storeSet_of->Nl,wpAny_load->Nm,call_meetsIn->Oa,wpAny_eqBool_int->Oe,noFill_tuple_add->Of,wpAny_throw->Pa,wpAny_richCompare_same_room->Pb,typeLookup_type->Pc,Within->Pf,isSubtype_type->Pv,wpAny_call->Ql,intKind_is->Qm,wpAny_onRaise->Qr,seq_tuple_add->Qt,call->Qw,wpAny_Call_method_late->Ri,wpAny_Assign_Subscript->Rj,wpAny_isTrue_Compare1->Rq,wpAny_isOneOf_keyiter->Rr,seqIndex_neg->Rt,concat_meets->Rw,wpAny_updateSeq_pair->Sn,codeAny_call_builtin->Sq,wpAny_setEntries_of->Tc,seqIndex_of->Td,wpAny_setItem_heap->Tx,wpAny_pyIter_tuple->Tz,tupleKind_room_in1->Ua,wpAny_pyIter_enum->Uw,wpAny_Name->Ux,eqIsQuiet_byValue->Uy,call_meets->Uz,wpAny_pyIter_zip->Vn,wpAny_execs_cons->Vo,wpAny_Dict_empty->Vp,kt_code_dict_new->Vq,entryFor_of_tree->Vs,pushCells_keeps->Wz,codeAny_of_tree->Xa
open List renaming length_map->Ab,mem_cons_of_mem->Af,getElem?_eq_getElem->Ag,mem_cons_self->Ah,size_toArray->Ai,length_cons->Am,length_append->An,getElem?_map->As,append_nil->Ax,mem_of_getElem? ->Ay,map_map->Az,mem_append_right->Bc,lookup_cons->Be,drop_eq_getElem_cons->Bf,range->Bk,map_cons->Bo,length_take->Bp,length_range->Br,not_mem_nil->Bt,append_assoc->Bu,length->Bz,map_append->Ce,mem_cons->Ck,length_singleton->Cq,length_set->Cu,mem_of_mem_take->Cv,getElem?_eq_none->De,pairwise_map->Dg,length_drop->Dm,map_congr_left->Do,idxOf_lt_length_of_mem->Dv,getElem?_append_right->Dz,getElem?_inj->Ee,getElem?_append_left->Ef,getElem?_replicate->Eo,map_nil->Ep,perm_ext_iff_of_nodup->Et,getElem_mem->Eu,length_replicate->Ex,take_add_one->Ff,nil_append->Fg,find?_cons->Fh,lookup->Fm,any_cons->Fp,take_length->Fs,take_of_length_le->Fu,mem_singleton->Fy,foldl_cons->Gc,take_sublist->Gh,ext_getElem? ->Gi,drop_zero->Gq,nodup_range->Gv,filterMap_cons->Gy,pairwise_singleton->Hg,getElem_idxOf->Hh,nodup_append->Hs,flatMap_cons->Ht,nodup_nil->Ib,take_append_drop->Ie,pairwise_flatMap->Ig,mem_of_mem_drop->Ik,mem_append_left->Il,getElem?_append->Im,dropLast_concat_getLast->Ip,mem_append->Iw,getElem?_range->Iy,forIn_cons->Iz,zip_cons_cons->Jg,replicate->Jk,getElem?_take_of_lt->Ju,filter_cons_of_pos->Jz,filter_cons_of_neg->Ka,getElem_inj->Kd,pairwise_lt_range->Kg,findIdx_le_length->Kh,nodup_cons->Ko,length_nil->Kp,getElem?_toArray->Kq,getD->Kr,forIn_nil->Lc,getElem_of_mem->Le,flatMap_append->Lf,filter_sublist->Lg,getElem?_set->Me,of_mem_zip->Ng,take_subset_take_left->Nr,pairwise_iff_getElem->Oc,length_filterMap_le->Oq,Nodup->Os,range_succ_eq_map->Pg,getElem?_set_self->Ph,drop_of_length_le->Pi,mem_map->Pn,length_filter_le->Po,eraseIdx_sublist->Pp,contains_iff_mem->Pq,range_eq_range'->Qg,pairwise_append->Qh,getElem?_zipIdx->Qi,getElem?_set_ne->Qj,mem_filterMap->Qz,map_filterMap->Ra,length_zipIdx->Rc,getElem?_take->Re,zipIdx_cons->Rz,range'_succ->Sa,perm_middle->Sb,flatMap_nil->Sd,drop_length->Se,zipIdx_nil->Sv,filter_nil->Sw,take_succ->Tq,map_take->Uh,map_drop->Ui,any_beq'->Uj,all_cons->Uk,toArray->Ve,any_map->Vf,range'->We
open PySem.Heap renaming get?_push_of_some->Ad,get?_push_size->Al,lt_size->Ap,get?_update_self->Bj,size_push->Cc,get?_update_other->Cj,SameBut->Cw,get?_none_of_le->La,ExtBut->Nh
open PySem.W renaming Frag->Ae,findIn->Dt,kia_one->Du,emptyDict->Dy,fnOf->En,instObj->Fb,keepIn->Gj,mg_of->Ih,plainGet->Jt,cellsFrom_some->Jw,lookIn->Km,plainGet_of->Kv,callWith_K->Lb,methodObj->Ls,hasDictIn->Lu,takerIn->Mf,makesIn->Mg,kitOne->Mu,codeIn->Mv,KdlSrc->Mw,nsIn->Oj,methodCall_KW->Ol,isFn->Om,plainOver->Pz,kitx_list->Qa,kitx_dict->Qb,handedIn->Qn
open PySem.Value renaming ref->Aj,none->Bq,int->Dp,isInt_shape->Eb,bool->Gx,type->Jo,isInt->Jv,str->Ms,float->Px,isStrOf->Th,builtin->Ti,bytes->Vb
open Nat renaming le_refl->Ak,ne_of_lt->Ar,le_trans->Ba,lt_of_lt_of_le->Bb,zero_le->Bd,le_add_right->Df,not_lt_zero->Dk,lt_irrefl->Dw,lt_succ_self->Ew,ne_of_gt->Ey,le_of_lt->Ez,lt_succ_of_lt->Fl,le_succ->Ha,zero_add->Ji,lt_trans->Jj,le_max_right->Kf,lt_or_ge->Kx,le_max_left->Ky,lt_trichotomy->Mi,le_of_succ_le->Mj,succ_pos->Mo,mod_lt->Ox,lt_of_succ_lt_succ->Pl,sub_zero->Qd,sub_self->Qe,le_of_eq->Qf,pow_le_pow_right->Qo,lt_of_le_of_lt->Rm,le_succ_of_le->Ry,succ_le_succ->Ss,min_eq_right->Su,min_eq_left->To,le_antisymm->Tp,succ_add->Wa,pow_succ->Wb,min_self->Wc,le_total->Wd
open Bool renaming false_ne_true->Ao,false_eq_true->Cf,and_false->Gs,not_false->Ic,and_eq_true->Ij,false_and->Jl,eq_iff_iff->Kt,not_true->Lx,or_eq_true->Sy,true_and->Ur,false_or->Us,and_true->Ut,and_self->Uu
open Array renaming length_toList->Aq,getElem?_eq_getElem->Aw,getElem?_toList->Bn,forIn_toList->Ek,getD->Fd,getElem?_eq_none->Ke,replicate->Sm,size_map->Sz,isEmpty->Tw,toList->Uv,ext'->Wy
open PySem.PassesOwn renaming never->Au
open PySem.Heap.SameBut renaming update->Bg,trans->Ny,refl->Wj
open PySem.Around renaming under_plainId->Bi,under->Oz
open Option.some renaming inj->Bl
open PyProof.Rows.F renaming plain_set_update_loop->Bw,entry_set_update_loop->Eh
open List.cons renaming inj->By
open PySem.SetTable renaming below->Cd,sizeAbove->Ds,insertAt->He,turns->Kk,fits->Mz,fill->Na,tooFull->Py
open Ne renaming symm->Cg
open PySem.Builtin.Tuple renaming tupleHashOf->Cp,tupleExact->Ge,tupleItemsOf->Lh
open PySem.Builtin.SmallTypes renaming nextOf->Cz,ownedTupleIsFree->Eg,ownedTupleHandOut->Jc
open Or renaming inl->Dc,inr->Dl
open PySem.NameKind renaming free->Dd,cell->Dj
open PySem.Obj renaming mapSeq->Dh,data_mapFields->Di,isFreed_of_fields->Gf,putSet->Hz,cls_mapFields->Ia,data_mapDictKeys->Io,mapFields->Iu,mapDictKeys->Kw,isFreed_of_dict->Qy
open Int renaming toNat_natCast->Dr,emod_lt_of_pos->Hi,emod_nonneg->Jb,natCast_add->Nv,le_refl->Nx,eq_ofNat_of_zero_le->Pk,emod_eq_of_lt->Sg,zero_add->Wh,le_trans->Wi,add_mul->Xc
open PySem.Builtin.Dict_items renaming ownsTuple->Ea,newIterator->Ro,dictOf->Rp
open PySem.Str renaming ofString->Ej
open PyProof.Rows renaming callWith_type1->El,boot_list->Jn,slot_tuple_getitem->Kn,boot_tuple->Lv,lt_int->Nf,boot_sorted->Pd,sortedHeap_old->Pu,args_list_sort->Pw,sortedHeap_at->Qs,listUpdate_at->Qu,boot_all->Qv,Constant_none->Rg,subscriptTail_builtinR->Rk,plain_sorted->Ru,entry_sorted->Rv,args_sorted1->Rx,entry_proto_collect'->So,seqEpoch_at->Te,kind_sorted->Tf,boot_set->Ub,Subscript_->Vc,entry_list_iadd'->Vr,callWith_kw->Vx,callWith_builtin1->Vy,IntsAre->Vz
open PySem.MeetsSeq renaming plain_remove_loop->Er,entry_remove_loop->Kc,size_erased->Ue
open PySem.SetTable.layClean renaming free->Es
open False renaming elim->Fc
open True renaming intro->Fe
open PySem.Builtin.List renaming listExtendWith->Fq,listTooLong->Iq,listSameRef->Lz,listTouch->Wn,listLengthHint->Wo
open PySem.F renaming slot_dict_valueiterator_next->Ft,slot_dict_get->Fx,slot_dict_keyiterator_next->Gd,slot_tuple_iterator_next->Gr,plain_list_iadd->Gz,plain_max_loop->Hc,args_tuple_add_2->Jf,plainAttrs_list->Jp,plainAttrs_dict->Jq,entry_tuple_add->Jr,slot_tuple_add->Jx,entry_dict_get->Jy,slot_zip_next->Ld,plain_proto_collect->Mh,args_dict_valueiterator_next_1->Mp,entry_dict_valueiterator_next->My,slot_list_remove->Nb,slot_dict_values->Nd,args_dict_keyiterator_next_1->Ni,args_dict_get_2->Nq,entry_dict_keyiterator_next->Nz,args_tuple_iterator_next_1->Od,type_dict_get->On,slot_dict_pop->Oo,entry_tuple_iterator_next->Ou,slot_dict_values_iter->Qk,kt_typeCall_dict_1->Rn,args_dict_init_2->Sx,slot_tuple_hash->Ts,plain_list_iadd->Tt,entry_dict_init->Tu,args_zip_next_1->Tv,slot_dict_iter->Um,kt_called_dict->Uo,entry_zip_next->Up,entry_max_loop->Uq,slot_tuple_eq->Vg,slot_set_iter->Vh,plain_set_new->Vi
open PySem.Builtin.Slice renaming slicePlaces->Fz,sliceAdjust->Ii,sliceApplied->Li,slicePartIndex->Vk,sliceFields->Vl
open List.Perm renaming refl->Gg,swap->Ml,append_left->Nt
open PySem.Builtin.Dict renaming updateFrom->Gk,showsAll->Hd,selfAndRest->Ma,takeOut->Wp,readDirectly->Wq,pairItems->Wr,noArgs->Ws,mergeDict->Wt,merge->Wu,keyAndDefault->Wv,dictSlotNone->Ww,addKeywords->Wx
open ForInStep renaming yield->Gw
open Option renaming map_some->Hb,isSome_some->Qc,getD_none->Qx
open Nat.succ renaming inj->Hq
open PySem.Calls renaming callWith_builtin->Hr,call_function_entry->Jh,evalArgs_plain->Kz,Name_function_global->Nk,spliced_cons->Qq,spliced_nil->Rh
open Classical renaming byContradiction->Iv
open PySem.SetTable.probe renaming go->Jd
open PySem.Shared renaming TypeIs->Js,heap->Uc
open PySem.SeqAt renaming EqAt->Kl,RcNeAt->Ud,RcAt->Vv
open PySem.Builtin.Builtins renaming bindParams->Ks
open Sum renaming inr->Lr,inl->Np
open PySem.SeqAt.EqAt renaming same->Lw,str_int->Og,of_refs->Oh,int_str->Oi
open PySem.Walks renaming list->Ly
open Iff renaming rfl->Mm
open PySem.SetTable.below renaming go->Mn
open PySem.Moved renaming trans->Mx
open PySem.Data renaming cell->Nj,fields->Qp,seq->Rf
open PySem.pickOrder renaming go->Nn
open List.Pairwise renaming nil->Nu
open PySem.Paired renaming length->Ob,snoc->Ug
open PySem.Heap.DictOfH renaming new->Ot
open PySem.SeqAt.RcAt renaming tuples->Ov,lists->Pe
open Prod renaming ext->Ow
open Except renaming ok->Oy
open Function renaming comp_def->Pr
open PySem.Code renaming isFrame->Pt,frames->Wm
open PyProof.Rows.IsTup renaming new->Sf
open PySem.Builtin.Frozenset renaming updateFrom->Sh,slot0->Si,sizeOf->Sj,newClass->Sk
open Std.Legacy.Range renaming forIn_eq_forIn_range'->Sr
open Sum.inl renaming inj->Tj
open Prod.mk renaming inj->Tn
open PySem.Heap.IsSliceOf renaming new->Ul
open PySem.W.WShape renaming has->Va
open PySem.W.Looks renaming here->Vd
open PySem.CmpOp renaming NotIn->Vj
open PySem.Builtin.Range renaming rangeSize->Vm
open PySem.SeqAt.RcNeAt renaming tuples->Vt,lists->Vu
open PySem.Within renaming cons->Vw
open List.Sublist renaming refl->Wg
open Eq renaming trans->Wk
open PySem.W.WData renaming int->Xb
open PySem.Heap.IsList renaming push->Xd
open PySem.Heap.DictOf renaming new->Xe
set_option compiler.extract_closed false
set_option bootstrap.genMatcherCode false
set_option genSizeOf false
local macro_rules| `(tactic|trivial)=> `(tactic|first|exact Dc rfl|exact Dl (Dc rfl)|exact Dl (Dl rfl)|exact Dl rfl)
local macro_rules| `(tactic|ac_rfl)=> `(tactic|simp only[Lx,Cf,if_false])
local macro_rules|`(∅)=>`(by lia)
local macro_rules|`(⋯)=>`(by decide)
set_option hygiene false
local macro_rules|`(⇑$x)=>`(Cal P w K mg base CX0 $x)
local macro_rules|`(↥$x)=>`(bI P w K mg base CX0 $x)
local macro_rules|`(~~~$x)=>`(show ($x : List Str).Nodup by decide+kernel)
local macro_rules|`(↑$x)=>`(fun cl C s2 H2 fp=>$x)
local macro_rules|`(#v[0])=>`(s.heap.objs.size)
local macro_rules|`(#v[1])=>`(by decide+kernel)
local macro_rules|`(#v[2])=>`(SetTable.advs t.mask N (t.probeStart (knd.hash k)))
local macro_rules|`(#v[3])=>`(aY X (bV own cap) scope cl C s2 H2 fp)
local macro_rules|`(#v[4])=>`(wpAny (model prog w) A)
local macro_rules|`(#v[5])=>`(Inv X pins σ H s)
local macro_rules|`(#v[6])=>`(wpAny (model X.prog X.w) X.A)
local macro_rules|`(#v[7])=>`(Value->Shared->Prop)
local macro_rules|`(#v[8])=>`({cls:=.type "dict",data:=.dict #[]})
local macro_rules|`(#v[9])=>`(List (Addr×Obj))
local macro_rules|`(#v[10])=>`(.ListComp elt [⟨tg,iter,[ci],0⟩] scope pos)
local macro_rules|`(#v[11])=>`(.ListComp elt [⟨tg,iter,[],0⟩] scope pos)
local macro_rules|`(#v[12])=>`(List (Str×Nat))
local macro_rules|`(#v[13])=>`(List (Tke×Addr×Value))
local macro_rules|`(#v[14])=>`(Option Value)
local macro_rules|`(#v[15])=>`(.ListComp elt [⟨tg,iter,cis,0⟩] scope pos)
set_option Elab.async false
set_option linter.all false
set_option maxRecDepth 100000
namespace L2
variable {E:#v[7]}{Q:#v[7]}{u:Value}{us:List Value}{mg:Str->#v[14]}{kw:List (Str×Value)}{t':Nat}{b:Addr}{pos:Pos}{body:List Stmt}{base:Heap}{mA:Str->#v[14]}{ch:List Addr}{A:Around}{fp:List Addr}{i:Nat}{k:Nat}{tg:Expr}{g':Array GenState}{g:Int->Int->Int}{N ps:List Str}{es:List Expr}
open PySem PySem.Spec PyProof.Rows
abbrev Key:=Sum Int Str
def aC3:Key->Value->Bool
 |.inl k,v=>Jv k v
 |.inr x,v=>Th x v
def aZ7(w:World):Key->Int
 |.inl k=>hashInt k
 |.inr x=>hashStr w x
def dM:∀{k:Key}{v:Value},aC3 k v=true->(∃i t,k=Np i/\v=Dp i t)∨(∃x t,k=Lr x/\v=Ms x t)
 |.inl i,v,h=>by
  obtain⟨t,e⟩:=Eb (k:=i) (v:=v) h;exact .inl ⟨i,t,rfl,e⟩
 |.inr x,v,h=>by
  obtain⟨t,e⟩:=Value.isStrOf_shape (x:=x) (v:=v) h;exact .inr ⟨x,t,rfl,e⟩
def aJn(i:Int)(t:Tok):aC3 (.inl i) (.int i t)=true:=by simp[aC3,Jv]
def aJ7(x:Str)(t:Tok):aC3 (.inr x) (.str x t)=true:=by simp[aC3,Th]
def aVa(a b:Int):decide ((Np a:Key)=Np b)=(a==b):=by
 by_cases e:a=b
 ·subst e;simp
 ·have h:¬(Np a:Key)=Np b:=λq=>e (Tj q);rw[decide_eq_false h];exact(beq_eq_false_iff_ne.mpr e).symm
def aUb(a b:Str):decide ((Lr a:Key)=Lr b)=decide (a=b):=by
 by_cases e:a=b
 ·subst e;simp
 ·have h:¬(Lr a:Key)=Lr b:=λq=>e (Sum.inr.inj q);rw[decide_eq_false h,decide_eq_false e]
def aU1(a:Int)(b:Str):decide ((Np a:Key)=Lr b)=false:=decide_eq_false (λq=>nomatch q)
def aTr(a:Str)(b:Int):decide ((Lr a:Key)=Np b)=false:=decide_eq_false (λq=>nomatch q)
def eV(prog:Program)(w:World):PySem.KeyKind prog w Key where
 is:=aC3
 hash:=aZ7 w
 inj:=λv a b ha hb=>by
  rcases dM ha with ⟨i,t,rfl,rfl⟩|⟨x,t,rfl,rfl⟩
  ·rcases dM hb with ⟨j,u,rfl,e⟩|⟨y,u,rfl,e⟩
   ·injection e with e1 _;rw[e1]
   ·exact nomatch e
  ·rcases dM hb with ⟨j,u,rfl,e⟩|⟨y,u,rfl,e⟩
   ·exact nomatch e
   ·injection e with e1 _;rw[e1]
 byValue:=λk v h=>by
  rcases dM h with ⟨i,t,rfl,rfl⟩|⟨x,t,rfl,rfl⟩<;>rfl
 pyHash:=λhv h=>by
  rcases dM hv with ⟨i,t,rfl,rfl⟩|⟨x,t,rfl,rfl⟩
  ·exact wpAny_pyHash_int h
  ·exact wpAny_pyHash_str h
 eqBool:=λhu hv h=>by
  rcases dM hu with ⟨i,t,rfl,rfl⟩|⟨x,t,rfl,rfl⟩
  ·rcases dM hv with ⟨j,u,rfl,rfl⟩|⟨y,u,rfl,rfl⟩
   ·rw[aVa]at h;exact Oe h
   ·rw[aU1]at h;exact Oi i t y u _ _ _ _ h
  ·rcases dM hv with ⟨j,u,rfl,rfl⟩|⟨y,u,rfl,rfl⟩
   ·rw[aTr]at h;exact Og x t j u _ _ _ _ h
   ·rw[aUb]at h;exact wpAny_eqBool_str h
 «strs»:=λk x t v h=>by
  rcases dM h with ⟨i,u,rfl,e⟩|⟨y,u,rfl,e⟩
  ·exact nomatch e
  ·injection e with e1 _
   subst e1;cases v<;>rfl
def aEy(prog:Program)(w:World)(i:Int)(t:Tok):(eV prog w).is (.inl i) (.int i t)=true:=aJn i t
def aFc(prog:Program)(w:World)(x:Str)(t:Tok):(eV prog w).is (.inr x) (.str x t)=true:=aJ7 x t
inductive V where
 |non|bl (b:Bool)|int (i:Int)|str (x:Str)|byt (b:Array UInt8)|flt (b:UInt64)|ref (a:Addr)|ty (n:String)
 deriving DecidableEq
def RelV:V->Value->Prop
 |.non,u=>u=Bq
 |.bl b,u=>u=Gx b
 |.int i,u=>∃t,u=Dp i t
 |.str x,u=>∃t,u=Ms x t
 |.byt b,u=>∃t,u=Vb b t
 |.flt b,u=>∃t,u=Px b t
 |.ref a,u=>u=Aj a
 |.ty n,u=>u=Jo n
abbrev Vals:List V->List Value->Prop:=Paired RelV
def Vals.length{xs:List V}(r:Vals xs us):xs.length=us.length:=Ob r
def Vals.get:∀{xs:List V}{us:List Value}{i:Nat}{x:V},Vals xs us->xs[i]? =some x->∃u,us[i]? =some u/\RelV x u
 |_,_,_,_,.nil,e=>by simp at e
 |_,_,0,_,.cons r _,e=>by simp at e;subst e;exact⟨_,rfl,r⟩
 |_,_,i+1,x,.cons _ t,e=>by
  obtain⟨u,h1,h2⟩:=Vals.get (i:=i) (x:=x) t (by simpa using e);exact⟨u,by simpa using h1,h2⟩
def Vals.set{x:V}(r:RelV x u):∀{xs:List V}{us:List Value}(i:Nat),Vals xs us->Vals (xs.set i x) (us.set i u)
 |_,_,_,.nil=> .nil
 |_,_,0,.cons _ t=> .cons r t
 |_,_,i+1,.cons q t=> .cons q (Vals.set r i t)
def Vals.append:∀{xs ys:List V}{us ws:List Value},Vals xs us->Vals ys ws->Vals (xs++ys) (us++ws)
 |_,_,_,_,.nil,s=>s
 |_,_,_,_,.cons r t,s=> .cons r (Vals.append t s)
def Vals.take:∀{xs:List V}{us:List Value}(n:Nat),Vals xs us->Vals (xs.take n) (us.take n)
 |_,_,0,_=> .nil
 |_,_,_+1,.nil=> .nil
 |_,_,n+1,.cons r t=> .cons r (Vals.take n t)
def Vals.drop:∀{xs:List V}{us:List Value}(n:Nat),Vals xs us->Vals (xs.drop n) (us.drop n)
 |_,_,0,r=>r
 |_,_,_+1,.nil=> .nil
 |_,_,n+1,.cons _ t=>Vals.drop n t
def uE:Option V->#v[14]->Prop
 |some v,some u=>RelV v u
 |none,none=>True
 |_,_=>False
def KV{κ:Type}:List (κ×V)->List (κ×Value)->Prop:=Paired λ(p:κ×V)(q:κ×Value)=>p.1=q.1/\RelV p.2 q.2
def kV:Key->V
 |.inl i=> .int i
 |.inr x=> .str x
inductive HO where
 |lst (xs:List V)
 |tup (xs:List V)
 |dK (kvs:List (Key×V))|dT (kvs:List (List Key×V))
 |set (S:Int->Bool) (n:Nat)
 |ins (C dx:Addr) (fs:List (Str×V))
 |own (x:Addr)
 |xd (fs:List (Str×V))
 |met (f x:Addr)
 |rng (lo hi:Int)
 |frz (o:Obj) (u:HO)
 |tbl (ps:Array Value)
 |ext (φ:Heap->Prop)
abbrev Hp:=Addr->Option HO
def upd(H:Hp)(a:Addr)(o:HO):Hp:=λb=>if b=a then some o else H b
def aM{H:Hp}{a:Addr}{o:HO}:upd H a o a=some o:=by unfold upd;rw[if_pos rfl]
def aO{H:Hp}{a b:Addr}{o:HO}(h:b≠a):upd H a o b=H b:=by unfold upd;rw[if_neg h]
def aWn{H:Hp}{a b:Addr}{o u:HO}(h:H a=some o)(h':H b=some u)(d:o≠u):a≠b:=by
 intro e;subst e;rw[h]at h';exact d (Bl h')
def aN{H:Hp}{a b:Addr}{o:HO}(h:H a=some o)(h':H b=none):a≠b:=by
 intro e;subst e;rw[h]at h';cases h'
section
variable (P:Program)(w:World)
def bR(H:Hp)(h:Heap)(a:Addr):HO->Prop
 |.lst xs=>xs.length<=sizeLine/\∃(its:List Value)(n:Nat),Vals xs its/\h.get? a=some {cls:=.type "list",data:=.seq its.toArray n}
 |.tup xs=>xs.length<=sizeLine/\∃its:List Value,Vals xs its/\IsTup h a its.toArray
 |.dK kvs=>kvs.length<=sizeLine/\(a==sysModules)=false/\∃vs,KV kvs vs/\h.DictOf (eV P w) a vs
 |.dT kvs=>kvs.length<=sizeLine/\(a==sysModules)=false/\∃xs:List (List Key×Addr×Value),
   Paired (λ(p:List Key×V)(q:List Key×Addr×Value)=>p.1=q.1/\H q.2.1=some (.tup (p.1.map kV))/\RelV p.2 q.2.2) kvs xs/\
   ∃o es ep,h.get? a=some o/\o.ExactDict/\o.data=.dict es ep/\es.toList=xs.map (entryOfKey (tupleKind (eV P w)))/\(xs.map (·.1)).Nodup
 |.set S n=>h.SetOf (intKind P w) a S n
 |.ins C dx fs=>H dx=some (.own a)/\fs.length<=1000/\dx≠a/\h.get? a=some (Fb C dx)/\
   ∃mA,h.Ns1 dx mA/\(∀f,uE (fs.lookup f) (mA f))/\Pf mA (fs.map (·.1))
 |.own _=>∃o,h.get? a=some o
 |.xd fs=>∃mA,h.Ns1 a mA/\∀f,uE (fs.lookup f) (mA f)
 |.rng lo hi=>∃t u v,h.get? a=some {cls:=.type "range",data:=.fields #[.int lo t,.int hi u,.int 1 v]}
 |.frz o u=>h.get? a=some o/\bR H h a u
 |.tbl ps=>h.get? a=some {cls:=.none,data:=.fields ps}
 |.met f x=>h.get? a=some (Ls (.ref f) (.ref x))
 |.ext φ=>φ h/\(∃o,h.get? a=some o)/\∀h1 h2:Heap,φ h1->(∀o,h1.get? a=some o->h2.get? a=some o)->φ h2
def HOk(H:Hp)(h:Heap):Prop:=∀a o,H a=some o->bR P w H h a o
end
variable {P:Program}{w:World}{H H':Hp}{h h':Heap}{a:Addr}{o:HO}
def bR.lt(x:bR P w H h a o):a<h.objs.size:=by
 cases o with
 |lst xs=>obtain⟨_,_,_,_,e⟩:=x;exact Ap e
 |tup xs=>obtain⟨_,_,_,p⟩:=x;exact p.lt
 |dK kvs=>obtain⟨_,_,_,_,o,_,_,e,_⟩:=x;exact Ap e
 |dT kvs=>obtain⟨_,_,_,_,o,_,_,e,_⟩:=x;exact Ap e
 |set S n=>obtain⟨o,_,_,_,e,_⟩:=x;exact Ap e
 |ins C dx fs=>obtain⟨_,_,_,e,_⟩:=x;exact Ap e
 |own y=>obtain⟨_,e⟩:=x;exact Ap e
 |xd fs=>obtain⟨_,⟨_,_,_,e,_⟩,_⟩:=x;exact Ap e
 |rng lo hi=>obtain⟨_,_,_,e⟩:=x;exact Ap e
 |frz ob u=>obtain⟨e,_⟩:=x;exact Ap e
 |tbl ps=>exact Ap (show h.get? a=some _ from x)
 |met f y=>exact Ap (show h.get? a=some _ from x)
 |ext φ=>obtain⟨_,⟨_,e⟩,_⟩:=x;exact Ap e
def Paired.mapP{α β:Type}{F G:α->β->Prop}:∀{l₁:List α}{l₂:List β},Paired F l₁ l₂->(∀a b,F a b->G a b)->Paired G l₁ l₂
 |_,_,.nil,_=> .nil
 |_,_,.cons r t,f=> .cons (f _ _ r) (Paired.mapP t f)
def bR.stay(x:bR P w H h a o)(k:∀b u,(b=a∨H b=some (.own a))->h.get? b=some u->h'.get? b=some u)
  (ho:∀b,H b=some (.own a)->H' b=some (.own a)) (ht:∀b xs,H b=some (.tup xs)->H' b=some (.tup xs)):bR P w H' h' a o:=by
 induction o with
 |lst xs=>obtain⟨z,its,n,r,e⟩:=x;exact⟨z,its,n,r,k _ _ (.inl rfl) e⟩
 |tup xs=>obtain⟨z,its,r,ob,e,c⟩:=x;exact⟨z,its,r,ob,k _ _ (.inl rfl) e,c⟩
 |dK kvs=>obtain⟨z,y,vs,r,ob,es,ep,e,c⟩:=x;exact⟨z,y,vs,r,ob,es,ep,k _ _ (.inl rfl) e,c⟩
 |dT kvs=>
  obtain⟨z,y,xs,r,ob,es,ep,e,c⟩:=x;exact⟨z,y,xs,Paired.mapP r λp q z=>⟨z.1,ht _ _ z.2.1,z.2.2⟩,ob,es,ep,k _ _ (.inl rfl) e,c⟩
 |set S n=>obtain⟨ob,es,ep,t,e,c⟩:=x;exact⟨ob,es,ep,t,k _ _ (.inl rfl) e,c⟩
 |ins C dx fs=>
  obtain⟨d,z,ne,e,mA,⟨od,es,ep,e2,c⟩,r⟩:=x;exact⟨ho _ d,z,ne,k _ _ (.inl rfl) e,mA,⟨od,es,ep,k _ _ (.inr d) e2,c⟩,r⟩
 |own y=>obtain⟨ob,e⟩:=x;exact⟨ob,k _ _ (.inl rfl) e⟩
 |xd fs=>obtain⟨mA,⟨od,es,ep,e,c⟩,r⟩:=x;exact⟨mA,⟨od,es,ep,k _ _ (.inl rfl) e,c⟩,r⟩
 |rng lo hi=>obtain⟨t,u,v,e⟩:=x;exact⟨t,u,v,k _ _ (.inl rfl) e⟩
 |frz ob u ih=>obtain⟨e,q⟩:=x;exact⟨k _ _ (.inl rfl) e,ih q⟩
 |tbl ps=>
  have e:h.get? a=some {cls:=.none,data:=.fields ps}:=x;show h'.get? a=some {cls:=.none,data:=.fields ps};exact k a _ (.inl rfl) e
 |met f y=>
  have e:h.get? a=some (Ls (.ref f) (.ref y)):=x;show h'.get? a=some (Ls (.ref f) (.ref y));exact k a _ (.inl rfl) e
 |ext φ=>obtain⟨p,⟨o,e⟩,st⟩:=x;exact⟨st _ _ p λo q=>k _ _ (.inl rfl) q,⟨o,k _ _ (.inl rfl) e⟩,st⟩
def HOk.lt(x:HOk P w H h)(e:H a=some o):a<h.objs.size:=(x a o e).lt
def HOk.fresh(x:HOk P w H h)(e:h.objs.size<=a):H a=none:=by
 cases q:H a with
 |none=>rfl
 |some u=>exact absurd (Bb (x.lt q) e) (Dw _)
def HOk.kept(x:HOk P w H h)(k:∀b u,h.get? b=some u->h'.get? b=some u):HOk P w H h':=λa o e=>
 (x a o e).stay (λb u _ q=>k b u q) (λ_ q=>q) λ_ _ q=>q
def HOk.laid(x:HOk P w H h)(k:∀b u,h.get? b=some u->h'.get? b=some u)(hp:h.objs.size<=a)(new:bR P w (upd H a o) h' a o):HOk P w (upd H a o) h':=λb u e=>by
 have hn:=x.fresh hp;by_cases hb:b=a
 ·subst hb;rw[aM]at e;cases e;exact new
 ·rw[aO hb]at e;exact(x b u e).stay (λc v _ q=>k c v q) (λc q=>by rw[aO (aN q hn)];exact q) λc xs q=>by rw[aO (aN q hn)];exact q
def Rd(H:Hp)(a:Addr)(u:HO):Prop:=H a=some u∨∃o,H a=some (.frz o u)
def Rd.ok{P:Program}{w:World}{H:Hp}{h:Heap}{a:Addr}{u:HO}(r:Rd H a u)(x:HOk P w H h):bR P w H h a u:=by
 rcases r with r|⟨o,r⟩
 ·exact x a u r
 ·obtain⟨_,q⟩:=x a _ r;exact q
def Mut:Option HO->Prop
 |some (.lst _)=>True
 |some (.dK _)=>True
 |some (.dT _)=>True
 |some (.set _ _)=>True
 |some (.ins _ _ _)=>True
 |some (.ext _)=>True
 |_=>False
variable {x e:Addr}{o':HO}
def HOk.write(ok:HOk P w H h)(mu:Mut (H x))(he:e=x∨H e=some (.own x))(k:∀b u,b≠e->h.get? b=some u->h'.get? b=some u)(heo:∃u,h'.get? e=some u)
  (new:bR P w (upd H x o') h' x o'):HOk P w (upd H x o') h':=λb u q=>by
 have nown:∀c y,H c=some (.own y)->c≠x:=λc y r z=>by subst z;rw[r]at mu;exact mu
 have ntup:∀c xs,H c=some (.tup xs)->c≠x:=λc xs r z=>by subst z;rw[r]at mu;exact mu
 by_cases hb:b=x
 ·subst hb;rw[aM]at q;cases q;exact new
 ·rw[aO hb]at q;by_cases hbe:b=e
  ·have q':H b=some (.own x):=by
    rcases he with z|z
    ·exact absurd (hbe.trans z) hb
    ·rw[hbe];exact z
   rw[q]at q';cases q';obtain⟨v,hv⟩:=heo;exact⟨v,by rw[hbe];exact hv⟩
  ·refine(ok b u q).stay (λc v hc r=>k c v ?_ r) (λc r=>by rw[aO (nown c b r)];exact r) λc xs r=>by rw[aO (ntup c xs r)];exact r
   rcases hc with rfl|hc
   ·exact hbe
   ·rintro rfl;rcases he with z|z
    ·exact nown c b hc z
    ·rw[hc]at z;cases z;exact hb rfl
structure Un(fs ex:List Addr)(H H':Hp)(h h':Heap):Prop where
 keep:∀b o,h.get? b=some o->H b=none->b∉fs->b∉ex->h'.get? b=some o
 slot:∀b o,h.get? b=some o->H b=none->b∈fs->b∉ex->∃sl,h'.get? b=some {o with slots:=sl}
 free:∀b o,h.get? b=some o->H b=none->b∉ex->H' b=none
 there:∀b o,h.get? b=some o->b∉ex->∃o',h'.get? b=some o'
 tups:∀b xs,H b=some (.tup xs)->H' b=some (.tup xs)
 frzs:∀b o u,H b=some (.frz o u)->H' b=some (.frz o u)
 tbls:∀b ps,H b=some (.tbl ps)->∃more,H' b=some (.tbl (ps++more))
section
variable {fs fs' ex ex':List Addr}{H H1 H2:Hp}{h h1 h2 h':Heap}{a x e:Addr}{o:HO}
def Un.any(u:Un fs ex H H1 h h1){ob:Obj}(q:h.get? b=some ob)(n:H b=none)(hx:b∉ex):∃sl,h1.get? b=some {ob with slots:=sl}:=by
 by_cases hb:b∈fs
 ·exact u.slot b ob q n hb hx
 ·exact⟨ob.slots,u.keep b ob q n hb hx⟩
def Un.kept(k:∀b u,h.get? b=some u->h'.get? b=some u):Un fs ex H H h h':=
 ⟨λb ob q _ _ _=>k b ob q,λb ob q _ _ _=>⟨ob.slots,k b ob q⟩,λ_ _ _ n _=>n,λb ob q _=>⟨ob,k b ob q⟩,λ_ _ q=>q,λ_ _ _ q=>q,λ_ ps q=>⟨#[],by rw[q];simp⟩⟩
def Un.refl:Un fs ex H H h h:=Un.kept λ_ _ q=>q
def Un.laid(k:∀b u,h.get? b=some u->h'.get? b=some u)(hp:h.objs.size<=a)(hn:H a=none):Un fs ex H (upd H a o) h h' where
 keep:=λb u q _ _ _=>k b u q
 slot:=λb u q _ _ _=>⟨u.slots,k b u q⟩
 free:=λb u q n _=>by rw[aO (Ar (Bb (Ap q) hp))];exact n
 there:=λb u q _=>⟨u,k b u q⟩
 tups:=λb xs q=>by rw[aO (aN q hn)];exact q
 frzs:=λb u xs q=>by rw[aO (aN q hn)];exact q
 tbls:=λb ps q=>⟨#[],by rw[aO (aN q hn),q];simp⟩
def Un.write(mu:Mut (H x))(he:e=x∨H e=some (.own x))(k:∀b u,b≠e->h.get? b=some u->h'.get? b=some u)(heo:∃u,h'.get? e=some u):Un fs ex H (upd H x o) h h':=by
 have hx:∀b,H b=none->b≠x:=λb n z=>by subst z;rw[n]at mu;exact mu
 have hb:∀b,H b=none->b≠e:=λb n z=>by
  subst z;rcases he with r|r
  ·exact hx b n r
  ·rw[n]at r;cases r
 have hm:∀b u,H b=some u->¬Mut (some u)->b≠x:=λb u q nm z=>by subst z;rw[q]at mu;exact nm mu
 refine⟨λb u q n _ _=>k b u (hb b n) q,λb u q n _ _=>⟨u.slots,k b u (hb b n) q⟩,λb u q n _=>by rw[aO (hx b n)];exact n,λb u q _=>?_,
  λb xs q=>by rw[aO (hm b _ q λz=>z)];exact q,λb u xs q=>by rw[aO (hm b _ q λz=>z)];exact q,λb ps q=>⟨#[],by rw[aO (hm b _ q λz=>z),q];simp⟩⟩
 by_cases hbe:b=e
 ·subst hbe;exact heo
 ·exact⟨u,k b u hbe q⟩
end
def trk(h:Heap)(H:Hp):List Addr:=(Bk h.objs.size).filter λa=>(H a).isSome
def aEf(h:Heap)(H:Hp):Heap:=PySem.W.hideAll h (trk h H)
def aKx(h:Heap)(H:Hp):(aEf h H).objs.size=h.objs.size:=PySem.W.hideAll_size _ _
def aK8{h:Heap}{H:Hp}{o:Obj}(e:h.get? b=some o)(n:H b=none):(aEf h H).get? b=some o:=
 PySem.W.hideAll_get _ e λhm=>by
  have q:(H b).isSome=true:=(List.mem_filter.mp hm).2;rw[n]at q;simp at q
def aP0{h:Heap}{H:Hp}{o:Obj}(e:(aEf h H).get? b=some o):h.get? b=some o/\H b=none:=by
 have e':h.get? b=some o:=PySem.W.of_hideAll (trk h H) e;refine⟨e',?_⟩;cases q:H b with
 |none=>rfl
 |some x=>
  have hm:b∈trk h H:=List.mem_filter.mpr ⟨List.mem_range.mpr (Ap e'),by simp[q]⟩;have z:(aEf h H).get? b=none:=PySem.W.hideAll_none (trk h H) hm;rw[z]at e;cases e
structure Mod(K:Ae)(mg:Str->#v[14])(base:Heap):Prop where
 kin:K.In base
 glob:base.Ns mainGlobals mg
 blt:∃mb,base.Ns builtinsNs mb/\∀x:Str,x≠"__name__"->mb x=bootBuiltins x
 nolimit:base.NoLimit
structure Cx where
 prog:Program
 w:World
 K:Ae
 mg:Str->#v[14]
 base:Heap
 A:Around
 N:List Str
 s₀:Shared
 H₀:Hp
 env:Env
 outer:List Env
 stack:List Env
 ex:List Addr
 fn:Str->Bool
 calm:Bool
 pn:#v[9]
 xe:#v[7]
def frs(l:List Env):List Addr:=l.filterMap (·.frame)
abbrev Cx.fs(X:Cx):List Addr:=frs X.outer
def Vis(sc:Scope)(x:Str):Prop:=sc.names.lookup x=some .local∨sc.names.lookup x=some .cell∨sc.names.lookup x=some .free
def Loc(sc:Scope)(x:Str):Prop:=sc.names.lookup x=some .local∨sc.names.lookup x=some .cell
def Look(env:Env)(h:Heap)(m:Str->#v[14])(x:Str)(u:Value):Prop:=
 (env.kindOf x=some .local/\m x=some u)∨((env.kindOf x=some .cell∨env.kindOf x=some .free)/\∃c,env.cells.lookup x=some c/\h.IsCell c (some u))
structure Cx.Ok(X:Cx):Prop where
 mod:Mod X.K X.mg X.base
 kind:X.env.scope.kind=.function
 glob:X.env.globals=mainGlobals
 blt:X.env.builtins=builtinsNs
 above:X.s₀.heap.objs.size<=X.env.locals
 inj:∀x y c,X.env.cells.lookup x=some c->X.env.cells.lookup y=some c->x=y
 has:∀x,(X.env.kindOf x=some .cell∨X.env.kindOf x=some .free)->∃c,X.env.cells.lookup x=some c
 cab:∀x c,X.fn x=true->X.env.cells.lookup x=some c->X.s₀.heap.objs.size<=c
 hd:X.calm=true->X.A.handled=none
 frames:X.A.frames=some X.stack
 stk:X.stack=X.outer∨(X.stack=X.env::X.outer/\X.env.frame=some X.env.locals)
 exf:∀b∈X.ex,b≠X.env.locals/\∀x c,X.env.cells.lookup x=some c->c≠b
 bs:∀b o,X.base.get? b=some o->X.s₀.heap.get? b=some o/\X.H₀ b=none
 bsz:X.base.objs.size<=X.s₀.heap.objs.size
 noex:∀b o,X.base.get? b=some o->b∉X.ex
 exfs:∀b∈X.ex,b∉X.fs
 funs:X.s₀.heap.FunFrames X.base X.outer
 frf:∀b∈X.fs,X.H₀ b=none
structure Inv(X:Cx)(pins:#v[9])(σ:List (Option V))(H:Hp)(s:Shared):Prop where
 ok:X.Ok
 os:s.os=X.s₀.os
 bare:AllBare s.gens
 base:Un X.fs X.ex X.H₀ H X.s₀.heap s.heap
 loc:∃m,s.heap.Ns X.env.locals m/\∀(i:Nat)(x:Str)(v:V),X.N[i]? =some x->σ[i]? =some (some v)->Vis X.env.scope x->∃u,RelV v u/\Look X.env s.heap m x u
 cell:∀x c,X.env.cells.lookup x=some c->∃v,s.heap.IsCell c v
 free:H X.env.locals=none
 freeC:∀x c,X.env.cells.lookup x=some c->H c=none
 pin:∀p∈X.pn++pins,s.heap.get? p.1=some p.2/\H p.1=none/\p.1≠X.env.locals/\p.1∉X.fs/\∀v,p.2.data≠.cell v
 hok:HOk X.prog X.w H s.heap
 len:σ.length=X.N.length
variable {X:Cx}{pins:#v[9]}{σ:List (Option V)}{s:Shared}
def Cx.Ok.nofr(ok:X.Ok){o:Obj}(e:X.base.get? b=some o):b∉X.fs:=λhb=>by
 have:=(ok.funs.mem hb).1;rw[e]at this;cases this
def Inv.bs(I:#v[5]):∀b o,X.base.get? b=some o->s.heap.get? b=some o/\H b=none:=λb o e=>
 ⟨I.base.keep b o (I.ok.bs b o e).1 (I.ok.bs b o e).2 (I.ok.nofr e) (I.ok.noex b o e),I.base.free b o (I.ok.bs b o e).1 (I.ok.bs b o e).2 (I.ok.noex b o e)⟩
def Inv.bk(I:#v[5]):∀b o,X.base.get? b=some o->s.heap.get? b=some o:=λb o e=>(I.bs b o e).1
def Inv.mod(I:#v[5]):Mod X.K X.mg X.base:=I.ok.mod
def Inv.kIn(I:#v[5]):X.K.In s.heap:=I.ok.mod.kin.keeps I.bk
def Inv.lt(I:#v[5]):X.env.locals<#v[0]:=let⟨_,hn,_⟩:=I.loc;hn.lt
def Inv.sz(I:#v[5]):X.s₀.heap.objs.size<=#v[0]:=Ba I.ok.above (Ez I.lt)
def Inv.nofs(I:#v[5]){a:Addr}(h:#v[0]<=a):a∉X.fs:=λhb=>by
 obtain⟨_,o,ho,_⟩:=I.ok.funs.mem hb;exact absurd (Bb (Ap ho) (Ba I.sz h)) (Dw _)
def Inv.cne(I:#v[5]):∀x c,X.env.cells.lookup x=some c->c≠X.env.locals:=λx c e z=>by
 obtain⟨v,o,ho,hd⟩:=I.cell x c e;obtain⟨m,⟨o',es,ep,ho',hd',_⟩,_⟩:=I.loc;rw[z,ho']at ho;cases ho;rw[hd']at hd;cases hd
def Inv.funs(I:#v[5]):s.heap.FunFrames X.base X.outer:=by
 have all:∀(l:List Env),(∀b∈frs l,b∈X.fs)->X.s₀.heap.FunFrames X.base l->s.heap.FunFrames X.base l:=by
  intro l;induction l with
  |nil=>intro _ _;trivial
  |cons env r ih=>
   intro hs hl;obtain⟨hk,⟨L,o,hf,hn,ho,hd⟩,hr⟩:=hl;have hL:L∈X.fs:=hs L (by unfold frs;rw[Gy,hf];exact Ah);obtain⟨sl,e⟩:=I.base.slot L o ho (I.ok.frf L hL) hL λz=>I.ok.exfs L z hL;exact⟨hk,⟨L,_,hf,hn,e,hd⟩,ih (λb hb=>hs b (by unfold frs;rw[Gy,hf];exact Af _ hb)) hr⟩
 exact all X.outer (λ_ hb=>hb) I.ok.funs
def Inv.stack(I:#v[5]):s.heap.FunFrames X.base X.stack:=by
 rcases I.ok.stk with e|⟨e,hf⟩
 ·rw[e];exact I.funs
 ·rw[e];obtain⟨m,hn,_⟩:=I.loc;refine .cons (by rw[I.ok.kind];decide) hf hn ?_ I.funs;exact La (Ba I.ok.bsz I.ok.above)
def Inv.stkSub(I:#v[5]):∀b∈frs X.stack,b∈X.env.locals::X.fs:=λb hb=>by
 rcases I.ok.stk with e|⟨e,hf⟩
 ·rw[e]at hb;exact Af _ hb
 ·rw[e]at hb;unfold frs at hb;rw[Gy,hf]at hb;exact hb
def Inv.stkFree(I:#v[5]):∀b∈frs X.stack,H b=none:=λb hb=>by
 rcases List.mem_cons.mp (I.stkSub b hb)with e|hb
 ·rw[e];exact I.free
 ·obtain⟨_,o,ho,_⟩:=I.ok.funs.mem hb;exact I.base.free b o ho (I.ok.frf b hb) λz=>I.ok.exfs b z hb
def Inv.step{d':Drawn}(I:#v[5])
  (hch:∀b∈ch,(b∈X.ex∨X.s₀.heap.objs.size<=b)/\b≠X.env.locals/\(∀x c,X.env.cells.lookup x=some c->c≠b)/\∀p∈X.pn++pins,p.1≠b)
  (keep:∀b o,b≠X.env.locals->b∉X.fs->b∉ch->s.heap.get? b=some o->H b=none->h'.get? b=some o)
  (slot:∀b o,b≠X.env.locals->b∈X.fs->b∉ch->s.heap.get? b=some o->H b=none->∃sl,h'.get? b=some {o with slots:=sl}) (free:∀b o,b∉ch->s.heap.get? b=some o->H b=none->H' b=none)
  (there:∀b o,b∉ch->s.heap.get? b=some o->∃o',h'.get? b=some o')
  (tups:∀b xs,H b=some (.tup xs)->H' b=some (.tup xs)) (frzs:∀b o u,H b=some (.frz o u)->H' b=some (.frz o u)) (tbls:∀b ps,H b=some (.tbl ps)->∃more,H' b=some (.tbl (ps++more)))
  (ns:∀m,s.heap.Ns X.env.locals m->h'.Ns X.env.locals m) (hok:HOk X.prog X.w H' h') (hg:AllBare g'):
  Inv X pins σ H' {s with heap:=h',gens:=g',drawn:=d',toks:=t'}:=by
 have neL:∀b o,X.s₀.heap.get? b=some o->b≠X.env.locals:=λb o e=>Ar (Bb (Ap e) I.ok.above);have neC:∀b o,X.s₀.heap.get? b=some o->b∉X.ex->b∉ch:=λb o e hx hb=>by
  rcases (hch b hb).1 with z|z
  ·exact hx z
  ·exact absurd (Bb (Ap e) z) (Dw _)
 have cellK:∀x c,X.env.cells.lookup x=some c->∀v,s.heap.IsCell c v->h'.IsCell c v:=λx c e v ⟨o,ho,hd⟩=>by
  have nch:c∉ch:=λz=>(hch c z).2.2.1 x c e rfl;by_cases hc:c∈X.fs
  ·obtain⟨sl,q⟩:=slot c o (I.cne x c e) hc nch ho (I.freeC x c e);exact⟨_,q,hd⟩
  ·exact⟨o,keep c o (I.cne x c e) hc nch ho (I.freeC x c e),hd⟩
 refine⟨I.ok,I.os,hg,⟨λb o e n hb hx=>?_,λb o e n hb hx=>?_,λb o e n hx=>?_,λb o e hx=>?_,λb xs e=>tups b xs (I.base.tups b xs e),λb o xs e=>frzs b o xs (I.base.frzs b o xs e),λb ps e=>?_⟩,?_,λx c e=>?_,?_,λx c e=>?_,λp hp=>?_,hok,I.len⟩
 ·exact keep b o (neL b o e) hb (neC b o e hx) (I.base.keep b o e n hb hx) (I.base.free b o e n hx)
 ·obtain⟨sl,e1⟩:=I.base.slot b o e n hb hx;obtain⟨sl',e2⟩:=slot b _ (neL b o e) hb (neC b o e hx) e1 (I.base.free b o e n hx);exact⟨sl',e2⟩
 ·obtain⟨o',e1⟩:=I.base.there b o e hx;exact free b o' (neC b o e hx) e1 (I.base.free b o e n hx)
 ·obtain⟨o',e1⟩:=I.base.there b o e hx;exact there b o' (neC b o e hx) e1
 ·obtain⟨m1,e1⟩:=I.base.tbls b ps e;obtain⟨m2,e2⟩:=tbls b _ e1;exact⟨m1++m2,by rw[e2,Array.append_assoc]⟩
 ·obtain⟨m,hn,hl⟩:=I.loc;refine⟨m,ns m hn,λi x v e1 e2 e3=>?_⟩;obtain⟨u,r,l⟩:=hl i x v e1 e2 e3;refine⟨u,r,?_⟩;rcases l with l|⟨k,c,e,z⟩
  ·exact .inl l
  ·exact .inr ⟨k,c,e,cellK x c e _ z⟩
 ·obtain⟨v,z⟩:=I.cell x c e;exact⟨v,cellK x c e v z⟩
 ·obtain⟨m,⟨o,_,_,ho,_⟩,_⟩:=I.loc;exact free _ o (λz=>(hch _ z).2.1 rfl) ho I.free
 ·obtain⟨v,o,ho,hd⟩:=I.cell x c e;exact free c o (λz=>(hch c z).2.2.1 x c e rfl) ho (I.freeC x c e)
 ·obtain⟨e,n,ne,nf,d⟩:=I.pin p hp;have nch:p.1∉ch:=λz=>(hch p.1 z).2.2.2 p hp rfl;exact⟨keep p.1 p.2 ne nf nch e n,free p.1 p.2 nch e n,ne,nf,d⟩
def Inv.un(I:#v[5])(u:Un X.fs [] H H' s.heap h')(hok:HOk X.prog X.w H' h'):Inv X pins σ H' {s with heap:=h',toks:=t'}:=by
 obtain⟨m,⟨o,es,ep,ho,r⟩,_⟩:=id I.loc;obtain⟨sl,hL⟩:=u.any ho I.free (by simp);exact I.step (g':=s.gens) (d':=s.drawn) (ch:=[]) (λ_ z=>nomatch z) (λb o _ hb _ e n=>u.keep b o e n hb (by simp)) (λb o _ hb _ e n=>u.slot b o e n hb (by simp)) (λb o _ e n=>u.free b o e n (by simp)) (λb o _ e=>u.there b o e (by simp)) u.tups u.frzs u.tbls (λm' hm=>by
  obtain⟨o',es',ep',ho',r'⟩:=hm;rw[ho]at ho';cases ho';exact⟨_,es',ep',hL,r'⟩) hok I.bare
def Inv.call{d':Drawn}(I:#v[5])(u:Un (frs X.stack) ch H H' s.heap h')(hok:HOk X.prog X.w H' h')(hg:AllBare g')
  (hch:∀b∈ch,(b∈X.ex∨X.s₀.heap.objs.size<=b)/\b≠X.env.locals/\(∀x c,X.env.cells.lookup x=some c->c≠b)/\∀p∈X.pn++pins,p.1≠b):
  Inv X pins σ H' {s with heap:=h',gens:=g',drawn:=d',toks:=t'}:=by
 obtain⟨m,⟨o,es,ep,ho,r⟩,_⟩:=id I.loc;obtain⟨sl,hL⟩:=u.any ho I.free λz=>(hch _ z).2.1 rfl;exact I.step (ch:=ch) hch (λb o hL hb hc e n=>u.keep b o e n (λz=>(List.mem_cons.mp (I.stkSub b z)).elim hL hb) hc) (λb o _ _ hc e n=>u.any e n hc) (λb o hc e n=>u.free b o e n hc) (λb o hc e=>u.there b o e hc) u.tups u.frzs u.tbls (λm' hm=>by
  obtain⟨o',es',ep',ho',r'⟩:=hm;rw[ho]at ho';cases ho';exact⟨_,es',ep',hL,r'⟩) hok hg
def Inv.turned{it:Addr}(I:#v[5])(k:∀b o,b≠it->s.heap.get? b=some o->h'.get? b=some o)(hn:H it=none)(hL:it≠X.env.locals)
  (h1:it∈X.ex∨X.s₀.heap.objs.size<=it) (h2:∀x c,X.env.cells.lookup x=some c->c≠it) (h3:∀p∈X.pn++pins,p.1≠it):Inv X pins σ H {s with heap:=h',toks:=t'}:=by
 have nit:∀b u,H b=some u->b≠it:=λb u e z=>by rw[z,hn]at e;cases e
 refine I.step (g':=s.gens) (d':=s.drawn) (ch:=[it]) (λb hb=>?_) (λb o _ _ hc e _=>k b o (λz=>hc (by simp[z])) e) (λb o _ _ hc e _=>⟨o.slots,k b o (λz=>hc (by simp[z])) e⟩) (λ_ _ _ _ n=>n)
  (λb o hc e=>⟨o,k b o (λz=>hc (by simp[z])) e⟩) (λ_ _ e=>e) (λ_ _ _ e=>e) (λb ps e=>⟨#[],by rw[e];simp⟩) (λm hm=>?_) (λb u e=>?_) I.bare
 ·have e:b=it:=by simpa using hb
  subst e;exact⟨h1,hL,h2,h3⟩
 ·obtain⟨o,es,ep,ho,r⟩:=hm;exact⟨o,es,ep,k _ o (Cg hL) ho,r⟩
 ·refine(I.hok b u e).stay (λc v hc q=>k c v ?_ q) (λ_ q=>q) λ_ _ q=>q;rcases hc with z|z
  ·rw[z];exact nit b u e
  ·exact nit c _ z
def Inv.tok(I:#v[5])(t:Nat):Inv X pins σ H {s with toks:=t}:=I.un (h':=s.heap) (t':=t) Un.refl I.hok
def Inv.kept(I:#v[5])(k:∀b u,s.heap.get? b=some u->h'.get? b=some u):Inv X pins σ H {s with heap:=h',toks:=t'}:=I.un (Un.kept k) (I.hok.kept k)
def Inv.laid{a:Addr}{o:HO}(I:#v[5])(k:∀b u,s.heap.get? b=some u->h'.get? b=some u)(hp:#v[0]<=a)(new:bR X.prog X.w (upd H a o) h' a o):
  Inv X pins σ (upd H a o) {s with heap:=h',toks:=t'}:=I.un (Un.laid k hp (I.hok.fresh hp)) (I.hok.laid k hp new)
def Inv.write{x e:Addr}{o:HO}(I:#v[5])(mu:Mut (H x))(he:e=x∨H e=some (.own x))(k:∀b u,b≠e->s.heap.get? b=some u->h'.get? b=some u)(heo:∃u,h'.get? e=some u)
  (new:bR X.prog X.w (upd H x o) h' x o):Inv X pins σ (upd H x o) {s with heap:=h',toks:=t'}:=I.un (Un.write mu he k heo) (I.hok.write mu he k heo new)
def Inv.pins_of{pins':#v[9]}(I:#v[5])(h:∀p∈pins',s.heap.get? p.1=some p.2/\H p.1=none/\p.1≠X.env.locals/\p.1∉X.fs/\∀v,p.2.data≠.cell v):Inv X pins' σ H s:=
 ⟨I.ok,I.os,I.bare,I.base,I.loc,I.cell,I.free,I.freeC,λp hp=>(List.mem_append.mp hp).elim (λz=>I.pin p (Il _ z)) (h p),I.hok,I.len⟩
def aEo{N:List Str}(hN:N.Nodup){i j:Nat}{x:Str}(a:N[i]? =some x)(b:N[j]? =some x):i=j:=by
 obtain⟨h1,e1⟩:=List.getElem?_eq_some_iff.mp a;obtain⟨h2,e2⟩:=List.getElem?_eq_some_iff.mp b;exact(Kd hN).mp (e1.trans e2.symm)
abbrev ND(x:Str):Prop:=(x==("__debug__":Str))=false
abbrev BT(X:Cx)(pos:Pos)(es:List Expr):Prop:=(backTo pos (starEach es X.env)).any (·.1)=false
abbrev FL(X:Cx)(x:Str):Prop:=X.fn x=true∨X.env.scope.names.lookup x=some .local
abbrev NC(x:Str):Prop:=(x==("__classdict__":Str))=false
abbrev SE(X:Cx)(e:Expr)(es:List Expr):Prop:=starEach (e::es) X.env=(false,eval e X.env)::starEach es X.env
abbrev FS(X:Cx)(e:Expr):Prop:=∀x,foldedSetIterable e X.env x=pure x
abbrev HC(X:Cx):Prop:=∀x,X.env.scope.names.lookup x=some .cell->∃c,X.env.cells.lookup x=some c
abbrev EL(a b:Pos):Prop:=(a.endLine==b.line)=true
def tR{M:Model}{x:Str}{v:V}{Q:Unit->Shared->Prop}(I:#v[5])(hN:X.N.Nodup)(hi:X.N[i]? =some x)(hx:Loc X.env.scope x)(r:RelV v u)
  (h:∀s',Inv X pins (σ.set i (some v)) H s'->(∃a,Cw a s.heap s'.heap/\(a=X.env.locals∨X.env.cells.lookup x=some a))->Q () s') (hf:FL X x:=by trivial):wpAny M A (storeName X.env x u) Q E s:=by
 obtain⟨m,hn,hl⟩:=id I.loc;have hcls:(X.env.scope.kind== .class || (X.env.scope.kind== .module && X.env.locals != X.env.globals))=false:=by rw[I.ok.kind];rfl
 have hiσ:i<σ.length:=by rw[I.len];exact(List.getElem?_eq_some_iff.mp hi).1
 have cne:=I.cne;have tracked:∀{a:Addr}{h':Heap},(∃o,s.heap.get? a=some o/\H a=none)->Cw a s.heap h'->HOk X.prog X.w H h':=λ{a h'} ha hs b ob e=>by
  obtain⟨_,_,hfree⟩:=ha;refine(I.hok b ob e).stay (λc w' hc q=>(hs.2 c ?_).trans q) (λ_ q=>q) λ_ _ q=>q;rintro rfl;rcases hc with rfl|hc
  ·rw[hfree]at e;cases e
  ·rw[hfree]at hc;cases hc
 rcases hx with hk|hk
 ·refine wpAny_storeName_local hk hn (λh' hn' hs=>?_) hcls;obtain⟨oL,_,_,hoL,_⟩:=id hn;refine h _ ⟨I.ok,I.os,I.bare,⟨λb o e n hb hx=>?_,λb o e n hb hx=>?_,I.base.free,λb o e hx=>?_,I.base.tups,I.base.frzs,I.base.tbls⟩,⟨_,hn',λj y v' e1 e2 e3=>?_⟩,λy c e=>?_,I.free,I.freeC,λp hp=>?_,tracked ⟨oL,hoL,I.free⟩ hs,by simpa using I.len⟩ ⟨_,hs,.inl rfl⟩
  ·exact(hs.2 b (Ar (Bb (Ap e) I.ok.above))).trans (I.base.keep b o e n hb hx)
  ·obtain⟨sl,e1⟩:=I.base.slot b o e n hb hx;exact⟨sl,(hs.2 b (Ar (Bb (Ap e) I.ok.above))).trans e1⟩
  ·obtain⟨o',e1⟩:=I.base.there b o e hx;exact⟨o',(hs.2 b (Ar (Bb (Ap e) I.ok.above))).trans e1⟩
  ·by_cases hj:j=i
   ·subst hj;rw[hi]at e1;cases e1;rw[Ph hiσ]at e2;cases e2;exact⟨u,r,.inl ⟨hk,by simp⟩⟩
   ·rw[Qj (Cg hj)]at e2;obtain⟨u',r',q⟩:=hl j y v' e1 e2 e3;refine⟨u',r',?_⟩;rcases q with ⟨k,e⟩|⟨k,c,e,z⟩
    ·refine .inl ⟨k,?_⟩;have:y≠x:=λe=>hj (aEo hN e1 (e▸hi));simp[this,e]
    ·exact .inr ⟨k,c,e,z.sameBut hs (cne y c e)⟩
  ·obtain⟨w',z⟩:=I.cell y c e;exact⟨w',z.sameBut hs (cne y c e)⟩
  ·obtain⟨e,n,ne,nf,d⟩:=I.pin p hp;exact⟨(hs.2 p.1 ne).trans e,n,ne,nf,d⟩
 ·have hfn:X.fn x=true:=by
   rcases hf with z|z
   ·exact z
   ·rw[z]at hk;cases hk
  obtain⟨c,hc⟩:=I.ok.has x (.inl hk);obtain⟨w',z⟩:=I.cell x c hc;refine wpAny_storeName_cell I.ok.kind hk hc z (λh' hc' hs=>?_);obtain⟨oc,hoc,hocd⟩:=id z;refine h {s with heap:=h'} ⟨I.ok,I.os,I.bare,⟨λb o e n hb hx=>?_,λb o e n hb hx=>?_,I.base.free,λb o e hx=>?_,I.base.tups,I.base.frzs,I.base.tbls⟩,⟨m,hn.sameBut hs (Cg (cne x c hc)),λj y v' e1 e2 e3=>?_⟩,λy c' e=>?_,I.free,I.freeC,λp hp=>?_,tracked ⟨oc,hoc,I.freeC x c hc⟩ hs,by simpa using I.len⟩ ⟨c,hs,.inr hc⟩
  ·exact(hs.2 b (Ar (Bb (Ap e) (I.ok.cab x c hfn hc)))).trans (I.base.keep b o e n hb hx)
  ·obtain⟨sl,e1⟩:=I.base.slot b o e n hb hx;exact⟨sl,(hs.2 b (Ar (Bb (Ap e) (I.ok.cab x c hfn hc)))).trans e1⟩
  ·obtain⟨o',e1⟩:=I.base.there b o e hx;exact⟨o',(hs.2 b (Ar (Bb (Ap e) (I.ok.cab x c hfn hc)))).trans e1⟩
  ·by_cases hj:j=i
   ·subst hj;rw[hi]at e1;cases e1;rw[Ph hiσ]at e2;cases e2;exact⟨u,r,.inr ⟨.inl hk,c,hc,hc'⟩⟩
   ·rw[Qj (Cg hj)]at e2;obtain⟨u',r',q⟩:=hl j y v' e1 e2 e3;refine⟨u',r',?_⟩;rcases q with q|⟨k,c',e,z'⟩
    ·exact .inl q
    ·refine .inr ⟨k,c',e,z'.sameBut hs ?_⟩;rintro rfl;exact hj (aEo hN e1 (I.ok.inj _ _ _ e hc▸hi))
  ·by_cases hcc:c'=c
   ·subst hcc;exact⟨_,hc'⟩
   ·obtain⟨w2,z2⟩:=I.cell y c' e;exact⟨w2,z2.sameBut hs hcc⟩
  ·obtain⟨e,n,ne,nf,d⟩:=I.pin p hp;refine⟨(hs.2 p.1 ?_).trans e,n,ne,nf,d⟩;intro q;rw[q,hoc]at e;have q':oc=p.2:=Bl e;exact d w' (by rw[<-q'];exact hocd)
def aE1{M:Model}{x:Str}{v:V}{Q:Unit->Shared->Prop}(I:#v[5])(hN:X.N.Nodup)(hi:X.N[i]? =some x)(hx:Loc X.env.scope x)(r:RelV v u)
  (h:∀s',Inv X pins (σ.set i (some v)) H s'->Q () s') (hf:FL X x:=by trivial):wpAny M A (storeName X.env x u) Q E s:=
 tR I hN hi hx r (λs' I' _=>h s' I') hf
def Inv.call'{s':Shared}(I:#v[5])(ho:s'.os=s.os)(u:Un (frs X.stack) ch H H' s.heap s'.heap)(hok:HOk X.prog X.w H' s'.heap)(hg:AllBare s'.gens)
  (hch:∀b∈ch,(b∈X.ex∨X.s₀.heap.objs.size<=b)/\b≠X.env.locals/\(∀x c,X.env.cells.lookup x=some c->c≠b)/\∀p∈X.pn++pins,p.1≠b):Inv X pins σ H' s':=by
 obtain⟨h',g',d',t',o'⟩:=s';have e:o'=s.os:=ho;subst e;exact I.call (g':=g') (t':=t') (d':=d') u hok hg hch
abbrev XK:=Value->Option Addr->Hp->Prop
abbrev St:=List (Option V)
abbrev VK:=V->Hp->Prop
abbrev TE:=St->Hp->VK->Prop
abbrev TT:=St->Hp->(Bool->Hp->Prop)->Prop
abbrev TA:=St->Hp->(List V->Hp->Prop)->Prop
structure Ends where
 nx:St->Hp->Prop
 rt:VK
 bk:St->Hp->Prop:=λ_ _=>False
 ct:St->Hp->Prop:=λ_ _=>False
abbrev TS:=Ends->St->Hp->Prop
inductive IEP(X:Cx)(pins:#v[9])(σ:St)(Q:VK)(u:Value)(s':Shared):Prop
 |mk (v H':_) (q0_:Inv X pins σ H' s') (q1_:RelV v u) (q2_:Q v H'):IEP X pins σ Q u s'
def EP(X:Cx)(pins:#v[9])(σ:St)(Q:VK)(u:Value)(s':Shared):Prop:=IEP X pins σ Q u s'
def TP(X:Cx)(pins:#v[9])(σ:St)(Q:Bool->Hp->Prop)(b:Bool)(s':Shared):Prop:=∃H',Inv X pins σ H' s'/\Q b H'
inductive IAP(X:Cx)(pins:#v[9])(σ:St)(Q:List V->Hp->Prop)(us:List Value)(s':Shared):Prop
 |mk (vs H':_) (q0_:Inv X pins σ H' s') (q1_:Vals vs us) (q2_:Q vs H'):IAP X pins σ Q us s'
def AP(X:Cx)(pins:#v[9])(σ:St)(Q:List V->Hp->Prop)(us:List Value)(s':Shared):Prop:=IAP X pins σ Q us s'
def SP(X:Cx)(pins:#v[9])(D:Ends)(f:Flow)(s':Shared):Prop:=
 match f with
 |.next=>∃σ' H',Inv X pins σ' H' s'/\D.nx σ' H'
 |.brk=>∃σ' H',Inv X pins σ' H' s'/\D.bk σ' H'
 |.cont=>∃σ' H',Inv X pins σ' H' s'/\D.ct σ' H'
 |.ret u=>∃v σ' H',Inv X pins σ' H' s'/\RelV v u/\D.rt v H'
def PE(X:Cx)(e:Expr)(t:TE):Prop:=
 ∀(pins:#v[9])(s:Shared)(σ:St)(H:Hp)(Q:VK),#v[5]->t σ H Q->#v[6] (eval e X.env) (EP X pins σ Q) X.xe s
def PT(X:Cx)(e:Expr)(t:TT):Prop:=
 ∀(pins:#v[9])(s:Shared)(σ:St)(H:Hp)(Q:Bool->Hp->Prop),#v[5]->t σ H Q->#v[6] (isTrue e X.env (eval e X.env)) (TP X pins σ Q) X.xe s
def PW(X:Cx)(e:Expr)(t:TT):Prop:=
 ∀(whole:Sem Value)(pins:#v[9])(s:Shared)(σ:St)(H:Hp)(Q:Bool->Hp->Prop),#v[5]->t σ H Q->#v[6] (isTrue e X.env whole) (TP X pins σ Q) X.xe s
def PW.pt{X:Cx}{e:Expr}{t:TT}(h:PW X e t):PT X e t:=h _
def PA(X:Cx)(es:List Expr)(t:TA):Prop:=
 ∀(pos:Pos)(pins:#v[9])(s:Shared)(σ:St)(H:Hp)(Q:List V->Hp->Prop),#v[5]->t σ H Q->#v[6] (spliced (backTo pos (starEach es X.env))) (AP X pins σ Q) X.xe s
def PS(X:Cx)(st:Stmt)(t:TS):Prop:=
 ∀(pins:#v[9])(s:Shared)(σ:St)(H:Hp)(D:Ends),#v[5]->t D σ H->#v[6] (exec st X.env) (SP X pins D) X.xe s
def PSs(X:Cx)(st:List Stmt)(t:TS):Prop:=
 ∀(pins:#v[9])(s:Shared)(σ:St)(H:Hp)(D:Ends),#v[5]->t D σ H->#v[6] (execs st X.env) (SP X pins D) X.xe s
def thn{α:Type}{t:Sem α}{Q Q':α->Shared->Prop}{M:Model}{s:Shared}(h:wpAny M A t Q E s)(hQ:∀a s,Q a s->Q' a s):wpAny M A t Q' E s:=Dn h hQ λ_ _ x=>x
section
variable {X:Cx}
inductive aSz(i:Nat)(σ:St)(H:Hp)(Q:VK):Prop
 |mk (v:_) (q0_:σ[i]? =some (some v)) (q1_:Q v H):aSz i σ H Q
def aXw(i:Nat):TE:=λσ H Q=>aSz i σ H Q
def tC(v:V):TE:=λ_ H Q=>Q v H
def pR{x:Str}(hN:X.N[i]? =some x)(hv:Vis X.env.scope x)(hd:ND x:=by decide)(hcd:NC x:=by decide):PE X (.Name x pos) (aXw i):=by
 intro pins s σ H Q I h;obtain⟨v,e,h⟩:=h;obtain⟨m,hn,hl⟩:=I.loc;obtain⟨u,r,l⟩:=hl i x v hN e hv;have fin:EP X pins σ Q u s:=⟨v,H,I,r,h⟩;rcases l with ⟨hk,hm⟩|⟨hk,c,hc,hcell⟩
 ·exact Ux (wpAny_loadName_local I.ok.kind hk hn hm fin) hd
 ·rcases hk with hk|hk
  ·exact Ux (wpAny_loadName_cell I.ok.kind hk hc hcell fin) hd
  ·exact Ux (wpAny_loadName_free I.ok.kind hk hc hcell fin hcd) hd
def dH{i j pos}:PE X (.Constant (.int i) j pos) (tC (.int i)):=λ_ _ _ H _ I h=>wpAny_Constant_int ⟨.int i,H,I.tok _,⟨_,rfl⟩,h⟩
def aX1{b j pos}:PE X (.Constant (.bool b) j pos) (tC (.bl b)):=λ_ _ _ H _ I h=>Constant_bool ⟨.bl b,H,I,rfl,h⟩
def aV6{j pos}:PE X (.Constant .none j pos) (tC .non):=λ_ _ _ H _ I h=>Rg ⟨.non,H,I,rfl,h⟩
def aU7{x j pos}:PE X (.Constant (.str x) j pos) (tC (.str x)):=λ_ _ _ H _ I h=>Calls.Constant_str ⟨.str x,H,I.tok _,⟨_,rfl⟩,h⟩
def Gl(X:Cx)(x:Str):Prop:=X.env.kindOf x=some .globalImplicit
def aC7{pins:#v[9]}{s:Shared}{σ:St}{H:Hp}{x:Str}(I:#v[5])(hg:Gl X x)(hm:X.mg x=some u)(h:Q u s)
  (hd:ND x:=by decide):#v[6] (eval (.Name x pos) X.env) Q E s:=
 Nk I.ok.kind hg (Calls.loadGlobal_global (by rw[I.ok.glob];exact I.mod.glob.keeps I.bk) hm h) hd
def sI{pins:#v[9]}{s:Shared}{σ:St}{H:Hp}{x:Str}(I:#v[5])(hg:Gl X x)(hm:X.mg x=none)(hv:bootBuiltins x=some u)(h:Q u s)
  (hn:x≠"__name__":=by decide) (hd:ND x:=by decide):#v[6] (eval (.Name x pos) X.env) Q E s:=by
 obtain⟨mb,h1,h2⟩:=I.mod.blt;exact Nk I.ok.kind hg (Calls.loadGlobal_builtin (by rw[I.ok.glob];exact I.mod.glob.keeps I.bk) hm (by rw[I.ok.blt];exact h1.keeps I.bk) ((h2 x hn).trans hv) h) hd
def aQx{x:Str}{v:V}(hg:Gl X x)(hm:X.mg x=some u)(r:RelV v u)(hd:ND x:=by decide):PE X (.Name x pos) (tC v):=
 λ_ _ _ H _ I h=>aC7 I hg hm ⟨v,H,I,r,h⟩ hd
def aQl{x:Str}{v:V}(hg:Gl X x)(hm:X.mg x=none)(hv:bootBuiltins x=some u)(r:RelV v u)(hn:x≠"__name__":=by decide)(hd:ND x:=by decide):PE X (.Name x pos) (tC v):=
 λ_ _ _ H _ I h=>sI I hg hm hv ⟨v,H,I,r,h⟩ hn hd
variable {a b:Expr}{ta tb:TE}{pos:Pos}
def PC(X:Cx)(op:CmpOp)(a b:Expr)(t:TE):Prop:=
 ∀(pins:#v[9])(s:Shared)(σ:St)(H:Hp)(Q:VK),#v[5]->t σ H Q->
  #v[6] (eval a X.env) (λv s₁=>#v[6] (eval b X.env) (λu s₂=>#v[6] (compareOp op v u) (EP X pins σ Q) X.xe s₂) X.xe s₁) X.xe s
def aFj(b:Expr){op:CmpOp}(h:op≠.In)(h2:op≠.NotIn):behindInMarks op b=false:=by
 have e1:(op==CmpOp.In)=false:=by cases op<;>first|rfl|exact absurd rfl h
 have e2:(op==Vj)=false:=by cases op<;>first|rfl|exact absurd rfl h2
 cases b<;>simp[behindInMarks,e1,e2]
def aWy(ta:TE):TE:=λσ H Q=>ta σ H λx H1=>Q (.bl (decide (x=.non))) H1
def aSx(ta:TE):TE:=λσ H Q=>ta σ H λx H1=>Q (.bl (!decide (x=.non))) H1
def RelV.none_iff{x:V}{v:Value}(r:RelV x v):(v==Bq)=decide (x=.non):=by
 cases x with
 |non=>cases r;rfl
 |bl _=>cases r;rfl
 |int _=>obtain⟨t,rfl⟩:=r;rfl
 |str _=>obtain⟨t,rfl⟩:=r;rfl
 |byt _=>obtain⟨t,rfl⟩:=r;rfl
 |flt _=>obtain⟨t,rfl⟩:=r;rfl
 |ref _=>cases r;rfl
 |ty _=>cases r;rfl
def aLv{j pos'}(ha:PE X a ta):PC X .Is a (.Constant .none j pos') (aWy ta):=by
 intro pins s σ H Q I h;refine thn (ha pins s σ H _ I h) λv s1 ⟨x,H1,I1,r1,q1⟩=>?_;exact Rg (is_none_gen ⟨.bl _,H1,I1,by rw[r1.none_iff];rfl,q1⟩)
def aP7{j pos'}(ha:PE X a ta):PC X .IsNot a (.Constant .none j pos') (aSx ta):=by
 intro pins s σ H Q I h;refine thn (ha pins s σ H _ I h) λv s1 ⟨x,H1,I1,r1,q1⟩=>?_;exact Rg (isnot_none_gen ⟨.bl _,H1,I1,by rw[r1.none_iff];rfl,q1⟩)
inductive aXi(x:V)(H:Hp)(Q:Bool->Hp->Prop):Prop
 |mk (c:_) (q0_:x=.bl c) (q1_:Q c H):aXi x H Q
def rBl(x:V)(H:Hp)(Q:Bool->Hp->Prop):Prop:=aXi x H Q
def tB(t:TE):TT:=λσ H Q=>t σ H λx H1=>rBl x H1 Q
def aTu{op:CmpOp}{t:TE}(h:PC X op a b t)(h1:behindInMarks op b=false:=by first|exact aFj _ ⋯ ⋯|rfl):PE X (.Compare a [op] [b] pos) t:=λpins s σ H Q I hw=>wpAny_Compare1 (h pins s σ H Q I hw) h1
def aOk{op:CmpOp}{t:TE}(h:PC X op a b t)(h1:behindInMarks op b=false:=by first|exact aFj _ ⋯ ⋯|rfl):PT X (.Compare a [op] [b] pos) (tB t):=by
 intro pins s σ H Q I hw;refine Rq (thn (h pins s σ H _ I hw) λv s1 h1=>thn h1 λu s2 h2=>thn h2 λc s3 ⟨x,H1,I1,r1,q1⟩=>?_) h1;obtain⟨d,rfl,q⟩:=q1;cases r1;exact Cm ⟨H1,I1,q⟩
def aU9{e:Expr}{t:TE}(h:PE X e t)(he:∀whole,isTrue e X.env whole=(do let v<-whole;standAt e.pos;holding [v] (truthy v)):=by intro _;rfl):PT X e (tB t):=by
 intro pins s σ H Q I hw;refine isTrue_plain (thn (h pins s σ H _ I hw) λv s1 ⟨x,H1,I1,r1,q1⟩=>?_) (he _);obtain⟨d,rfl,q⟩:=q1;cases r1;exact Cm ⟨H1,I1,q⟩
variable {tA tB':TT}{rest:List Expr}
def aZy(t u:TT):TT:=λσ H Q=>t σ H λc H1=>if c=true then u σ H1 Q else Q false H1
def tOr(t u:TT):TT:=λσ H Q=>t σ H λc H1=>if c=true then Q true H1 else u σ H1 Q
def aZq(t:TT):TT:=λσ H Q=>t σ H λc H1=>Q (!c) H1
def aRq(ha:PT X a tA):PW X (.BoolOp .And [a] pos) tA:=by
 intro wh pins s σ H Q I h;refine isTrue_and (thn (ha pins s σ H Q I h) λc s1 e=>?_);cases c with
 |true=>exact isTrue_and_nil e
 |false=>exact e
def aVw(ha:PT X a tA):PW X (.BoolOp .Or [a] pos) tA:=by
 intro wh pins s σ H Q I h;refine isTrue_or (thn (ha pins s σ H Q I h) λc s1 e=>?_);cases c with
 |false=>exact isTrue_or_nil e
 |true=>exact e
def aWb(ha:PT X a tA)(hb:PW X (.BoolOp .And (b::rest) pos) tB'):PW X (.BoolOp .And (a::b::rest) pos) (aZy tA tB'):=by
 intro wh pins s σ H Q I h;refine isTrue_and (thn (ha pins s σ H _ I h) λc s1 ⟨H1,I1,q1⟩=>?_);cases c with
 |true=>exact hb wh pins s1 σ H1 Q I1 q1
 |false=>exact⟨H1,I1,q1⟩
def aW3(ha:PT X a tA)(hb:PW X (.BoolOp .Or (b::rest) pos) tB'):PW X (.BoolOp .Or (a::b::rest) pos) (tOr tA tB'):=by
 intro wh pins s σ H Q I h;refine isTrue_or (thn (ha pins s σ H _ I h) λc s1 ⟨H1,I1,q1⟩=>?_);cases c with
 |true=>exact⟨H1,I1,q1⟩
 |false=>exact hb wh pins s1 σ H1 Q I1 q1
def aVm(ha:PT X a tA):PT X (.UnaryOp .Not a pos) (aZq tA):=by
 intro pins s σ H Q I h;exact isTrue_not (ha pins s σ H (λc H1=>Q (!c) H1) I h)
def aXb(ta tb:TE):TE:=λσ H Q=>ta σ H λx H1=>∃c,x=.bl c/\if c=true then tb σ H1 Q else Q (.bl false) H1
def aZ6(ta tb:TE):TE:=λσ H Q=>ta σ H λx H1=>∃c,x=.bl c/\if c=true then Q (.bl true) H1 else tb σ H1 Q
def aWr(ta:TE):TE:=λσ H Q=>ta σ H λx H1=>∃c,x=.bl c/\Q (.bl (!c)) H1
def aUe{op}{t:TE}(h:PE X a t):PE X (.BoolOp op [a] pos) t:=λpins s σ H Q I hw=>BoolOp_one (h pins s σ H Q I hw)
def aWf(ha:PE X a ta)(hb:PE X (.BoolOp .And (b::rest) pos) tb):PE X (.BoolOp .And (a::b::rest) pos) (aXb ta tb):=by
 intro pins s σ H Q I h;refine BoolOp_and (thn (ha pins s σ H _ I h) λv s1 ⟨x,H1,I1,r1,q1⟩=>?_);obtain⟨c,rfl,q1⟩:=q1;cases r1;refine Cm ?_;cases c with
 |true=>exact hb pins s1 σ H1 Q I1 q1
 |false=>exact⟨.bl false,H1,I1,rfl,q1⟩
def aW2(ha:PE X a ta)(hb:PE X (.BoolOp .Or (b::rest) pos) tb):PE X (.BoolOp .Or (a::b::rest) pos) (aZ6 ta tb):=by
 intro pins s σ H Q I h;refine BoolOp_or (thn (ha pins s σ H _ I h) λv s1 ⟨x,H1,I1,r1,q1⟩=>?_);obtain⟨c,rfl,q1⟩:=q1;cases r1;refine Cm ?_;cases c with
 |false=>exact hb pins s1 σ H1 Q I1 q1
 |true=>exact⟨.bl true,H1,I1,rfl,q1⟩
def aU8(ha:PE X a ta):PE X (.UnaryOp .Not a pos) (aWr ta):=by
 intro pins s σ H Q I h;refine UnaryOp_ (thn (ha pins s σ H _ I h) λv s1 ⟨x,H1,I1,r1,q1⟩=>?_);obtain⟨c,rfl,q1⟩:=q1;cases r1;exact not_of (Cm ⟨.bl (!c),H1,I1,rfl,q1⟩)
end
def SqL(K:Ae)(H:Hp)(a:Addr)(xs:List V):Prop:=
 Rd H a (.lst xs)∨
  ∃(o:Obj)(its:Array Value)(n:Nat),K.lookup a=some o/\o.cls=.type "list"/\o.dict=none/\o.data=.seq its n/\its.size<=sizeLine/\Vals xs its.toList
def SqT(K:Ae)(H:Hp)(a:Addr)(xs:List V):Prop:=
 Rd H a (.tup xs)∨
  ∃(o:Obj)(its:Array Value)(n:Nat),K.lookup a=some o/\o.cls=.type "tuple"/\o.data=.seq its n/\its.size<=sizeLine/\Vals xs its.toList
def bAb:Value->Option V
 |.none=>some .non
 |.bool b=>some (.bl b)
 |.int i _=>some (.int i)
 |.str x _=>some (.str x)
 |.bytes b _=>some (.byt b)
 |.float b _=>some (.flt b)
 |.ref a=>some (.ref a)
 |.type n=>some (.ty n)
 |_=>none
def RelV.abs{x:V}(r:RelV x u):bAb u=some x:=by
 cases x with
 |non=>cases r;rfl
 |bl _=>cases r;rfl
 |int _=>obtain⟨t,rfl⟩:=r;rfl
 |str _=>obtain⟨t,rfl⟩:=r;rfl
 |byt _=>obtain⟨t,rfl⟩:=r;rfl
 |flt _=>obtain⟨t,rfl⟩:=r;rfl
 |ref _=>cases r;rfl
 |ty _=>cases r;rfl
def RelV.inj{x y:V}(r:RelV x u)(q:RelV y u):x=y:=Bl (r.abs.symm.trans q.abs)
def Vals.inj:∀{xs ys:List V}{us:List Value},Vals xs us->Vals ys us->xs=ys
 |_,_,_,.nil,.nil=>rfl
 |_,_,_,.cons r t,.cons r' t'=>by rw[r.inj r',Vals.inj t t']
section
variable {X:Cx}{pins:#v[9]}{σ:St}{H:Hp}{s:Shared}{a:Addr}{xs ys:List V}
def SqL.of{K:Ae}(h:H a=some (.lst xs)):SqL K H a xs:=.inl (.inl h)
def SqT.of{K:Ae}(h:H a=some (.tup xs)):SqT K H a xs:=.inl (.inl h)
def Inv.list(I:#v[5])(h:SqL X.K H a xs):∃its:List Value,Vals xs its/\PlainL s.heap a its.toArray/\xs.length<=sizeLine:=by
 rcases h with h|⟨o,its,n,hk,hc,hd,hs,hz,r⟩
 ·obtain⟨z,its,n,r,e⟩:=h.ok I.hok;exact⟨its,r,⟨_,n,e,rfl,rfl,rfl⟩,z⟩
 ·refine⟨its.toList,r,⟨o,n,I.kIn a o hk,hc,hd,by simpa using hs⟩,?_⟩;have e:=r.length;simp only[Aq]at e
  lia
def Inv.tuple(I:#v[5])(h:SqT X.K H a xs):∃its:List Value,Vals xs its/\IsTup s.heap a its.toArray/\xs.length<=sizeLine:=by
 rcases h with h|⟨o,its,n,hk,hc,hs,hz,r⟩
 ·obtain⟨z,its,r,p⟩:=h.ok I.hok;exact⟨its,r,p,z⟩
 ·refine⟨its.toList,r,⟨o,I.kIn a o hk,hc,n,by simpa using hs⟩,?_⟩;have e:=r.length;simp only[Aq]at e
  lia
def Inv.list_inj(I:#v[5])(h:SqL X.K H a xs)(h':SqL X.K H a ys):xs=ys:=by
 obtain⟨its,r,⟨o,n,e,_,_,d⟩,_⟩:=I.list h;obtain⟨its',r',⟨o',n',e',_,_,d'⟩,_⟩:=I.list h';rw[e]at e';cases e';rw[d]at d';injection d' with d1 _
 have:its=its':=by simpa using congrArg Uv d1
 subst this;exact r.inj r'
def Inv.tuple_inj(I:#v[5])(h:SqT X.K H a xs)(h':SqT X.K H a ys):xs=ys:=by
 obtain⟨its,r,⟨o,e,_,n,d⟩,_⟩:=I.tuple h;obtain⟨its',r',⟨o',e',_,n',d'⟩,_⟩:=I.tuple h';rw[e]at e';cases e';rw[d]at d';injection d' with d1 _
 have:its=its':=by simpa using congrArg Uv d1
 subst this;exact r.inj r'
end
abbrev Cx.wish(X:Cx)(E:#v[7]):Cx:={X with xe:=E}
abbrev Cx.nox(X:Cx):Cx:=X.wish λ_ _=>False
def Cx.Ok.wish{X:Cx}(ok:X.Ok)(E:#v[7]):(X.wish E).Ok:=
 ⟨ok.mod,ok.kind,ok.glob,ok.blt,ok.above,ok.inj,ok.has,ok.cab,ok.hd,ok.frames,ok.stk,ok.exf,ok.bs,ok.bsz,ok.noex,ok.exfs,ok.funs,ok.frf⟩
def Cx.Ok.unwish{X:Cx}(ok:(X.wish E).Ok):X.Ok:=
 ⟨ok.mod,ok.kind,ok.glob,ok.blt,ok.above,ok.inj,ok.has,ok.cab,ok.hd,ok.frames,ok.stk,ok.exf,ok.bs,ok.bsz,ok.noex,ok.exfs,ok.funs,ok.frf⟩
section
variable {X:Cx}{pins:#v[9]}{σ:St}{H:Hp}{s:Shared}{E:#v[7]}
def Inv.wish(I:#v[5])(E:#v[7]):Inv (X.wish E) pins σ H s:=⟨I.ok.wish E,I.os,I.bare,I.base,I.loc,I.cell,I.free,I.freeC,I.pin,I.hok,I.len⟩
def Inv.unwish(I:Inv (X.wish E) pins σ H s):#v[5]:=⟨I.ok.unwish,I.os,I.bare,I.base,I.loc,I.cell,I.free,I.freeC,I.pin,I.hok,I.len⟩
def SP.unwish{D:Ends}{f:Flow}{s':Shared}(h:SP (X.wish E) pins D f s'):SP X pins D f s':=by
 cases f with
 |next=>obtain⟨σ',H',I,q⟩:=h;exact⟨σ',H',I.unwish,q⟩
 |brk=>obtain⟨σ',H',I,q⟩:=h;exact⟨σ',H',I.unwish,q⟩
 |cont=>obtain⟨σ',H',I,q⟩:=h;exact⟨σ',H',I.unwish,q⟩
 |ret u=>obtain⟨v,σ',H',I,r,q⟩:=h;exact⟨v,σ',H',I.unwish,r,q⟩
def PSs.nox{st:List Stmt}{t:TS}(h:PSs X.nox st t):PSs X st t:=λpins s σ H D I hw=>
 Dn (h pins s σ H D (I.wish _) hw) (λ_ _ q=>q.unwish) λ_ _ z=>Fc z
end
section
variable {X:Cx}{st:Stmt}{rest:List Stmt}{t u:TS}{e:Expr}{te:TE}{pos:Pos}
def aX9:TS:=λD σ H=>D.nx σ H
def aZk(t u:TS):TS:=λD σ H=>t {D with nx:=u D} σ H
def nQ:PSs X [] aX9:=λ_ _ σ H _ I h=>Ll ⟨σ,H,I,h⟩
def bO(h1:PS X st t)(h2:PSs X rest u):PSs X (st::rest) (aZk t u):=by
 intro pins s σ H D I h;refine Vo (thn (h1 pins s σ H {D with nx:=u D} I h) λf s1 q=>?_);cases f with
 |next=>
  obtain⟨σ',H',I',q⟩:=q;exact h2 pins s1 σ' H' D I' q
 |ret v=>exact q
 |brk=>exact q
 |cont=>exact q
def eG(h1:PS X st t):PSs X [st] t:=by
 intro pins s σ H D I h;refine Vo (thn (h1 pins s σ H D I h) λf s1 q=>?_);cases f with
 |next=>exact Ll q
 |ret v=>exact q
 |brk=>exact q
 |cont=>exact q
def Inv.quiet{pins:#v[9]}{σ:St}{H:Hp}{s:Shared}(I:#v[5]):interactive X.env=false:=by simp[interactive,I.ok.kind]
def aXs(te:TE):TS:=λD σ H=>te σ H λ_ H1=>D.nx σ H1
def qT(he:PE X e te)(hs:swapsWith e none pos.line X.env=pure false:=by rfl):PS X (.Expr e pos) (aXs te):=by
 intro pins s σ H D I h;exact wpAny_Expr_any (thn (he pins s σ H _ I h) λv s1 ⟨x,H1,I1,r1,q1⟩=>⟨σ,H1,I1,q1⟩) I.quiet hs
def aZ4(te:TE):TS:=λD σ H=>te σ H D.rt
def xV(he:PE X e te):PS X (.Return (some e) pos) (aZ4 te):=by
 intro pins s σ H D I h;exact wpAny_Return_some (thn (he pins s σ H _ I h) λv s1 ⟨x,H1,I1,r1,q1⟩=>⟨x,σ,H1,I1,r1,q1⟩)
def aZc(c:TT)(t u:TS):TS:=λD σ H=>c σ H λb H1=>if b=true then t D σ H1 else u D σ H1
def yL{c:Expr}{a b:List Stmt}{tc:TT}(hc:PT X c tc)(ha:PSs X a t)(hb:PSs X b u):PS X (.If c a b pos) (aZc tc t u):=by
 intro pins s σ H D I h;refine wpAny_If (thn (hc pins s σ H _ I h) λd s1 ⟨H1,I1,q1⟩=>?_);cases d with
 |true=>exact ha pins s1 σ H1 D I1 q1
 |false=>exact hb pins s1 σ H1 D I1 q1
def aVv:TS:=λ_ _ _=>False
def oY:PS X st aVv:=λ_ _ _ _ _ _ h=>h.elim
end
abbrev TG:=V->St->Hp->(St->Hp->Prop)->Prop
abbrev TGs:=List V->St->Hp->(St->Hp->Prop)->Prop
def PG(X:Cx)(target:Expr)(t:TG):Prop:=
 ∀(pins:#v[9])(s:Shared)(σ:St)(H:Hp)(v:V)(u:Value)(Q:St->Hp->Prop),#v[5]->RelV v u->t v σ H Q->
  #v[6] (assign target X.env u) (λ_ s'=>∃σ' H',Inv X pins σ' H' s'/\Q σ' H') X.xe s
def PGs(X:Cx)(ts:List Expr)(t:TGs):Prop:=
 ∀(pins:#v[9])(s:Shared)(σ:St)(H:Hp)(vs:List V)(us:List Value)(Q:St->Hp->Prop),#v[5]->Vals vs us->t vs σ H Q->
  #v[6] (assignInOrder ((assignEach ts X.env).map (·.2)) us) (λ_ s'=>∃σ' H',Inv X pins σ' H' s'/\Q σ' H') X.xe s
abbrev aVe:=V->V->V->Hp->(Hp->Prop)->Prop
def aYs(X:Cx)(t:aVe):Prop:=
 ∀(pins:#v[9])(s:Shared)(σ:St)(H:Hp)(o i v:V)(ov iv u:Value)(Q:Hp->Prop),#v[5]->RelV o ov->RelV i iv->RelV v u->t o i v H Q->
  #v[6] (setItem ov iv u) (λ_ s'=>∃H',Inv X pins σ H' s'/\Q H') X.xe s
variable {pos:Pos}
def mU(i:Nat):TG:=λv σ H Q=>Q (σ.set i (some v)) H
def aZ{x:Str}(hN:X.N.Nodup)(hi:X.N[i]? =some x)(hx:Loc X.env.scope x)(hf:FL X x:=by trivial):PG X (.Name x pos) (mU i):=by
 intro pins s σ H v u Q I r h;exact Kj (aE1 I hN hi hx r (λs' I'=>⟨_,H,I',h⟩) hf)
def aW5:TGs:=λvs σ H Q=>vs=[]/\Q σ H
def aR3(t:TG)(u:TGs):TGs:=λvs σ H Q=>∃v r,vs=v::r/\t v σ H λσ' H'=>u r σ' H' Q
def wF:PGs X [] aW5:=by
 intro pins s σ H vs us Q I r h;obtain⟨e,h⟩:=h;subst e;cases r;exact assignInOrder_nil ⟨σ,H,I,h⟩
def iR{e:Expr}{t:TG}{u:TGs}(h1:PG X e t)(h2:PGs X es u)
  (hs:(assignEach (e::es) X.env).map (·.2)=assign e X.env::(assignEach es X.env).map (·.2):=by rfl):PGs X (e::es) (aR3 t u):=by
 intro pins s σ H vs us Q I r h;obtain⟨v,vr,e1,h⟩:=h;subst e1;cases r with
 |cons r rr=>
  rw[hs];refine assignInOrder_cons (thn (h1 pins s σ H _ _ _ I r h) λ_ s1 ⟨σ1,H1,I1,q1⟩=>?_);exact h2 pins s1 σ1 H1 _ _ Q I1 rr q1
inductive aS4(K:Ae)(n:Nat)(t:TGs)(v:V)(σ:St)(H:Hp)(Q:(St->Hp->Prop)):Prop
 |mk (a xs:_) (q0_:v=.ref a) (q1_:SqT K H a xs) (q2_:xs.length=n) (q3_:t xs σ H Q):aS4 K n t v σ H Q
def aWx(K:Ae)(n:Nat)(t:TGs):TG:=λv σ H Q=>aS4 K n t v σ H Q
def zX{t:TGs}{n:Nat}(hc:X.calm=true)(h:PGs X es t)
  (hn:(assignEach es X.env).length=n:=by rfl) (hst:(assignEach es X.env).findIdx? (·.1)=none:=by rfl):PG X (.Tuple es k pos) (aWx X.K n t):=by
 intro pins s σ H v u Q I r hw;obtain⟨a,xs,e1,hq,hl,hw⟩:=hw;subst e1;cases r;obtain⟨its,rv,ht,hz⟩:=I.tuple hq;refine assign_Tuple_tuple (I.ok.hd hc) ht (by simp[hn, <-hl,rv.length]) hst λh' hx=>?_;have I1:Inv X pins σ H {s with heap:=h'}:=I.kept (t':=s.toks) λb o e=>hx b o (Ar (Ap e)) e;exact h pins _ σ H xs _ Q I1 (by simpa using rv) hw
def aZi(to ti:TE)(t:aVe):TG:=λv σ H Q=>to σ H λo H1=>ti σ H1 λi H2=>t o i v H2 λH3=>Q σ H3
def aNi{o i:Expr}{to ti:TE}{t:aVe}(ho:PE X o to)(hi:PE X i ti)(hs:aYs X t)
  (ha:∀v,assign (.Subscript o i pos) X.env v=(do
   let ov<-holding [v] (eval o X.env)
   let iv<-holding [v,ov] (eval i X.env)
   standAt pos
   holding [v,ov,iv] (setItem ov iv v)
   release [v,ov,iv] []):=by intro _;rfl):PG X (.Subscript o i pos) (aZi to ti t):=by
 intro pins s σ H v u Q I r h
 rw[ha]
 refine Aa (Bs (thn (ho pins s σ H _ I h) λov s1 ⟨x,H1,I1,r1,q1⟩=>?_))
 refine Aa (Bs (thn (hi pins s1 σ H1 _ I1 q1) λiv s2 ⟨y,H2,I2,r2,q2⟩=>?_))
 refine Aa (Je (Aa (Bs (thn (hs pins s2 σ H2 x y v ov iv u _ I2 r1 r2 r q2) λ_ s3 ⟨H3,I3,q3⟩=>?_))))
 exact wpAny_release ⟨σ,H3,I3,q3⟩
def aDk(te:TE)(g:TG):TS:=λD σ H=>te σ H λx H1=>g x σ H1 D.nx
def aO8{tg e:Expr}{te:TE}{g:TG}(he:PE X e te)(hg:PG X tg g)(hs:swapsWithSole [tg] e pos.line X.env=pure false:=by rfl)(hw:swappedStores [tg] e X.env=pure none:=by rfl)
  (h1:(assignEach [tg] X.env).map (·.2)=[assign tg X.env]:=by rfl):PS X (.Assign [tg] e pos) (aDk te g):=by
 intro pins s σ H D I h;refine wpAny_Assign_stores (thn (he pins s σ H _ I h) λv s1 ⟨x,H1,I1,r1,q1⟩=>?_) hs hw;rw[h1];exact thn (hg pins s1 σ H1 x v _ I1 r1 q1) λ_ s2 q=>q
def aEc{x:Str}{e:Expr}{te:TE}{pos':Pos}(hN:X.N.Nodup)(hi:X.N[i]? =some x)(hx:Loc X.env.scope x)(he:PE X e te)(hs:swapsWith e (some (.Name x pos')) pos.line X.env=pure false:=by rfl)(hf:FL X x:=by trivial):
  PS X (.Assign [.Name x pos'] e pos) (aDk te (mU i)):=by
 intro pins s σ H D I h;refine wpAny_Assign_Name (thn (he pins s σ H _ I h) λv s1 ⟨y,H1,I1,r1,q1⟩=>?_) hs;exact aE1 I1 hN hi hx r1 (λs2 I2=>⟨_,H1,I2,q1⟩) hf
inductive aIi(c:TT)(tb:TS)(D:Ends)(σ:St)(H:Hp):Prop
 |mk (W:Nat->St->Hp->Prop) (q0_:(∃m,W m σ H)) (q1_:∀m σ H,W m σ H->c σ H λb H1=>if b=true then∃N:St->Hp->Prop,(∀σ' H',N σ' H'->∃m',m'<m/\W m' σ' H')/\tb {D with nx:=N,ct:=N,bk:=D.nx} σ H1 else D.nx σ H1):aIi c tb D σ H
def aUz(c:TT)(tb:TS):TS:=λD σ H=>aIi c tb D σ H
def aN5{c:Expr}{tc:TT}{tb:TS}(hp:PassesOwn (model X.prog X.w) X.A X.env X.xe)(hc:PT X c tc)(hb:PSs X body tb):PS X (.While c body [] pos) (aUz tc tb):=by
 intro pins s σ H D I h;obtain⟨W,⟨m0,w0⟩,turn⟩:=h;refine wpAny_While (codeAny_whileLoop (λn s'=>∃σ' H',Inv X pins σ' H' s'/\W n σ' H') ?_ m0 ⟨σ,H,I,w0⟩);rintro n s1 ⟨σ1,H1,I1,w1⟩;refine Gm hp (thn (hc pins s1 σ1 H1 _ I1 (turn n σ1 H1 w1)) λb s2 ⟨H2,I2,q2⟩=>?_);cases b with
 |true=>
  obtain⟨N,hN,q2⟩:=q2;rw[if_pos rfl];refine Gm hp (thn (hb pins s2 σ1 H2 _ I2 q2) λf s3 q3=>?_);cases f with
  |next=>
   obtain⟨σ3,H3,I3,n3⟩:=q3;obtain⟨m',hm,w3⟩:=hN σ3 H3 n3;exact⟨m',hm,σ3,H3,I3,w3⟩
  |cont=>
   obtain⟨σ3,H3,I3,n3⟩:=q3;obtain⟨m',hm,w3⟩:=hN σ3 H3 n3;exact⟨m',hm,σ3,H3,I3,w3⟩
  |brk=>exact q3
  |ret v=>exact q3
 |false=>
  rw[if_neg Ao];exact Ll ⟨σ1,H2,I2,q2⟩
structure It where
 go:Nat->Hp->Prop
 yld:Nat->Hp->V->Hp->Prop
 stop:Nat->Hp->Prop
def aC5(X:Cx)(pins:#v[9])(H:Hp)(b:Addr):Prop:=
 H b=none/\b≠X.env.locals/\b∉X.fs/\(b∈X.ex∨X.s₀.heap.objs.size<=b)/\(∀x c,X.env.cells.lookup x=some c->c≠b)/\∀p∈X.pn++pins,p.1≠b
def Inv.fpOk{X:Cx}{pins:#v[9]}{σ:St}{H H':Hp}{s:Shared}(I:#v[5])(hb:#v[0]<=b)(hn:H' b=none):aC5 X pins H' b:=by
 refine⟨hn,Ey (Bb I.lt hb),I.nofs hb,.inr (Ba I.sz hb),λx c e z=>?_,λp hp z=>?_⟩
 ·obtain⟨v,q⟩:=I.cell x c e;exact absurd (Bb q.lt (by rw[z];exact hb)) (Dw _)
 ·exact absurd (Bb (Ap (I.pin p hp).1) (by rw[z];exact hb)) (Dw _)
structure Turn(P:Program)(w:World)(K:Ae)(tg:Expr)(J:It)(fp:List Addr)(it:Addr)(tn:Nat->Heap->Prop):Prop where
 mem:it∈fp
 obj:∀i h,tn i h->∀b∈fp,∃o,h.get? b=some o/\∀v,o.data≠.cell v
 keep:∀i h h',tn i h->(∀b∈fp,∀o,h.get? b=some o->h'.get? b=some o)->tn i h'
 item:∀(X:Cx),X.prog=P->X.w=w->X.K=K->X.calm=true->∀(i:Nat)(pins:#v[9])(s:Shared)(σ:St)(H:Hp)(E:#v[7]),#v[5]->(∀b∈fp,aC5 X pins H b)->tn i s.heap->J.go i H->
  wpAny (model P w) X.A (pyNext (.ref it)) (λr s1=>∃u,r=some u/\
   wpAny (model P w) X.A (letOwnedTupleGo tg (.ref it) u) (λ_ s2=>∃x H',Inv X pins σ H' s2/\RelV x u/\J.yld i H x H'/\tn (i+1) s2.heap/\∀b∈fp,H' b=none) E s1) E s
 done:∀(X:Cx),X.prog=P->X.w=w->X.K=K->X.calm=true->∀(i:Nat)(pins:#v[9])(s:Shared)(σ:St)(H:Hp)(E:#v[7]),#v[5]->(∀b∈fp,aC5 X pins H b)->tn i s.heap->J.stop i H->
  wpAny (model P w) X.A (pyNext (.ref it)) (λr s1=>r=none/\Inv X pins σ H s1) E s
 self:∀(A:Around)(i:Nat)(s:Shared)(Q:#v[7])(E:#v[7]),tn i s.heap->Q (.ref it) s->wpAny (model P w) A (pyIter (.ref it)) Q E s
abbrev TI:=St->Hp->(It->Hp->Prop)->Prop
def PIE(X:Cx)(pins:#v[9])(σ:St)(tg:Expr)(R:It->Hp->Prop)(itv:Value)(s2:Shared):Prop:=
 ∃(it:Addr)(fp:List Addr)(tn:Nat->Heap->Prop)(J:It)(H':Hp),itv=.ref it/\Inv X pins σ H' s2/\Turn X.prog X.w X.K tg J fp it tn/\tn 0 s2.heap/\(∀b∈fp,aC5 X pins H' b)/\R J H'
def PI(X:Cx)(tg iter:Expr)(wi:TI):Prop:=
 ∀(pins:#v[9])(s:Shared)(σ:St)(H:Hp)(R:It->Hp->Prop),#v[5]->wi σ H R->
  #v[6] (eval iter X.env) (λv s1=>#v[6] (pyIter v) (PIE X pins σ tg R) X.xe s1) X.xe s
def aPj {M : Model} {s : Shared} {it : Addr} {o : Obj} {n : String} {vs : Array Value} {Q : Unit → Shared → Prop} (ho : s.heap.get? it = some o) (hc : o.cls = .type n) (hd : o.data = .fields vs)
    (hn : ["enumerate", "zip", "dict_itemiterator", "dict_reverseitemiterator", "odict_iterator", "itertools.zip_longest", "itertools.pairwise"].contains n = false) (hQ : Q () s) : wpAny M A (letOwnedTupleGo tg (.ref it) u) Q E s := by
  unfold letOwnedTupleGo
  cases tg <;> first
    | exact Ac hQ
    | (cases u <;> first
        | exact Ac hQ
        | (refine Aa (Nm ho ?_)
           rw [hc, hd]
           show wpAny M A (if (["enumerate", "zip", "dict_itemiterator", "dict_reverseitemiterator", "odict_iterator", "itertools.zip_longest", "itertools.pairwise"].contains n && vs[0]? == some (rawInt _)) = true then _ else _) Q E s
           rw [if_neg (by intro h; rw [hn, Jl] at h; cases h)]
           exact Ac hQ))
def Itl(K:Ae)(a:Addr):It:=
 ⟨λi H=>∃xs x,SqL K H a xs/\xs[i]? =some x,λi H x H'=>H'=H/\∀xs,SqL K H a xs->xs[i]? =some x,λi H=>∃xs,SqL K H a xs/\xs.length<=i⟩
def Itt(K:Ae)(a:Addr):It:=
 ⟨λi H=>∃xs x,SqT K H a xs/\xs[i]? =some x,λi H x H'=>H'=H/\∀xs,SqT K H a xs->xs[i]? =some x,λi H=>∃xs,SqT K H a xs/\xs.length<=i⟩
def Itr(lo:Int)(n:Nat):It:=⟨λi _=>i<n,λi H x H'=>H'=H/\x=.int (lo+i),λi _=>n<=i⟩
def aKs{P:Program}{w:World}{K:Ae}(a it:Addr):Turn P w K tg (Itl K a) [it] it (λi h=>h.IsListIter it a i) where
 mem:=by simp
 obj:=λi h st b hb=>by
  have e:b=it:=by simpa using hb
  subst e;obtain⟨o,e,c,d⟩:=st;exact⟨o,e,λv z=>by rw[d]at z;cases z⟩
 keep:=λi h h' st k=>st.at λo e=>k it (by simp) o e
 item:=by
  intro X hP hw hK hc i pins s σ H E I hf st hg;subst hP hw hK;obtain⟨xs,x,hq,hx⟩:=hg;obtain⟨its,rv,p,hz⟩:=I.list hq;obtain⟨u,hu,ru⟩:=rv.get hx;obtain⟨f0,f1,f2,f3,f4,f5⟩:=hf it (by simp);refine wpAny_pyNext_list_item st p.isList (x:=u) (by simpa using hu) λh' st' sb=>?_;have I1:Inv X pins σ H {s with heap:=h'}:=I.turned (t':=s.toks) (λb o hb e=>(sb.2 b hb).trans e) f0 f1 f3 f4 f5;obtain⟨o,e,c,d⟩:=id st';exact⟨u,rfl,aPj (s:={s with heap:=h'}) e c d ⋯ ⟨x,H,I1,ru,⟨rfl,λys hy=>by rw[I.list_inj hy hq];exact hx⟩,st',λb hb=>(hf b hb).1⟩⟩
 done:=by
  intro X hP hw hK hc i pins s σ H E I hf st hg;subst hP hw hK;obtain⟨xs,hq,hx⟩:=hg;obtain⟨its,rv,p,hz⟩:=I.list hq;obtain⟨f0,f1,f2,f3,f4,f5⟩:=hf it (by simp);have hl:=rv.length;exact wpAny_pyNext_list_end (I.ok.hd hc) st p.isList (by simp;lia) λh' eb=>⟨rfl,I.turned (t':=s.toks) (λb o hb e=>eb b o hb e) f0 f1 f3 f4 f5⟩
 self:=λ_ _ _ _ _ st h=>wpAny_pyIter_listiter st h
def aHn{P:Program}{w:World}{K:Ae}(a it:Addr):Turn P w K tg (Itt K a) [it] it (λi h=>h.IsTupleIter it a i) where
 mem:=by simp
 obj:=λi h st b hb=>by
  have e:b=it:=by simpa using hb
  subst e;obtain⟨o,e,c,d⟩:=st;exact⟨o,e,λv z=>by rw[d]at z;cases z⟩
 keep:=λi h h' st k=>st.at λo e=>k it (by simp) o e
 item:=by
  intro X hP hw hK hc i pins s σ H E I hf st hg;subst hP hw hK;obtain⟨xs,x,hq,hx⟩:=hg;obtain⟨its,rv,p,hz⟩:=I.tuple hq;obtain⟨u,hu,ru⟩:=rv.get hx;obtain⟨f0,f1,f2,f3,f4,f5⟩:=hf it (by simp);refine wpAny_pyNext_tuple_item st (show s.heap.IsTuple a its.toArray from p) (x:=u) (by simpa using hu) λh' st' sb=>?_;have I1:Inv X pins σ H {s with heap:=h'}:=I.turned (t':=s.toks) (λb o hb e=>(sb.2 b hb).trans e) f0 f1 f3 f4 f5;obtain⟨o,e,c,d⟩:=id st';exact⟨u,rfl,aPj (s:={s with heap:=h'}) e c d ⋯ ⟨x,H,I1,ru,⟨rfl,λys hy=>by rw[I.tuple_inj hy hq];exact hx⟩,st',λb hb=>(hf b hb).1⟩⟩
 done:=by
  intro X hP hw hK hc i pins s σ H E I hf st hg;subst hP hw hK;obtain⟨xs,hq,hx⟩:=hg;obtain⟨its,rv,p,hz⟩:=I.tuple hq;obtain⟨f0,f1,f2,f3,f4,f5⟩:=hf it (by simp);have hl:=rv.length;exact wpAny_pyNext_tuple_end (I.ok.hd hc) st (show s.heap.IsTuple a its.toArray from p) (by simp;lia) λh' eb=>⟨rfl,I.turned (t':=s.toks) (λb o hb e=>eb b o hb e) f0 f1 f3 f4 f5⟩
 self:=λ_ _ _ _ _ st h=>wpAny_pyIter_tupleiter st h
def aH2{P:Program}{w:World}{K:Ae}(it:Addr)(lo:Int)(n:Nat):Turn P w K tg (Itr lo n) [it] it (λi h=>IsRangeIter h it (lo+(i:Nat)*1) ((n:Int)-(i:Nat)) 1) where
 mem:=by simp
 obj:=λi h st b hb=>by
  have e:b=it:=by simpa using hb
  subst e;exact⟨_,st,λv z=>by
   have z':Qp _=Nj v:=z;cases z'⟩
 keep:=λi h h' st k=>k it (by simp) _ st
 item:=by
  intro X hP hw hK hc i pins s σ H E I hf st hg;subst hP hw hK;obtain⟨f0,f1,f2,f3,f4,f5⟩:=hf it (by simp);have W:=Walks.range (prog:=X.prog) (w:=X.w) (I.ok.hd hc) it lo 1 n;refine W.item i s _ _ hg st λv h' tk hv st' kk=>?_;obtain⟨t,rfl⟩:=hv;have I1:Inv X pins σ H {s with heap:=h',toks:=tk}:=I.turned (λb o hb e=>kk b o (by simpa using hb) e) f0 f1 f3 f4 f5;refine⟨_,rfl,aPj (s:={s with heap:=h',toks:=tk}) (n:="range_iterator") st' rfl rfl ⋯ ⟨.int (lo+i),H,I1,⟨t,?_⟩,⟨rfl,rfl⟩,st',λb hb=>(hf b hb).1⟩⟩;rw[Int.mul_one]
 done:=by
  intro X hP hw hK hc i pins s σ H E I hf st hg;subst hP hw hK;obtain⟨f0,f1,f2,f3,f4,f5⟩:=hf it (by simp);exact wpAny_pyNext_range_end (I.ok.hd hc) st (by have:n<=i:=hg;lia) λh' eb=>⟨rfl,I.turned (t':=s.toks) (λb o hb e=>eb b o hb e) f0 f1 f3 f4 f5⟩
 self:=λ_ _ _ _ _ st h=>wpAny_pyIter_rangeiter st h
variable {tg:Expr}
inductive aTc(K:Ae)(x:V)(H1:Hp)(R:It->Hp->Prop):Prop
 |mk (a:_) (q0_:x=.ref a) (q1_:(∃xs,SqL K H1 a xs)) (q2_:R (Itl K a) H1):aTc K x H1 R
def aZm(K:Ae)(x:V)(H1:Hp)(R:It->Hp->Prop):Prop:=aTc K x H1 R
def aYz(K:Ae)(tl:TE):TI:=λσ H R=>tl σ H λx H1=>aZm K x H1 R
def aZa(K:Ae)(tl:TE):TI:=λσ H R=>tl σ H λx H1=>∃a,x=.ref a/\(∃xs,SqT K H1 a xs)/\R (Itt K a) H1
def aI5{l:Expr}{tl:TE}(hl:PE X l tl):PI X tg l (aYz X.K tl):=by
 intro pins s σ H R I h;refine thn (hl pins s σ H _ I h) λv s1 ⟨x,H1,I1,r1,q1⟩=>?_;obtain⟨a,e,⟨xs,hq⟩,q⟩:=q1;subst e;cases r1;obtain⟨its,rv,p,hz⟩:=I1.list hq;refine Gu p.isList ?_;refine⟨s1.heap.objs.size,[s1.heap.objs.size],_,_,H1,rfl,I1.kept (t':=s1.toks) λb o e=>Ad _ e,aKs a _,⟨_,Al _ rfl,rfl,rfl⟩,λb hb=>?_,q⟩;have e:b=s1.heap.objs.size:=by simpa using hb
 subst e;exact I1.fpOk (Ak _) (I1.hok.fresh (Ak _))
def aV2{l:Expr}{tl:TE}(hl:PE X l tl):PI X tg l (aZa X.K tl):=by
 intro pins s σ H R I h;refine thn (hl pins s σ H _ I h) λv s1 ⟨x,H1,I1,r1,q1⟩=>?_;obtain⟨a,e,⟨xs,hq⟩,q⟩:=q1;subst e;cases r1;obtain⟨its,rv,p,hz⟩:=I1.tuple hq;refine Tz (show s1.heap.IsTuple a its.toArray from p) ?_;refine⟨s1.heap.objs.size,[s1.heap.objs.size],_,_,H1,rfl,I1.kept (t':=s1.toks) λb o e=>Ad _ e,aHn a _,⟨_,Al _ rfl,rfl,rfl⟩,λb hb=>?_,q⟩;have e:b=s1.heap.objs.size:=by simpa using hb
 subst e;exact I1.fpOk (Ak _) (I1.hok.fresh (Ak _))
def aFk{pins:#v[9]}{σ:St}{H:Hp}{s:Shared}{R:It->Hp->Prop}{lo hi:Int}{t u v:Tok}{tk:Nat}(I:#v[5])(h1: -(2 ^ 62)<=lo)(h2:lo<2 ^ 62)(h3: -(2 ^ 62)<=hi)(h4:hi<2 ^ 62)
  (q:R (Itr lo (hi-lo).toNat) H):#v[6] (pyIter (.ref #v[0])) (PIE X pins σ tg R) E {s with heap:=s.heap.push {cls:=.type "range",data:=.fields #[.int lo t,.int hi u,.int 1 v]},toks:=tk}:=by
 refine wpAny_pyIter_range (IsRange.new ..) (small_one h1 h2 h3 h4) ?_;have I1:Inv X pins σ H {s with heap:=s.heap.push {cls:=.type "range",data:=.fields #[.int lo t,.int hi u,.int 1 v]},toks:=tk}:=I.kept λb o e=>Ad _ e;refine⟨(s.heap.push {cls:=.type "range",data:=.fields #[.int lo t,.int hi u,.int 1 v]}).objs.size,[(s.heap.push {cls:=.type "range",data:=.fields #[.int lo t,.int hi u,.int 1 v]}).objs.size],_,_,H,rfl,
  I1.kept (t':=tk) λb o e=>Ad _ e,aH2 _ lo (hi-lo).toNat,?_,λb hb=>?_,q⟩
 ·have e1:lo+((0:Nat):Int)*1=lo:=by simp
  have e2:(((hi-lo).toNat:Nat):Int)-((0:Nat):Int)=Vm lo hi 1:=by rw[rangeSize_one];split<;>lia
  show IsRangeIter _ _ (lo+((0:Nat):Int)*1) ((((hi-lo).toNat:Nat):Int)-((0:Nat):Int)) 1;rw[e1,e2];exact Al _ rfl
 ·have e:b=(s.heap.push {cls:=.type "range",data:=.fields #[.int lo t,.int hi u,.int 1 v]}).objs.size:=by simpa using hb
  subst e;exact I1.fpOk (Ak _) (I1.hok.fresh (Ak _))
inductive aSq(vs:List V)(H1:Hp)(R:It->Hp->Prop):Prop
 |mk (j:Int) (q0_:vs=[.int j]) (q1_: -(2 ^ 62)<=j) (q2_:j<2 ^ 62) (q3_:R (Itr 0 j.toNat) H1):aSq vs H1 R
def aZl(vs:List V)(H1:Hp)(R:It->Hp->Prop):Prop:=aSq vs H1 R
def aXm(ta:TA):TI:=λσ H R=>ta σ H λvs H1=>aZl vs H1 R
def aX5(ta:TA):TI:=λσ H R=>ta σ H λvs H1=>∃i j:Int,vs=[.int i,.int j]/\(-(2 ^ 62)<=i/\i<2 ^ 62/\ -(2 ^ 62)<=j/\j<2 ^ 62)/\R (Itr i (j-i).toNat) H1
def aJs{a:Expr}{ta:TA}{p pos:Pos}(hg:Gl X "range")(hm:X.mg "range"=none)(ha:PA X [a] ta)(hs:starEach [a] X.env=[(false,eval a X.env)]:=by rfl):PI X tg (.Call (.Name "range" p) [a] [] pos) (aXm ta):=by
 intro pins s σ H R I h;refine Call_ (sI I hg hm boot_range (El (thn (ha pos pins s σ H _ I h) λus s1 ⟨vs,H1,I1,r1,q1⟩=>?_) hs rfl));obtain⟨j,e,q1,q2,q⟩:=q1;subst e;cases r1 with
 |cons r rr=>
  cases rr;obtain⟨t,rfl⟩:=r;exact call_range_1 (aFk I1 ∅ ∅ q1 q2 (by simpa using q))
def aKm{a b:Expr}{ta:TA}{p pos:Pos}(hg:Gl X "range")(hm:X.mg "range"=none)(ha:PA X [a,b] ta)(hs:starEach [a,b] X.env=[(false,eval a X.env),(false,eval b X.env)]:=by rfl)(hs2:starEach [b] X.env=[(false,eval b X.env)]:=by rfl):
  PI X tg (.Call (.Name "range" p) [a,b] [] pos) (aX5 ta):=by
 intro pins s σ H R I h;refine Call_ (sI I hg hm boot_range (El (thn (ha pos pins s σ H _ I h) λus s1 ⟨vs,H1,I1,r1,q1⟩=>?_) (by rw[hs,hs2]) (by rw[hs2];rfl)));obtain⟨i,j,e,⟨q1,q2,q3,q4⟩,q⟩:=q1;subst e;cases r1 with
 |cons r rr=>
  cases rr with
  |cons r' rr=>
   cases rr;obtain⟨t,rfl⟩:=r;obtain⟨t',rfl⟩:=r';exact call_range_2 (aFk I1 q1 q2 q3 q4 q)
def aZp(wi:TI)(g:TG)(tb:TS):TS:=λD σ H=>wi σ H λJ H1=>∃W:Nat->Nat->St->Hp->Prop,(∃m,W 0 m σ H1)/\∀i m σ H,W i m σ H->
 (J.stop i H/\D.nx σ H)∨(J.go i H/\∃N:St->Hp->Prop,(∀σ' H',N σ' H'->∃m',m'<m/\W (i+1) m' σ' H')/\∀x H',J.yld i H x H'->g x σ H' λσ2 H2=>tb {D with nx:=N,ct:=N,bk:=D.nx} σ2 H2)
def aD5(fp:List Addr)(h:Heap):#v[9]:=fp.filterMap λb=>(h.get? b).map λo=>(b,o)
def jP{h:Heap}{o:Obj}(hb:b∈fp)(e:h.get? b=some o):(b,o)∈aD5 fp h:=List.mem_filterMap.mpr ⟨b,hb,by rw[e];rfl⟩
def aJd{h:Heap}{p:Addr×Obj}(hp:p∈aD5 fp h):p.1∈fp/\h.get? p.1=some p.2:=by
 obtain⟨b,hb,e⟩:=List.mem_filterMap.mp hp;cases q:h.get? b with
 |none=>rw[q]at e;cases e
 |some o=>
  rw[q]at e;have e':(b,o)=p:=Bl e;subst e';exact⟨hb,q⟩
def Inv.pinned{pins:#v[9]}{σ:St}{H:Hp}{s:Shared}(I:#v[5])(hf:∀b∈fp,aC5 X pins H b)(ho:∀b∈fp,∃o,s.heap.get? b=some o/\∀v,o.data≠.cell v):Inv X (pins++aD5 fp s.heap) σ H s:=
 I.pins_of λp hp=>(List.mem_append.mp hp).elim (λz=>I.pin p (Bc _ z)) λz=>by
  obtain⟨hb,e⟩:=aJd z;obtain⟨f0,f1,f2,_⟩:=hf p.1 hb;obtain⟨o,e',d⟩:=ho p.1 hb;rw[e]at e';cases e';exact⟨e,f0,f1,f2,d⟩
def Inv.unpinned{pins pl:#v[9]}{σ:St}{H:Hp}{s:Shared}(I:Inv X (pins++pl) σ H s):#v[5]:=I.pins_of λp hp=>I.pin p (Bc _ (Il _ hp))
def aTm{iter:Expr}{wi:TI}{g:TG}{tb:TS}{pos:Pos}(hp:PassesOwn (model X.prog X.w) X.A X.env X.xe)(hc:X.calm=true)(hi:PI X tg iter wi)(hg:PG X tg g)(hb:PSs X body tb)
  (hs:FS X iter:=by intro _;rfl):PS X (.For tg iter body [] pos) (aZp wi g tb):=by
 intro pins s σ H D I h;refine wpAny_For (thn (hi pins s σ H _ I h) λv s1 h1=>thn h1 λitv s2 h2=>?_) hs;obtain⟨it,fp,tn,J,H2,e,I2,T,st2,f2,W,⟨m0,w0⟩,turn⟩:=h2;subst e;have stat:∀{H':Hp},(∀b∈fp,H' b=none)->∀b∈fp,aC5 X pins H' b:=λhn b hb=>⟨hn b hb,(f2 b hb).2⟩;refine codeAny_forLoop_any (λn s'=>∃i σ' H',Inv X pins σ' H' s'/\tn i s'.heap/\(∀b∈fp,H' b=none)/\W i n σ' H') ?_ m0 ⟨0,σ,H2,I2,st2,λb hb=>(f2 b hb).1,w0⟩;rintro n s3 ⟨i,σ3,H3,I3,st3,fr3,w3⟩;rcases turn i n σ3 H3 w3 with ⟨stop,qn⟩|⟨go,N,hN,step⟩
 ·refine Gm hp (thn (T.done X rfl rfl rfl hc i pins s3 σ3 H3 X.xe I3 (stat fr3) st3 stop) λr s4 ⟨hr,I4⟩=>?_);subst hr;exact Ll ⟨σ3,H3,I4,qn⟩
 ·refine Gm hp (thn (T.item X rfl rfl rfl hc i pins s3 σ3 H3 X.xe I3 (stat fr3) st3 go) λr s4 ⟨u,hr,h4⟩=>?_);subst hr;refine Gm hp (thn h4 λ_ s5 ⟨x,H5,I5,r5,y5,st5,fr5⟩=>?_);have I5':=I5.pinned (stat fr5) (T.obj _ _ st5);refine Gm hp (thn (hg _ s5 σ3 H5 x u _ I5' r5 (step x H5 y5)) λ_ s6 ⟨σ6,H6,I6,q6⟩=>?_);refine Gm hp (thn (hb _ s6 σ6 H6 _ I6 q6) λf s7 q7=>?_);have again:∀{σ7:St}{H7:Hp},Inv X (pins++aD5 fp s5.heap) σ7 H7 s7->N σ7 H7->∃m,m<n/\∃i σ' H',Inv X pins σ' H' s7/\tn i s7.heap/\(∀b∈fp,H' b=none)/\W i m σ' H':=λ{σ7 H7} I7 n7=>by
   obtain⟨m',hm,w7⟩:=hN σ7 H7 n7;refine⟨m',hm,i+1,σ7,H7,I7.unpinned,T.keep _ _ _ st5 λb hb o e=>(I7.pin (b,o) (Bc _ (Bc _ (jP hb e)))).1,λb hb=>?_,w7⟩;obtain⟨o,e,d⟩:=T.obj _ _ st5 b hb;exact(I7.pin (b,o) (Bc _ (Bc _ (jP hb e)))).2.1
  cases f with
  |next=>obtain⟨σ7,H7,I7,n7⟩:=q7;exact again I7 n7
  |cont=>obtain⟨σ7,H7,I7,n7⟩:=q7;exact again I7 n7
  |brk=>obtain⟨σ7,H7,I7,q7⟩:=q7;exact⟨σ7,H7,I7.unpinned,q7⟩
  |ret v=>obtain⟨x7,σ7,H7,I7,r7,q7⟩:=q7;exact⟨x7,σ7,H7,I7.unpinned,r7,q7⟩
abbrev R2:=V->V->Hp->VK->Prop
def OpR(X:Cx)(f:Value->Value->Sem Value)(r:R2):Prop:=
 ∀(pins:#v[9])(s:Shared)(σ:St)(H:Hp)(x y:V)(v u:Value)(Q:VK),#v[5]->RelV x v->RelV y u->r x y H Q->
  #v[6] (f v u) (EP X pins σ Q) X.xe s
def UnR(X:Cx)(f:Value->Sem Value)(r:V->Hp->VK->Prop):Prop:=
 ∀(pins:#v[9])(s:Shared)(σ:St)(H:Hp)(x:V)(v:Value)(Q:VK),#v[5]->RelV x v->r x H Q->
  #v[6] (f v) (EP X pins σ Q) X.xe s
def dY(X:Cx)(f:Value)(r:List V->Hp->VK->Prop):Prop:=
 ∀(pins:#v[9])(s:Shared)(σ:St)(H:Hp)(xs:List V)(us:List Value)(Q:VK),#v[5]->Vals xs us->r xs H Q->
  #v[6] (call f us) (EP X pins σ Q) X.xe s
def tOp(r:R2)(ta tb:TE):TE:=λσ H Q=>ta σ H λx H1=>tb σ H1 λy H2=>r x y H2 Q
def tUn(r:V->Hp->VK->Prop)(ta:TE):TE:=λσ H Q=>ta σ H λx H1=>r x H1 Q
inductive IrI(C:Int->Int->Prop)(g:Int->Int->V)(x:V)(y:V)(H:Hp)(Q:VK):Prop
 |mk (i j:_) (q0_:x=.int i) (q1_:y=.int j) (q2_:C i j) (q3_:Q (g i j) H):IrI C g x y H Q
def rI(C:Int->Int->Prop)(g:Int->Int->V):R2:=λx y H Q=>IrI C g x y H Q
def rI0(g:Int->Int->V):R2:=λx y H Q=>∃i j,x=.int i/\y=.int j/\Q (g i j) H
inductive IrU(g:Int->V)(x:V)(H:Hp)(Q:VK):Prop
 |mk (i:_) (q0_:x=.int i) (q1_:Q (g i) H):IrU g x H Q
def rU(g:Int->V):V->Hp->VK->Prop:=λx H Q=>IrU g x H Q
section
variable {X:Cx}{a b c:Expr}{ta tb tc:TE}{pos:Pos}
def aWe(ha:PE X a ta)(hb:PE X b tb){pins:#v[9]}{s:Shared}{σ:St}{H:Hp}{R:V->V->Hp->Prop}(I:#v[5])
  (h:ta σ H λx H1=>tb σ H1 λy H2=>R x y H2) {f:Value->Value->Sem Value}
  (hf:∀v u s2 x y H2,Inv X pins σ H2 s2->RelV x v->RelV y u->R x y H2->#v[6] (f v u) Q X.xe s2):
  #v[6] (eval a X.env) (λv s₁=>#v[6] (eval b X.env) (λu s₂=>#v[6] (f v u) Q X.xe s₂) X.xe s₁) X.xe s:=by
 refine thn (ha pins s σ H _ I h) λv s1 ⟨x,H1,I1,r1,q1⟩=>?_;refine thn (hb pins s1 σ H1 _ I1 q1) λu s2 ⟨y,H2,I2,r2,q2⟩=>?_;exact hf v u s2 x y H2 I2 r1 r2 q2
def jJ{op:Operator}{r:R2}(ho:OpR X (binaryOp op) r)(ha:PE X a ta)(hb:PE X b tb):PE X (.BinOp a op b pos) (tOp r ta tb):=by
 intro pins s σ H Q I h;exact wpAny_BinOp (aWe ha hb I h λv u s2 x y H2 I2 rx ry q=>ho pins s2 σ H2 x y v u Q I2 rx ry q)
def aY1{op:UnaryOp}{r:V->Hp->VK->Prop}(ho:UnR X (unaryOp op) r)(ha:PE X a ta):PE X (.UnaryOp op a pos) (tUn r ta):=by
 intro pins s σ H Q I h;exact UnaryOp_ (thn (ha pins s σ H _ I h) λv s1 ⟨x,H1,I1,r1,q1⟩=>ho pins s1 σ H1 x v Q I1 r1 q1)
def opI{f:Value->Value->Sem Value}{C:Int->Int->Prop}
  (rule:∀(i j:Int)(t u:Tok)(s:Shared)(Q:#v[7])(E:#v[7]),C i j->Q (.int (g i j) s.toks) {s with toks:=s.toks+1}->#v[6] (f (.int i t) (.int j u)) Q E s):
  OpR X f (rI C λi j=> .int (g i j)):=by
 intro pins s σ H x y v u Q I rx ry h;obtain⟨i,j,rfl,rfl,hc,q⟩:=h;obtain⟨t,rfl⟩:=rx;obtain⟨t',rfl⟩:=ry;exact rule i j t t' s _ _ hc ⟨.int (g i j),H,I.tok _,⟨_,rfl⟩,q⟩
def aY6{f:Value->Value->Sem Value}
  (rule:∀(i j:Int)(t u:Tok)(s:Shared)(Q:#v[7])(E:#v[7]),Q (.int (g i j) s.toks) {s with toks:=s.toks+1}->#v[6] (f (.int i t) (.int j u)) Q E s):
  OpR X f (rI0 λi j=> .int (g i j)):=by
 intro pins s σ H x y v u Q I rx ry h;obtain⟨i,j,rfl,rfl,q⟩:=h;obtain⟨t,rfl⟩:=rx;obtain⟨t',rfl⟩:=ry;exact rule i j t t' s _ _ ⟨.int (g i j),H,I.tok _,⟨_,rfl⟩,q⟩
def aPw{f:Value->Value->Sem Value}{g:Int->Int->Bool}
  (rule:∀(i j:Int)(t u:Tok)(s:Shared)(Q:#v[7])(E:#v[7]),Q (.bool (g i j)) s->#v[6] (f (.int i t) (.int j u)) Q E s):
  OpR X f (rI0 λi j=> .bl (g i j)):=by
 intro pins s σ H x y v u Q I rx ry h;obtain⟨i,j,rfl,rfl,q⟩:=h;obtain⟨t,rfl⟩:=rx;obtain⟨t',rfl⟩:=ry;exact rule i j t t' s _ _ ⟨.bl (g i j),H,I,rfl,q⟩
def aZe(i j:Int):Prop:=0<=j/\j<=1000000/\i.natAbs<2 ^ 64
def aU5(i j:Int):Prop:=(-(2 ^ 64)<i/\i<2 ^ 64)∨(-(2 ^ 64)<j/\j<2 ^ 64)
def aU5.ok{i j:Int}(h:aU5 i j):IntMulOk i j:=by
 rcases h with ⟨h1,h2⟩|⟨h1,h2⟩
 ·exact .of_left (intBits_le_64 h1 h2)
 ·exact .of_right (intBits_le_64 h1 h2)
def wX:OpR X (binaryOp .Add) (rI0 λi j=> .int (i+j)):=aY6 λ_ _ _ _ _ _ _ q=>add_int q
def lB:OpR X (binaryOp .Sub) (rI0 λi j=> .int (i-j)):=aY6 λ_ _ _ _ _ _ _ q=>sub_int q
def lF:OpR X (binaryOp .Mult) (rI aU5 λi j=> .int (i*j)):=opI λ_ _ _ _ _ _ _ hc q=>mul_int q hc.ok
def mH:OpR X (binaryOp .Mod) (rI (λ_ j=>0<j) λi j=> .int (i % j)):=opI λi j _ _ _ _ _ hc q=>by
 have h1:(0:Int)<j:=hc;exact mod_int' ∅ (by rw[Int.fmod_eq_emod_of_nonneg i ∅];exact q)
def aVz:OpR X (binaryOp .Pow) (rI aZe λi j=> .int (i ^ j.toNat)):=opI λ_ _ _ _ _ _ _ hc q=>pow_int_small hc.1 hc.2.1 hc.2.2 q
def unI{f:Value->Sem Value}{g:Int->Int}
  (rule:∀(i:Int)(t:Tok)(s:Shared)(Q:#v[7])(E:#v[7]),Q (.int (g i) s.toks) {s with toks:=s.toks+1}->#v[6] (f (.int i t)) Q E s):
  UnR X f (rU λi=> .int (g i)):=by
 intro pins s σ H x v Q I rx h;obtain⟨i,rfl,q⟩:=h;obtain⟨t,rfl⟩:=rx;exact rule i t s _ _ ⟨.int (g i),H,I.tok _,⟨_,rfl⟩,q⟩
def aVs:UnR X (unaryOp .USub) (rU λi=> .int (-i)):=unI λ_ _ _ _ _ q=>neg_int q
end
section
variable {X:Cx}{a b c:Expr}{ta tb tc:TE}{pos:Pos}
def aCc:OpR X (compareOp .Lt) (rI0 λi j=> .bl (decide (i<j))):=aPw λ_ _ _ _ _ _ _ q=>lt_int q
def uH:OpR X (compareOp .LtE) (rI0 λi j=> .bl (decide (i<=j))):=aPw λ_ _ _ _ _ _ _ q=>le_int q
def uI:OpR X (compareOp .Gt) (rI0 λi j=> .bl (decide (j<i))):=aPw λ_ _ _ _ _ _ _ q=>gt_int q
def aY2:OpR X (compareOp .GtE) (rI0 λi j=> .bl (decide (j<=i))):=aPw λ_ _ _ _ _ _ _ q=>ge_int q
def OpR.or{f:Value->Value->Sem Value}{r r':R2}(h:OpR X f r)(h':OpR X f r'):OpR X f (λx y H Q=>r x y H Q∨r' x y H Q):=by
 intro pins s σ H x y v u Q I rx ry q;rcases q with q|q
 ·exact h pins s σ H x y v u Q I rx ry q
 ·exact h' pins s σ H x y v u Q I rx ry q
def aA9(b:Expr){op:CmpOp}(h:op≠.In:=by decide)(h2:op≠.NotIn:=by decide):behindInMarks op b=false:=by
 have e1:(op==CmpOp.In)=false:=by cases op<;>first|rfl|exact absurd rfl h
 have e2:(op==Vj)=false:=by cases op<;>first|rfl|exact absurd rfl h2
 cases b<;>simp[behindInMarks,e1,e2]
def aIg{op:CmpOp}{r:R2}(ho:OpR X (compareOp op) r)(ha:PE X a ta)(hb:PE X b tb)(hm:behindInMarks op b=false):PE X (.Compare a [op] [b] pos) (tOp r ta tb):=by
 intro pins s σ H Q I h;exact wpAny_Compare1 (aWe ha hb I h λv u s2 x y H2 I2 rx ry q=>ho pins s2 σ H2 x y v u Q I2 rx ry q) hm
def aOc(t:TE):TT:=λσ H Q=>t σ H λx H1=>rBl x H1 Q
def aD8{op:CmpOp}{r:R2}(ho:OpR X (compareOp op) r)(ha:PE X a ta)(hb:PE X b tb)(hm:behindInMarks op b=false):PT X (.Compare a [op] [b] pos) (aOc (tOp r ta tb)):=by
 intro pins s σ H Q I h;refine Rq (thn (ha pins s σ H _ I h) λv s1 ⟨x,H1,I1,r1,q1⟩=>thn (hb pins s1 σ H1 _ I1 q1) λu s2 ⟨y,H2,I2,r2,q2⟩=>
  thn (ho pins s2 σ H2 x y v u _ I2 r1 r2 q2) λc s3 ⟨z,H3,I3,r3,k,e,q3⟩=>?_) hm
 subst e;cases r3;exact Cm ⟨H3,I3,q3⟩
def aH7(r r':R2)(ta tb tc:TE):TE:=λσ H Q=>ta σ H λx H1=>tb σ H1 λy H2=>r x y H2 λz H3=>∃k,z=.bl k/\
 (if k=true then tc σ H3 λw' H4=>r' y w' H4 Q else Q (.bl false) H3)
def aOu{op op':CmpOp}{r r':R2}(ho:OpR X (compareOp op) r)(ho':OpR X (compareOp op') r')(ha:PE X a ta)(hb:PE X b tb)(hc:PE X c tc)
  (hm:lastMarks [op,op'] [b,c]=false:=by with_unfolding_all rfl):PE X (.Compare a [op,op'] [b,c] pos) (aH7 r r' ta tb tc):=by
 intro pins s σ H Q I h;refine Compare_chain (thn (ha pins s σ H _ I h) λv s1 ⟨x,H1,I1,r1,q1⟩=>chain_link (thn (hb pins s1 σ H1 _ I1 q1) λu s2 ⟨y,H2,I2,r2,q2⟩=>
  thn (ho pins s2 σ H2 x y v u _ I2 r1 r2 q2) λd s3 ⟨z,H3,I3,r3,k,e,q3⟩=>?_)) hm
 subst e;cases r3;refine Cm ?_;cases k with
 |false=>exact ite_ff ⟨.bl false,H3,I3,rfl,q3⟩
 |true=>exact ite_tt (chain_last (thn (hc pins s3 σ H3 _ I3 q3) λw' s4 ⟨z',H4,I4,r4,q4⟩=>ho' pins s4 σ H4 y z' u w' Q I4 r2 r4 q4))
def aMu{op op':CmpOp}{r r':R2}(ho:OpR X (compareOp op) r)(ho':OpR X (compareOp op') r')(ha:PE X a ta)(hb:PE X b tb)(hc:PE X c tc)
  (hm:lastMarks [op,op'] [b,c]=false:=by with_unfolding_all rfl):PT X (.Compare a [op,op'] [b,c] pos) (aOc (aH7 r r' ta tb tc)):=by
 intro pins s σ H Q I h;refine isTrue_chain (thn (ha pins s σ H _ I h) λv s1 ⟨x,H1,I1,r1,q1⟩=>test_link (thn (hb pins s1 σ H1 _ I1 q1) λu s2 ⟨y,H2,I2,r2,q2⟩=>
  thn (ho pins s2 σ H2 x y v u _ I2 r1 r2 q2) λd s3 ⟨z,H3,I3,r3,k,e,q3⟩=>?_)) hm
 subst e;cases r3;refine Cm ?_;cases k with
 |false=>
  obtain⟨k',e',q'⟩:=q3;cases e';exact ite_ff ⟨H3,I3,q'⟩
 |true=>
  refine ite_tt (test_last (thn (hc pins s3 σ H3 _ I3 q3) λw' s4 ⟨z',H4,I4,r4,q4⟩=>thn (ho' pins s4 σ H4 y z' u w' _ I4 r2 r4 q4) λd' s5 ⟨z2,H5,I5,r5,k2,e2,q5⟩=>?_));subst e2;cases r5;exact Cm ⟨H5,I5,q5⟩
def aAe:(sizeLine:Nat)<2 ^ 63:=by rw[Co];decide
def aHw:OpR X (binaryOp .Add) (λx y H Q=>∃i j,x=.str i/\y=.str j/\i.length+j.length<=sizeLine/\Q (.str (i++j)) H):=by
 intro pins s σ H x y v u Q I rx ry h;obtain⟨i,j,rfl,rfl,hz,q⟩:=h;obtain⟨t,rfl⟩:=rx;obtain⟨t',rfl⟩:=ry;exact add_str (λt' tk=>⟨.str (i++j),H,I.tok _,⟨_,rfl⟩,q⟩) hz
def vals1{x:V}(r:Vals [x] us):∃u,us=[u]/\RelV x u:=by
 cases r with
 |cons r1 r2=>cases r2;exact⟨_,rfl,r1⟩
def vals2{x y:V}(r:Vals [x,y] us):∃u w',us=[u,w']/\RelV x u/\RelV y w':=by
 cases r with
 |cons r1 r2=>
  cases r2 with
  |cons r3 r4=>cases r4;exact⟨_,_,rfl,r1,r3⟩
def aJo(hc:X.calm=true):dY X (.builtin "min") (λxs H Q=>∃i j,xs=[.int i,.int j]/\Q (.int (if j<i then j else i)) H):=by
 intro pins s σ H xs us Q I r h;obtain⟨i,j,rfl,q⟩:=h;obtain⟨u,w',rfl,⟨t,rfl⟩,⟨t',rfl⟩⟩:=vals2 r;refine min_two_ints (I.ok.hd hc) λh' tk k=>⟨_,H,I.kept k,?_,q⟩;by_cases hj:j<i
 ·rw[if_pos hj,if_pos hj];exact⟨_,rfl⟩
 ·rw[if_neg hj,if_neg hj];exact⟨_,rfl⟩
def aK3:dY X (.type "int") (λxs H Q=>(∃i,xs=[.int i]/\Q (.int i) H)∨∃k,xs=[.bl k]/\Q (.int (if k then 1 else 0)) H):=by
 intro pins s σ H xs us Q I r h;rcases h with ⟨i,rfl,q⟩|⟨k,rfl,q⟩
 ·obtain⟨u,rfl,t,rfl⟩:=vals1 r;exact call_int_int ⟨.int i,H,I,⟨_,rfl⟩,q⟩
 ·obtain⟨u,rfl,r1⟩:=vals1 r;cases r1;exact call_int_bool ⟨.int (if k then 1 else 0),H,I.tok _,⟨_,rfl⟩,q⟩
end
structure aG4(h:Heap)(x dx C:Addr)(mA:Str->#v[14]):Prop where
 obj:h.get? x=some (Fb C dx)
 ns:h.Ns1 dx mA
 ne:dx≠x
def aJh{h:Heap}{dx:Addr}(n:h.Ns1 dx mA):∃od,h.get? dx=some od/\∀name,Km name od=some (mA name):=by
 obtain⟨o,es,ep,ho,hd,hk,_,hm⟩:=n;refine⟨o,ho,λname=>?_⟩;have e:=hm name;unfold nsFind findBy at e;rw[<-Array.find?_toList]at e;unfold Km;rw[hd];dsimp only;split
 ·rename_i y q;rw[q]at e;exact congrArg some e
 ·rename_i q;rw[q]at e;have a:es.toList.any (·.refKey)=false:=by
   rw[List.any_eq_false];intro y hy;obtain⟨z,t,hkey⟩:=hk y (Array.mem_toList_iff.mp hy);simp[DictEntry.refKey,hkey]
  have a':¬es.toList.any (·.refKey)=true:=by rw[a];exact Ao
  rw[if_neg a'];exact congrArg some e
def aG4.look{h:Heap}{x dx C:Addr}(I:aG4 h x dx C mA):∃od,PySem.W.InstAt h x (Fb C dx) C (some od)/\∀name,Km name od=some (mA name):=
 let⟨od,ho,hl⟩:=aJh I.ns
 ⟨od,⟨I.obj,rfl,rfl,ho⟩,hl⟩
variable {prog:Program}{A:Around}{E:#v[7]}{K:Ae}{x dx C f:Addr}{mA:Str->#v[14]}{name:Str}{v:Value}
def aRx{expr:Bool}(X:K.In s.heap)(I:aG4 s.heap x dx C mA)(hg:Jt K C name=true)(hh:Lu K C=true)
  (ha:Dt K (.ref C) name=some none) (hv:mA name=some v) (hv':Qn v=true) (h:Q v {s with toks:=s.toks+1}):
  #v[4] (getAttr (.ref x) name expr) Q E s:=by
 obtain⟨od,J,hl⟩:=I.look;exact PySem.W.get_value X J (Kv hg).1 (PySem.W.findObj_own hh ha rfl (by rw[hl,hv])) hv' h
def aOt{pl:Sem Bool}{Q:Value×List Value->Shared->Prop}(X:K.In s.heap)(I:aG4 s.heap x dx C mA)(hg:Jt K C name=true)
  (hf:Dt K (.ref C) name=some (some (.ref f))) (ht:Om K (.ref f)=true) (hv:mA name=none) (h:Q (.ref f,[.ref x]) s):
  #v[4] (getMethod (.ref x) name pl) Q E s:=by
 obtain⟨od,J,hl⟩:=I.look;exact PySem.W.method_fn X J (Kv hg).1 (Kv hg).2 hf (beq_iff_eq.mp ht) (by show(Km name od).map (·.isSome)=some false;rw[hl,hv];rfl) h
def aPq{ns:List Str}{Q:Unit->Shared->Prop}(X:K.In s.heap)(I:aG4 s.heap x dx C mA)
  (hs:Dt K (.ref C) "__setattr__"=some (some (.builtin "object.__setattr__"))) (hp:Pz K C=true) (ht:Mf K C name=some none) (hh:Lu K C=true)
  (hw:Pf mA ns) (hsz:ns.length<=sizeLine)
  (h:∀h',aG4 h' x dx C (λy=>if y=name then some v else mA y)->Cw dx s.heap h'->Q () {s with heap:=h',toks:=s.toks+2}):
  #v[4] (setAttr (.ref x) name v) Q E s:=by
 obtain⟨od,J,hl⟩:=I.look;refine PySem.W.set_plain X J hs (PySem.W.osa_open (s:={s with toks:=s.toks+1}) (r:=none) X J hp ht λb=>?_);obtain⟨cd,hc,hd'⟩:=PySem.W.any_some hh;have hx:s.heap.get? x=some ⟨.ref C,some dx,.plain, #[]⟩:=I.obj;refine Aa (Ac (Aa (Aa (wpAny_loadPart hx (Aa (Vd (s:={s with toks:=s.toks+1}) (PySem.W.looks_clsIn X hc) ?_))))));rw[hd'];refine Ac (a:=some dx) (Aa (Ac (Aa ?_)));refine wpAny_nsSet1 (s:={s with toks:=s.toks+1}) I.ns λh' hn2 hs2=>?_;obtain⟨oD,esD,epD,hoD,hdD,hcD⟩:=hn2.count (Vw name v hw);refine Aa (wpAny_lookBehind hoD (by rw[hdD];exact pastItsLine_dict (Ba hcD (by rw[Am];lia))) ?_);exact Ac (h _ ⟨(hs2.2 _ (Cg I.ne)).trans I.obj,hn2,I.ne⟩ hs2)
def aNl{R:Result->Shared->Prop}{vs:List Value}(X:K.In s.heap)(hm:Mg K C=true)
  (hi:Dt K (.ref C) "__init__"=some (some (.ref f))) (hf:PySem.W.typeIn K (.ref f)=some (.type "function"))
  (h:codeAny (model prog w) (A.under (.builtin "type.__call__" ⟨.ref C::vs,kw⟩)) (.call (.ref f) ⟨.ref (#v[0]+1)::vs,kw⟩) (PySem.W.InitBack (#v[0]+1) R)
   {s with heap:=(s.heap.push Dy).push (Fb C #v[0])}):
  codeAny (model prog w) A (.call (.ref C) ⟨vs,kw⟩) R s:=by
 obtain⟨hh,g,d,t,os⟩:=s;exact PySem.W.make_core (PySem.W.makes_of X hm) (PySem.W.looks_findIn X hi) (λself=>PySem.W.bind_fn X self hf) (.inl rfl) h
def jW(f:Str)(v:V):List (Str×V)->List (Str×V)
 | []=>[(f,v)]
 |(g,x)::r=>if g=f then(g,v)::r else(g,x)::jW f v r
theorem yE(f g:Str)(v:V):∀fs:List (Str×V),(jW f v fs).lookup g=if g=f then some v else fs.lookup g
 | []=>by
  show Fm g [(f,v)]=_;by_cases h:g=f
  ·have hb:(g==f)=true:=beq_iff_eq.mpr h;simp only[Fm,hb,if_pos h]
  ·have hb:(g==f)=false:=beq_eq_false_iff_ne.mpr h;simp only[Fm,hb,if_neg h]
 |(k,x)::r=>by
  have ih:=yE f g v r;rw[show jW f v ((k,x)::r)=(if k=f then(k,v)::r else(k,x)::jW f v r)from rfl];by_cases hk:k=f
  ·rw[if_pos hk];by_cases h:g=k
   ·have hb:(g==k)=true:=beq_iff_eq.mpr h;simp only[Fm,hb,if_pos (h.trans hk)]
   ·have hb:(g==k)=false:=beq_eq_false_iff_ne.mpr h;simp only[Fm,hb,if_neg (λe:g=f=>h (e.trans hk.symm))]
  ·rw[if_neg hk];by_cases h:g=k
   ·have hb:(g==k)=true:=beq_iff_eq.mpr h;simp only[Fm,hb,if_neg (λe:g=f=>hk (h.symm.trans e))]
   ·have hb:(g==k)=false:=beq_eq_false_iff_ne.mpr h;simp only[Fm,hb];exact ih
theorem xF(f:Str)(v:V):∀fs:List (Str×V),f∈(jW f v fs).map (·.1)/\∀g,g∈fs.map (·.1)->g∈(jW f v fs).map (·.1)
 | []=>⟨by simp[jW],λg h=>by simp at h⟩
 |(k,x)::r=>by
  obtain⟨i1,i2⟩:=xF f v r;rw[show jW f v ((k,x)::r)=(if k=f then(k,v)::r else(k,x)::jW f v r)from rfl];by_cases hk:k=f
  ·rw[if_pos hk];subst hk;exact⟨by simp,λg h=>by simpa using h⟩
  ·rw[if_neg hk];refine⟨?_,λg h=>?_⟩
   ·rw[Bo];exact Af _ i1
   ·rw[Bo]at h⊢;rcases List.mem_cons.mp h with e|e
    ·exact List.mem_cons.mpr (.inl e)
    ·exact Af _ (i2 g e)
theorem yH(f:Str)(v:V):∀fs:List (Str×V),(jW f v fs).length<=fs.length+1
 | []=>by simp[jW]
 |(k,x)::r=>by
  have ih:=yH f v r;rw[show jW f v ((k,x)::r)=(if k=f then(k,v)::r else(k,x)::jW f v r)from rfl];by_cases hk:k=f
  ·rw[if_pos hk,Am,Am];lia
  ·rw[if_neg hk,Am,Am];lia
def uE.some_of{v:V}{o:#v[14]}(r:uE (some v) o):∃u,o=some u/\RelV v u:=by
 cases o with
 |none=>exact(show False from r).elim
 |some u=>exact⟨u,rfl,r⟩
def uE.none_of{o:#v[14]}(r:uE none o):o=none:=by
 cases o with
 |none=>rfl
 |some u=>exact(show False from r).elim
def aJ9{v:V}(r:RelV v u):Qn u=true:=by
 cases v with
 |non=>cases (show u=Bq from r);rfl
 |bl b=>cases (show u=Gx b from r);rfl
 |int i=>obtain⟨t,e⟩:=(show∃t,u=Dp i t from r);cases e;rfl
 |str x=>obtain⟨t,e⟩:=(show∃t,u=Ms x t from r);cases e;rfl
 |byt b=>obtain⟨t,e⟩:=(show∃t,u=Vb b t from r);cases e;rfl
 |flt b=>obtain⟨t,e⟩:=(show∃t,u=Px b t from r);cases e;rfl
 |ref a=>cases (show u=Aj a from r);rfl
 |ty n=>cases (show u=Jo n from r);rfl
variable {fs fs':List (Str×V)}
def zB(hok:HOk P w H h)(e:H a=some (.ins C dx fs)):∃mA,aG4 h a dx C mA/\(∀f,uE (fs.lookup f) (mA f))/\Pf mA (fs.map (·.1))/\fs.length<=1000/\H dx=some (.own a):=by
 obtain⟨d,z,ne,ob,mA,n,r,q⟩:=(show bR P w H h a (.ins C dx fs)from hok a _ e);exact⟨mA,⟨ob,n,ne⟩,r,q,z,d⟩
structure Cls(K:Ae)(C:Addr):Prop where
 pg:Jt K C Str.empty=true
 hd:Lu K C=true
 po:Pz K C=true
 sa:Dt K (.ref C) "__setattr__"=some (some (.builtin "object.__setattr__"))
def Cls.get{K:Ae}{C:Addr}(c:Cls K C)(f:Str):Jt K C f=true:=c.pg
def mG(K:Ae)(C:Addr)(f:Str):Prop:=Dt K (.ref C) f=some none
def mG.taker{K:Ae}{C:Addr}{f:Str}(n:mG K C f):Mf K C f=some none:=by
 unfold Mf;rw[show Dt K (.ref C) f=some none from n];rfl
structure Meth(K:Ae)(C:Addr)(m:Str)(f:Addr):Prop where
 at_:Dt K (.ref C) m=some (some (.ref f))
 fn:Om K (.ref f)=true
 kp:Gj K (.ref f)=true
section
variable {X:Cx}{pins:#v[9]}{σ:St}{H:Hp}{s:Shared}{a C dx:Addr}{fs:List (Str×V)}{f:Str}{v:V}{A:Around}{E:#v[7]}
def aHx{b:Bool}(I:#v[5])(e:H a=some (.ins C dx fs))(c:Cls X.K C)(n:mG X.K C f)(l:fs.lookup f=some v)
  (h:∀u s',Inv X pins σ H s'->RelV v u->Q u s'):wpAny (model X.prog X.w) A (getAttr (.ref a) f b) Q E s:=by
 obtain⟨mA,O,r,_,_,_⟩:=zB I.hok e;obtain⟨u,hu,ru⟩:=uE.some_of (v:=v) (o:=mA f) (by rw[<-l];exact r f);exact aRx I.kIn O (c.get f) c.hd n hu (aJ9 ru) (h u _ (I.tok _) ru)
def aA0{m:Str}{g:Addr}{pl:Sem Bool}{Q:Value×List Value->Shared->Prop}(I:#v[5])(e:H a=some (.ins C dx fs))(c:Cls X.K C)(k:Meth X.K C m g)(l:fs.lookup m=none)
  (h:Q (.ref g,[.ref a]) s):wpAny (model X.prog X.w) A (getMethod (.ref a) m pl) Q E s:=by
 obtain⟨mA,O,r,_,_,_⟩:=zB I.hok e;have hn:mA m=none:=uE.none_of (by rw[<-l];exact r m);exact aOt I.kIn O (c.get m) k.at_ k.fn hn h
def aHj{y:V}{Q:Unit->Shared->Prop}(I:#v[5])(e:H a=some (.ins C dx fs))(c:Cls X.K C)(n:mG X.K C f)(hl:fs.length<1000)(ry:RelV y u)
  (h:∀s',Inv X pins σ (upd H a (.ins C dx (jW f y fs))) s'->Q () s'):wpAny (model X.prog X.w) A (setAttr (.ref a) f u) Q E s:=by
 obtain⟨mA,O,r,wi,_,ho⟩:=zB I.hok e;have hz:(fs.map (·.1)).length<=sizeLine:=by rw[Ab,Co];lia
 refine aPq I.kIn O c.sa c.po n.taker c.hd wi hz λh' O' sb=>h _ ?_;have hd:∃o,h'.get? dx=some o:=let⟨o,_,_,e',_⟩:=O'.ns;⟨o,e'⟩;refine I.write (x:=a) (e:=dx) (by rw[e];exact Fe) (.inr ho) (λb q hb z=>(sb.2 b hb).trans z) hd ?_;refine⟨by rw[aO O.ne];exact ho,?_,O.ne,O'.obj,_,O'.ns,λg=>?_,λg hg=>?_⟩
 ·have:=yH f y fs;lia
 ·show uE ((jW f y fs).lookup g) (if g=f then some u else mA g);rw[yE];by_cases q:g=f
  ·rw[if_pos q,if_pos q];exact ry
  ·rw[if_neg q,if_neg q];exact r g
 ·by_cases q:g=f
  ·rw[q];exact(xF f y fs).1
  ·refine(xF f y fs).2 g (wi g λz=>hg ?_);show(if g=f then some u else mA g)=none;rw[if_neg q];exact z
def Inv.made(I:#v[5]):Inv X pins σ (upd (upd H #v[0] (.own (#v[0]+1))) (#v[0]+1) (.ins C #v[0] []))
  {s with heap:=(s.heap.push Dy).push (Fb C #v[0])}:=by
 have e1:(s.heap.push Dy).get? #v[0]=some Dy:=Al s.heap rfl;have e2:((s.heap.push Dy).push (Fb C #v[0])).get? (#v[0]+1)=some (Fb C #v[0]):=by
  have:=Al (s.heap.push Dy) (o:=Fb C #v[0]) rfl
  rwa [Cc]at this
 have e3:(s.heap.push Dy).Ns #v[0] (λ_=>none):=⟨Dy, #[],_,e1,rfl,(λe he=>absurd he (by simp)),λ_=>rfl⟩;have I1:=I.laid (a:=#v[0]) (o:=.own (#v[0]+1)) (h':=s.heap.push Dy) (t':=s.toks) (λb u q=>Ad _ q) (Ak _) ⟨_,e1⟩;refine I1.laid (a:=#v[0]+1) (o:=.ins C #v[0] []) (t':=s.toks) (λb u q=>Ad _ q) (Qf (Cc _ _)) ?_;have ne:#v[0]≠#v[0]+1:=Ar (Ew _);refine⟨by rw[aO ne,aM],Bd _,ne,e2,λ_=>none,(Heap.Ns1.of_empty e3).at λo q=>Ad _ q,λ_=>Fe,λy hy=>absurd rfl hy⟩
def aRh{prog:Program}{w:World}{env:Env}{e:Expr}{f:Str}{pos:Pos}{s:Shared}(hb:attributeBase e f env (eval e env)=eval e env)
  (h:#v[4] (eval e env) (λo s₁=>#v[4] (getAttr o f true) Q E s₁) E s):#v[4] (eval (.Attribute e f pos) env) Q E s:=
 Attribute_any_ h (by rw[arm_eval_Attribute,hb])
end
def aZs(K:Ae)(ta:TE)(f:Str):TE:=λσ H Q=>ta σ H λx H1=>∃a C dx fs v,x=.ref a/\H1 a=some (.ins C dx fs)/\Cls K C/\mG K C f/\fs.lookup f=some v/\Q v H1
def aZd(K:Ae)(ta tv:TE)(f:Str):TS:=λD σ H=>tv σ H λy H1=>ta σ H1 λx H2=>∃a C dx fs,x=.ref a/\H2 a=some (.ins C dx fs)/\Cls K C/\mG K C f/\fs.length<1000/\
 D.nx σ (upd H2 a (.ins C dx (jW f y fs)))
section
variable {X:Cx}{o e value:Expr}{f:Str}{pos pos' tpos:Pos}{ta tv:TE}
def aVr(he:PE X e ta)(hb:attributeBase e f X.env (eval e X.env)=eval e X.env):PE X (.Attribute e f pos) (aZs X.K ta f):=by
 intro pins s σ H Q I h;refine aRh hb (thn (he pins s σ H _ I h) λu s1 ⟨x,H1,I1,rx,a,C,dx,fs,v,ex,ea,c,n,l,q⟩=>?_);subst ex;obtain rfl:u=Aj a:=rx;exact aHx I1 ea c n l λu' s2 I2 ru=>⟨v,H1,I2,ru,q⟩
def jL(ha:PE X o ta)(hv:PE X value tv)(hs:swapsWith value (some (.Attribute o f pos')) pos.line X.env=pure false):PS X (.Assign [.Attribute o f pos'] value pos) (aZd X.K ta tv f):=by
 intro pins s σ H D I h;refine plainObj_wpAny_Assign_Attribute (thn (hv pins s σ H _ I h) λu s1 ⟨y,H1,I1,ry,q⟩=>thn (ha pins s1 σ H1 _ I1 q) λov s2 ⟨x,H2,I2,rx,a,C,dx,fs,ex,ea,c,n,l,q2⟩=>?_) hs;subst ex;obtain rfl:ov=Aj a:=rx;exact aHj I2 ea c n l ry λs3 I3=>⟨σ,_,I3,q2⟩
end
section
variable {X:Cx}{pins:#v[9]}{σ:St}{H:Hp}{s:Shared}{A:Around}{E:#v[7]}{Q:#v[7]}{c:Value}{b:Bool}
inductive vJ(K:Ae)(H:Hp):V->Value->Prop where
 |non:vJ K H .non (.type "NoneType")
 |bl (x:Bool):vJ K H (.bl x) (.type "bool")
 |int (i:Int):vJ K H (.int i) (.type "int")
 |str (x:Str):vJ K H (.str x) (.type "str")
 |flt (x:UInt64):vJ K H (.flt x) (.type "float")
 |lst {a:Addr} {xs:List V} (e:H a=some (.lst xs)):vJ K H (.ref a) (.type "list")
 |frz {a:Addr} {o:Obj} {xs:List V} (e:H a=some (.frz o (.lst xs))):vJ K H (.ref a) (.type "list")
 |tup {a:Addr} {xs:List V} (e:H a=some (.tup xs)):vJ K H (.ref a) (.type "tuple")
 |dK {a:Addr} {kvs:List (Key×V)} (e:H a=some (.dK kvs)):vJ K H (.ref a) (.type "dict")
 |dT {a:Addr} {kvs:List (List Key×V)} (e:H a=some (.dT kvs)):vJ K H (.ref a) (.type "dict")
 |ins {a C dx:Addr} {fs:List (Str×V)} (e:H a=some (.ins C dx fs)) (cl:Cls K C) (ha:Dt K (.ref C) "__class__"=some (some (.builtin "object.__class__")))
   (hn:PySem.W.specialIn K (.builtin "object.__class__") "__get__"=some (some (.builtin "getset_descriptor.__get__"))) (htk:PySem.W.takesIn K (.builtin "object.__class__")=some true)
   (hm:PySem.W.mroIn K C (.type "object")=some true):vJ K H (.ref a) (.ref C)
def aJk{x:V}{u t:Value}(I:#v[5])(rx:RelV x u)(ty:vJ X.K H x t)(e:Mu X.K t c=some b)(h:∀tk,Q (.bool b) {s with toks:=tk}):
  wpAny (model X.prog X.w) A (call (.builtin "isinstance") [u,c]) Q E s:=by
 cases ty with
 |non=>cases (show u=Bq from rx);exact Du PySem.W.kitx_none I.kIn Fe e (λz=>nomatch z) h
 |bl y=>cases (show u=Gx y from rx);exact Du PySem.W.kitx_bool I.kIn Fe e (λz=>nomatch z) h
 |int i=>obtain⟨t,q⟩:=(show∃t,u=Dp i t from rx);cases q;exact Du PySem.W.kitx_int I.kIn Fe e (λz=>nomatch z) h
 |str y=>obtain⟨t,q⟩:=(show∃t,u=Ms y t from rx);cases q;exact Du PySem.W.kitx_str I.kIn Fe e (λz=>nomatch z) h
 |flt y=>obtain⟨t,q⟩:=(show∃t,u=Px y t from rx);cases q;exact Du PySem.W.kitx_float I.kIn Fe e (λz=>nomatch z) h
 |@lst a xs ea=>
  cases (show u=Aj a from rx);obtain⟨_,_,n,_,h1⟩:=(show bR X.prog X.w H s.heap a (.lst xs)from I.hok a _ ea);exact Du Qa I.kIn ⟨_,h1,rfl⟩ e (λz=>nomatch z) h
 |@frz a ob xs ea=>
  cases (show u=Aj a from rx);obtain⟨_,_,_,n,_,h1⟩:=(show bR X.prog X.w H s.heap a (.frz ob (.lst xs))from I.hok a _ ea);exact Du Qa I.kIn ⟨_,h1,rfl⟩ e (λz=>nomatch z) h
 |@tup a xs ea=>
  cases (show u=Aj a from rx);obtain⟨_,_,_,p⟩:=(show bR X.prog X.w H s.heap a (.tup xs)from I.hok a _ ea);obtain⟨o,h1,h2,_⟩:=p;exact Du PySem.W.kitx_tuple I.kIn ⟨o,h1,h2⟩ e (λz=>nomatch z) h
 |@dK a kvs ea=>
  cases (show u=Aj a from rx);obtain⟨_,_,vs,_,p⟩:=(show bR X.prog X.w H s.heap a (.dK kvs)from I.hok a _ ea);obtain⟨o,es,ep,h1,h2,_⟩:=p;exact Du Qb I.kIn ⟨o,h1,h2.1⟩ e (λz=>nomatch z) h
 |@dT a kvs ea=>
  cases (show u=Aj a from rx);obtain⟨_,_,xs,_,o,es,ep,h1,h2,_⟩:=(show bR X.prog X.w H s.heap a (.dT kvs)from I.hok a _ ea);exact Du Qb I.kIn ⟨o,h1,h2.1⟩ e (λz=>nomatch z) h
 |@ins a C dx fs ea cl ha hn htk hm=>
  cases (show u=Aj a from rx);obtain⟨mA,O,_⟩:=zB I.hok ea;obtain⟨od,J,_⟩:=O.look;exact Du (PySem.W.kitx_own (cl.get _) cl.hd ha hn htk hm) I.kIn J e (λz=>nomatch z) h
end
structure cW(k:Nat)(A:Around):Prop where
 hd:A.handled=none
 dp:A.depth+3*k+5<recursionLimit
 un:A.units+16*k+200<cLine
def cW.mono{j k:Nat}{A:Around}(r:cW k A)(h:j<=k):cW j A:=⟨r.hd,by have:=r.dp;lia,by have:=r.un;lia⟩
def cW.deeper{A:Around}(r:cW (k+1) A)(env:Env):cW k (A.deeper env):=
 ⟨r.hd,by have:=r.dp;show A.depth+1+3*k+5<_;lia,by have:=r.un;show A.units+3+16*k+200<_;lia⟩
def aGw{A:Around}{C:Addr}:(A.under (.builtin "type.__call__" ⟨.ref C::us,kw⟩)).depth=A.depth+1:=by
 first|rfl|simp[Oz,Code.weight,Code.isCreation,Code.isGuard,Code.isCaller,Wm,Pt,guardIds]
def aHa{A:Around}{C:Addr}:(A.under (.builtin "type.__call__" ⟨.ref C::us,kw⟩)).units=A.units+1:=by
 first|rfl|simp[Oz,Code.cUnits,Wm,Pt]
def cW.make{A:Around}(r:cW (k+1) A)(C:Addr)(us:List Value)(kw:List (Str×Value)):cW k (A.under (.builtin "type.__call__" ⟨.ref C::us,kw⟩)):=
 ⟨r.hd,by have:=r.dp;rw[aGw];lia,by have:=r.un;rw[aHa];lia⟩
def cW.depth{A:Around}(r:cW k A):A.depth<recursionLimit:=by have:=r.dp;lia
def aRf:TA:=λ_ H Q=>Q [] H
def aNm(ta:TE)(tr:TA):TA:=λσ H Q=>ta σ H λx H1=>tr σ H1 λxs H2=>Q (x::xs) H2
section
variable {X:Cx}{e:Expr}{es:List Expr}{te:TE}{t:TA}{pos:Pos}
def eO:PA X [] aRf:=λ_ _ _ _ H Q I h=>Rh ⟨[],H,I,.nil,h⟩
def cF(ha:PE X e te)(hr:PA X es t)(hs:SE X e es:=by rfl):PA X (e::es) (aNm te t):=by
 intro pos pins s σ H Q I h;rw[hs];show wpAny _ _ (spliced ((false,eval e X.env)::backTo pos (starEach es X.env))) _ _ s;refine Qq (thn (ha pins s σ H _ I h) λu s1 ⟨x,H1,I1,r1,q1⟩=>?_);exact thn (hr pos pins s1 σ H1 _ I1 q1) λus s2 ⟨xs,H2,I2,r2,q2⟩=>⟨x::xs,H2,I2,.cons r1 r2,q2⟩
def bAf(t:TA):TE:=λσ H Q=>t σ H λxs H1=>xs.length<=sizeLine/\∀p,H1 p=none->Q (.ref p) (upd H1 p (.tup xs))
def bAk(t:TA):TE:=λσ H Q=>t σ H λxs H1=>xs.length<=sizeLine/\∀p,H1 p=none->Q (.ref p) (upd H1 p (.lst xs))
def aOv{x1}(h:PA X es t):PE X (.Tuple es x1 pos) (bAf t):=by
 intro pins s σ H Q I hq;refine wpAny_Tuple_spliced (thn (h pos pins s σ H _ I hq) λus s1 ⟨xs,H1,I1,r,z,q⟩=>⟨by rw[<-r.length];exact z,?_⟩);have hf:H1 s1.heap.objs.size=none:=I1.hok.fresh (Ak _);refine⟨.ref s1.heap.objs.size,upd H1 s1.heap.objs.size (.tup xs),I1.laid (t':=s1.toks) (λb u e=>Ad _ e) (Ak _) ?_,rfl,q _ hf⟩;exact⟨z,us,r,⟨_,Al _ rfl,rfl,_,rfl⟩⟩
def aVj(h:PA X es t):PE X (.List es pos) (bAk t):=by
 intro pins s σ H Q I hq;refine wpAny_List_spliced (thn (h pos pins s σ H _ I hq) λus s1 ⟨xs,H1,I1,r,z,q⟩=>⟨by rw[<-r.length];exact z,?_⟩);have hf:H1 s1.heap.objs.size=none:=I1.hok.fresh (Ak _);refine⟨.ref s1.heap.objs.size,upd H1 s1.heap.objs.size (.lst xs),I1.laid (t':=s1.toks) (λb u e=>Ad _ e) (Ak _) ?_,rfl,q _ hf⟩;exact⟨z,us,0,r,Al _ rfl⟩
end
abbrev Sp:=List V->Hp->VK->XK->Prop
abbrev CXT:=List Env->Hp->Shared->XK->#v[7]
structure aIa(P:Program)(w:World)(K:Ae)(mg:Str->#v[14])(base:Heap)(A:Around)(outer:List Env)(s:Shared)(H:Hp):Prop where
 frames:A.frames=some outer
 mod:Mod K mg base
 bs:∀b o,base.get? b=some o->s.heap.get? b=some o/\H b=none
 bsz:base.objs.size<=#v[0]
 funs:s.heap.FunFrames base outer
 frf:∀b∈frs outer,H b=none
 hok:HOk P w H s.heap
 bare:AllBare s.gens
def CE(outer:List Env)(P:Program)(w:World)(H:Hp)(s:Shared)(Q:VK)(u:Value)(s':Shared):Prop:=
 ∃v H',s'.os=s.os/\AllBare s'.gens/\Un (frs outer) [] H H' s.heap s'.heap/\HOk P w H' s'.heap/\RelV v u/\Q v H'
def CR(CX:CXT)(outer:List Env)(P:Program)(w:World)(H:Hp)(s:Shared)(Q:VK)(E:XK)(r:Result)(s':Shared):Prop:=
 match r with
 |.ok (.ret u)=>CE outer P w H s Q u s'
 |.ok _=>False
 |.error e=>CX outer H s E e s'
structure bI(P:Program)(w:World)(K:Ae)(mg:Str->#v[14])(base:Heap)(CX:CXT)(k:Nat)(f:Addr)(fd:FuncData)(ps:List Str)(sp:Sp):Prop where
 len:∀vs H Q E,sp vs H Q E->vs.length=ps.length
 run:∀(A:Around)(outer:List Env)(s:Shared)(H:Hp)(args:Args)(us:List Value)(vs:List V)(Q:VK)(E:XK),cW k A->aIa P w K mg base A outer s H->BindsTo s fd args (ps.zip us)->Vals vs us->sp vs H Q E->
  codeAny (model P w) A (.call (.ref f) args) (CR CX outer P w H s Q E) s
def bI.mono{P:Program}{w:World}{K:Ae}{CX:CXT}{j k:Nat}{f:Addr}{fd:FuncData}{ps:List Str}{sp:Sp}(F:bI P w K mg base CX j f fd ps sp)(h:j<=k):
  bI P w K mg base CX k f fd ps sp:=⟨F.len,λA outer s H args us vs Q E hr=>F.run A outer s H args us vs Q E (hr.mono h)⟩
def aIa.make{P:Program}{w:World}{K:Ae}{A:Around}{outer:List Env}{s:Shared}{H:Hp}(e:aIa P w K mg base A outer s H)(C:Addr)(us:List Value)(kw:List (Str×Value)):
  aIa P w K mg base (A.under (.builtin "type.__call__" ⟨.ref C::us,kw⟩)) outer s H:=⟨by first|exact e.frames|(simpa[Oz,Code.envs,Pt,pushEnvs]using e.frames),e.mod,e.bs,e.bsz,e.funs,e.frf,e.hok,e.bare⟩
section
variable {X:Cx}{pins:#v[9]}{σ:St}{H:Hp}{s s':Shared}
def Inv.env0(I:#v[5]):aIa X.prog X.w X.K X.mg X.base X.A X.stack s H:=
 ⟨I.ok.frames,I.ok.mod,I.bs,Ba I.ok.bsz I.sz,I.stack,I.stkFree,I.hok,I.bare⟩
def Inv.after{Q:VK}(I:#v[5])(h:CE X.stack X.prog X.w H s Q u s'):EP X pins σ Q u s':=by
 obtain⟨v,H',os,bare,un,hok,r,q⟩:=h;obtain⟨hh,g,d,t,os'⟩:=s';obtain rfl:os'=s.os:=os;exact⟨v,H',I.call (h':=hh) (g':=g) (d':=d) (t':=t) (ch:=[]) un hok bare (λb z=>absurd z (by simp)),r,q⟩
end
def aSo(sp:Sp)(dvs:List V)(E:XK)(t:TA):TE:=λσ H Q=>t σ H λvs H1=>sp (vs++dvs) H1 Q E
def aYy(C:Addr)(sp:Sp)(dvs:List V)(E:XK)(t:TA):TE:=λσ H Q=>t σ H λvs H1=>∀x dx,H1 x=none->H1 dx=none->dx≠x->
 sp (.ref x::(vs++dvs)) (upd (upd H1 dx (.own x)) x (.ins C dx [])) (λv H2=>v=.non/\Q (.ref x) H2) E
def Binds(K:Ae)(fd:FuncData)(ps:List Str)(ds:List Value):Prop:=
 ∀(s:Shared)(us:List Value),K.In s.heap->(us++ds).length=ps.length->BindsTo s fd ⟨us,[]⟩ (ps.zip (us++ds))
def Binds.all{K:Ae}{fd:FuncData}{ps:List Str}(h:∀us:List Value,us.length=ps.length->bindArgs fd ⟨us,[]⟩=pure (ps.zip us)):Binds K fd ps []:=λs us _ hl=>by
 rw[Ax]at hl⊢;exact .of_eq (h us hl)
def rM(CX:CXT)(X:Cx)(E:XK):Prop:=∀(pins:#v[9])(σ:St)(H:Hp)(s:Shared)(e:Value)(s':Shared),#v[5]->CX X.stack H s E e s'->X.xe e s'
section
variable {X:Cx}{CX:CXT}{k:Nat}{f C:Addr}{fd:FuncData}{ps:List Str}{sp:Sp}{dvs:List V}{ds:List Value}{E:XK}{x m:Str}{p pos apos:Pos}{e o:Expr}{es:List Expr}{ta:TE}{t:TA}
def aGq{pins:#v[9]}{σ:St}{H:Hp}{s:Shared}{Q:VK}{vs:List V}(F:bI X.prog X.w X.K X.mg X.base CX k f fd ps sp)(hr:cW k X.A)(hb:Binds X.K fd ps ds)(hd:Vals dvs ds)(hx:rM CX X E)
  (I:#v[5]) (r:Vals vs us) (h:sp (vs++dvs) H Q E):#v[6] (call (.ref f) us) (EP X pins σ Q) X.xe s:=by
 have r2:Vals (vs++dvs) (us++ds):=r.append hd;have hl:(us++ds).length=ps.length:=by rw[<-r2.length];exact F.len _ _ _ _ h
 refine Ql (Ho (F.run X.A X.stack s H ⟨us,[]⟩ (us++ds) (vs++dvs) Q E hr I.env0 (hb s us I.kIn hl) r2 h) λr s' hq=>?_);cases r with
 |error e=>exact hx pins σ H s e s' I hq
 |ok fl=>
  cases fl with
  |ret u=>exact I.after hq
  |next=>exact Fc hq
  |brk=>exact Fc hq
  |cont=>exact Fc hq
def aRt(F:bI X.prog X.w X.K X.mg X.base CX k f fd ps sp)(hr:cW k X.A)(hg:Gl X x)(hm:X.mg x=some (.ref f))(hk:Gj X.K (.ref f)=true)(hb:Binds X.K fd ps ds)(hd:Vals dvs ds)(hx:rM CX X E)
  (ha:PA X (e::es) t) (hdb:ND x:=by decide) (he:SE X e es:=by rfl) (hpl:BT X pos es:=by rfl):
  PE X (.Call (.Name x p) (e::es) [] pos) (aSo sp dvs E t):=by
 intro pins s σ H Q I h;refine Hy (aC7 I hg hm ?_ hdb);refine Lb (h₀:=X.base) I.ok.mod.kin hk (thn (ha pos pins s σ H _ I h) λus s1 ⟨vs,H1,I1,r,q⟩=>⟨I1.kIn,?_⟩) he hpl;exact aGq F hr hb hd hx I1 r q
structure Mk(K:Ae)(C f:Addr):Prop where
 makes:Mg K C=true
 init:Dt K (.ref C) "__init__"=some (some (.ref f))
 fn:Om K (.ref f)=true
 kp:Gj K (.ref C)=true
def aN2{pins:#v[9]}{σ:St}{H:Hp}{s:Shared}{Q:VK}{vs:List V}(M:Mk X.K C f)(F:bI X.prog X.w X.K X.mg X.base CX k f fd ps sp)(hr:cW (k+1) X.A)(hb:Binds X.K fd ps ds)(hd:Vals dvs ds)
  (hx:rM CX X E) (I:#v[5]) (r:Vals vs us)
  (h:∀x dx,H x=none->H dx=none->dx≠x->sp (.ref x::(vs++dvs)) (upd (upd H dx (.own x)) x (.ins C dx [])) (λv H2=>v=.non/\Q (.ref x) H2) E):
  #v[6] (call (.ref C) us) (EP X pins σ Q) X.xe s:=by
 have hq:=h (#v[0]+1) #v[0] (I.hok.fresh (Ha _)) (I.hok.fresh (Ak _)) (Ar (Ew _));have I2:=Inv.made (C:=C) I;have r2:Vals (V.ref (#v[0]+1)::(vs++dvs)) (Aj (#v[0]+1)::(us++ds)):=.cons rfl (r.append hd);have hl:(Aj (#v[0]+1)::us++ds).length=ps.length:=by
  have e:=r2.length;rw[F.len _ _ _ _ hq]at e;exact e.symm
 refine Ql (aNl (f:=f) I.kIn M.makes M.init (beq_iff_eq.mp M.fn) (Ho (F.run _ X.stack _ _ ⟨Aj (#v[0]+1)::us,[]⟩ (Aj (#v[0]+1)::(us++ds)) _ _ E (hr.make C us [])
  (I2.env0.make C us []) (hb _ (Aj (#v[0]+1)::us) I2.kIn hl) r2 hq) λr s' hq'=>?_))
 cases r with
 |error e=>exact hx pins σ _ _ e s' I2 hq'
 |ok fl=>
  cases fl with
  |ret u=>
   obtain⟨v,H',I3,rv,ev,q3⟩:=I2.after hq';subst ev;exact⟨rv,⟨V.ref (#v[0]+1),H',I3,rfl,q3⟩⟩
  |next=>exact Fc hq'
  |brk=>exact Fc hq'
  |cont=>exact Fc hq'
def aRd(M:Mk X.K C f)(F:bI X.prog X.w X.K X.mg X.base CX k f fd ps sp)(hr:cW (k+1) X.A)(hg:Gl X x)(hm:X.mg x=some (.ref C))(hb:Binds X.K fd ps ds)(hd:Vals dvs ds)(hx:rM CX X E)
  (ha:PA X (e::es) t) (hdb:ND x:=by decide) (he:SE X e es:=by rfl) (hpl:BT X pos es:=by rfl):
  PE X (.Call (.Name x p) (e::es) [] pos) (aYy C sp dvs E t):=by
 intro pins s σ H Q I h;refine Hy (aC7 I hg hm ?_ hdb);refine Lb (h₀:=X.base) I.ok.mod.kin M.kp (thn (ha pos pins s σ H _ I h) λus s1 ⟨vs,H1,I1,r,q⟩=>⟨I1.kIn,?_⟩) he hpl;exact aN2 M F hr hb hd hx I1 r q
end
def PK(X:Cx)(kws:List Keyword)(t:TA):Prop:=
 ∀(pos:Pos)(pins:#v[9])(s:Shared)(σ:St)(H:Hp)(Q:List V->Hp->Prop),#v[5]->t σ H Q->#v[6] (evalAll ((backToKw pos (keywordEach kws X.env)).map (·.2))) (AP X pins σ Q) X.xe s
section
variable {X:Cx}{CX:CXT}{k:Nat}{f C:Addr}{fd:FuncData}{ps ks:List Str}{sp:Sp}{E:XK}{x m:Str}{p pos apos kpos:Pos}{e o:Expr}{es:List Expr}{kws:List Keyword}{te ta:TE}{t tk:TA}{nm:Option Str}
def aUd:PK X [] aRf:=λ_ _ _ _ H Q I h=>wpAny_evalAll_nil ⟨[],H,I,.nil,h⟩
def aRo(ha:PE X e te)(hr:PK X kws t):PK X (⟨nm,e,kpos⟩::kws) (aNm te t):=by
 intro pos pins s σ H Q I h;show wpAny _ _ (evalAll ((do let v<-eval e X.env;standAt pos;pure v)::(backToKw pos (keywordEach kws X.env)).map (·.2))) _ _ s;refine wpAny_evalAll_cons (Aa (thn (ha pins s σ H _ I h) λu s1 ⟨x,H1,I1,r1,q1⟩=>Aa (Je (Ac ?_))));exact thn (hr pos pins s1 σ H1 _ I1 q1) λus s2 ⟨xs,H2,I2,r2,q2⟩=>⟨x::xs,H2,I2,.cons r1 r2,q2⟩
variable {g:List Value->List Value->List Value}{gV:List V->List V->List V}
end
structure aK(N P:List Str)(sc:Scope):Prop where
 kind:sc.kind=.function:=by rfl
 co:sc.isCoroutine=false:=by rfl
 gen:sc.isGenerator=false:=by rfl
 nd:N.Nodup:=by decide+kernel
 pre:N.take P.length=P:=by rfl
 par:∀x∈P,sc.names.lookup x=some .local∨sc.names.lookup x=some .cell:=by decide+kernel
 nofree:∀y∈sc.names,y.2≠.free:=by decide+kernel
theorem aCi{kindOf:Str->Option NameKind}{x:Str}:∀{binds:List (Str×Value)}{m:Str->#v[14]},(∀v,(x,v)∉binds)->bindL kindOf binds m x=m x
 | [],_,_=>rfl
 |(n,v)::r,m,h=>by
  unfold bindL;rw[aCi λw hw=>h w (Af _ hw)];split
  ·have:x≠n:=by rintro rfl;exact h v Ah
   simp[this]
  ·rfl
theorem aB3{kindOf:Str->Option NameKind}{x:Str}:∀{binds:List (Str×Value)}{m:Str->#v[14]},(∀v,(x,v)∉binds)->bindC kindOf binds m x=m x
 | [],_,_=>rfl
 |(n,v)::r,m,h=>by
  unfold bindC;rw[aB3 λw hw=>h w (Af _ hw)];split
  ·rfl
  ·have:x≠n:=by rintro rfl;exact h v Ah
   simp[this]
theorem aCk{kindOf:Str->Option NameKind}{x:Str}{v:Value}:∀{P:List Str}{vs:List Value}{i:Nat}{m:Str->#v[14]},P.Nodup->P[i]? =some x->vs[i]? =some v->kindOf x=some .local->
  bindL kindOf (P.zip vs) m x=some v
 | [],_,_,_,_,h,_,_=>by simp at h
 |_::_,[],_,_,_,_,h,_=>by simp at h
 |p::P,w::vs,0,m,nd,h1,h2,hk=>by
  simp at h1 h2;subst h1;subst h2;show bindL kindOf ((p,w)::P.zip vs) m p=_;unfold bindL;rw[aCi λv hv=>(List.nodup_cons.mp nd).1 (Ng hv).1,if_pos hk];simp
 |p::P,w::vs,i+1,m,nd,h1,h2,hk=>by
  show bindL kindOf ((p,w)::P.zip vs) m x=_;unfold bindL;exact aCk (i:=i) (List.nodup_cons.mp nd).2 (by simpa using h1) (by simpa using h2) hk
theorem aCw{kindOf:Str->Option NameKind}{x:Str}{v:Value}:∀{P:List Str}{vs:List Value}{i:Nat}{m:Str->#v[14]},P.Nodup->P[i]? =some x->vs[i]? =some v->kindOf x≠some .local->
  bindC kindOf (P.zip vs) m x=some v
 | [],_,_,_,_,h,_,_=>by simp at h
 |_::_,[],_,_,_,_,h,_=>by simp at h
 |p::P,w::vs,0,m,nd,h1,h2,hk=>by
  simp at h1 h2;subst h1;subst h2;show bindC kindOf ((p,w)::P.zip vs) m p=_;unfold bindC;rw[aB3 λv hv=>(List.nodup_cons.mp nd).1 (Ng hv).1,if_neg hk];simp
 |p::P,w::vs,i+1,m,nd,h1,h2,hk=>by
  show bindC kindOf ((p,w)::P.zip vs) m x=_;unfold bindC;exact aCw (i:=i) (List.nodup_cons.mp nd).2 (by simpa using h1) (by simpa using h2) hk
def start(N:List Str)(vs:List V):St:=vs.map some++Jk (N.length-vs.length) none
def aG9(CX:CXT)(P:Program)(w:World)(K:Ae)(mg:Str->#v[14])(base:Heap)(N:List Str)(qual:Str)(scope:Scope)(f:Addr)(cd:Value)(A:Around)(outer:List Env)(s:Shared)(H:Hp)(E:XK):Cx where
 prog:=P
 w:=w
 K:=K
 mg:=mg
 base:=base
 A:=A.deeper (envOfC qual scope #v[0] f cd)
 N:=N
 s₀:=s
 H₀:=H
 env:=envOfC qual scope #v[0] f cd
 outer:=outer
 stack:=envOfC qual scope #v[0] f cd::outer
 ex:=[]
 calm:=true
 fn:=λ_=>true
 pn:=[]
 xe:=λe s'=>wpAny (model P w) (A.deeper (envOfC qual scope #v[0] f cd)) (leaving (envOfC qual scope #v[0] f cd) e) (λ_ s''=>CX outer H s E e s'') (λe' s''=>CX outer H s E e' s'') s'
def bD{sc:Scope}{n:Nat}{x:Str}(h:sc.names.lookup x=some .cell):∃c,(cellsFrom n sc.names []).lookup x=some c:=by
 have q:=Jw sc.names n [] (.inl h);exact Option.isSome_iff_exists.mp q
def aKh{CX:CXT}{P:Program}{w:World}{K:Ae}{qual:Str}{scope:Scope}{f:Addr}{cd:Value}{A:Around}{outer:List Env}{s s1:Shared}{H:Hp}{E:XK}{vs:List V}
  (S:aK N ps scope) (hd:A.handled=none) (e0:aIa P w K mg base A outer s H) (hl:vs.length=ps.length) (r:Vals vs us)
  (x:InCallC s #v[0] (bindL (envOfC qual scope #v[0] f cd).kindOf (ps.zip us) λ_=>none) (cellsFrom (#v[0]+1) scope.names []) (bindC (envOfC qual scope #v[0] f cd).kindOf (ps.zip us) λ_=>none) s1):
  Inv (aG9 CX P w K mg base N qual scope f cd A outer s H E) [] (start N vs) H s1:=by
 have hpl:ps.length<=N.length:=by have:=congrArg Bz S.pre;rw[Bp]at this;lia
 obtain⟨h1,tk,rfl,hk⟩:=x.done;have noA:∀b:Addr,b∉(aG9 CX P w K mg base N qual scope f cd A outer s H E).ex:=λb z=>absurd (show b∈([]:List Addr)from z) (by simp);refine⟨⟨e0.mod,S.kind,rfl,rfl,Ak _,λy z c h1 h2=>?_,λy hy=>?_,λy c _ h=>?_,λ_=>hd,Around.frames_deeper e0.frames,.inr ⟨rfl,rfl⟩,λb z=>absurd z (noA b),e0.bs,e0.bsz,λb _ _=>noA b,λb z=>absurd z (noA b),e0.funs,e0.frf⟩,
  rfl,e0.bare,Un.kept hk,⟨_,x.toInCall.ns,λi y v h1 h2 h3=>?_⟩,λy c h=>⟨_,x.cell y c h⟩,e0.hok.fresh (Ak _),λy c h=>?_,λp hp=>absurd (show p∈([]:#v[9])from hp) (by simp),e0.hok.kept hk,?_⟩
 ·exact name_of_addr x.apart (Cb h1) (Cb h2)
 ·have hy:scope.names.lookup y=some .cell∨scope.names.lookup y=some .free:=hy;rcases hy with hy|hy
  ·exact bD hy
  ·exact absurd rfl (S.nofree _ (Cb hy))
 ·exact Ez (x.above y c (Cb h))
 ·have hi:i<vs.length:=by
   unfold start at h2;by_cases hi:i<vs.length
   ·exact hi
   ·rw[Dz (by simpa using hi)]at h2;rw[Eo]at h2;split at h2<;>cases h2
  have ha:vs[i]? =some v:=by
   unfold start at h2;rw[Ef (by simpa using hi),As]at h2;cases e:vs[i]? with
   |none=>rw[e]at h2;cases h2
   |some a=>rw[e]at h2;cases h2;rfl
  obtain⟨u,hu,rv⟩:=r.get ha;have hp:ps[i]? =some y:=by
   rw[<-S.pre,Ju ∅];exact h1
  have ndP:ps.Nodup:=by rw[<-S.pre];exact S.nd.sublist (Gh _ _)
  refine⟨u,rv,?_⟩;rcases S.par y (Ay hp)with k|k
  ·exact .inl ⟨k,aCk ndP hp hu k⟩
  ·obtain⟨c,e⟩:=bD (n:=#v[0]+1) k;refine .inr ⟨.inl k,c,e,?_⟩;have q:=x.cell y c e;rw[aCw ndP hp hu (by show scope.names.lookup y≠_;rw[k];decide)]at q;exact q
 ·exact e0.hok.fresh (Ez (x.above y c (Cb h)))
 ·unfold start;show _=N.length;rw[An,Ab,Ex]
  lia
def aWu{CX:CXT}{P:Program}{w:World}{K:Ae}{f:Addr}{name qual:Str}{params:Arguments}{scope:Scope}{dV kV doc pm cdv ct oc:Value}{an od:Option Addr}
  {osl:Array (#v[14])} {sp:Sp} (lk:K.lookup f=some ⟨oc,od,.func (En name qual params body scope dV kV doc pm an cdv ct),osl⟩) (hcd:Mv K cdv qual=true) (S:aK N ps scope)
  (len:∀vs H Q E,sp vs H Q E->vs.length=ps.length)
  (hbody:∀(A:Around)(outer:List Env)(s:Shared)(H:Hp)(vs:List V)(Q:VK)(E:XK),cW k (A.deeper (envOfC qual scope #v[0] f cdv))->sp vs H Q E->
   ∃t,PSs (aG9 CX P w K mg base N qual scope f cdv A outer s H E) body t/\t {nx:=λ_ H'=>Q .non H',rt:=Q} (start N vs) H):
  bI P w K mg base CX (k+1) f (En name qual params body scope dV kV doc pm an cdv ct) ps sp:=by
 refine⟨len,λA outer s H args us vs Q E hr e0 hb r hsp=>?_⟩;have hl:=len _ _ _ _ hsp;have KX:K.In s.heap:=e0.mod.kin.keeps λb o e=>(e0.bs b o e).1;have lim:s.heap.NoLimit:=e0.mod.nolimit.keeps λb o e=>(e0.bs b o e).1;have hkind:∀y∈ps.zip us,scope.names.lookup y.1=some .local∨(scope.names.lookup y.1=some .cell/\((cellsFrom (#v[0]+1) scope.names []).lookup y.1).isSome=true):=λ⟨n,v⟩ hy=>by
  rcases S.par n (Ng hy).1 with q|q
  ·exact .inl q
  ·exact .inr ⟨q,Jw _ _ _ (.inl q)⟩
 refine codeAny_call_function hr.depth (KX _ _ lk) rfl S.co S.gen rfl (PySem.W.codeRec_of KX hcd) (hb _ _ _ _ ?_);refine wpAny_newFunctionEnv_cells S.kind hkind λenv he s1 x=>?_;subst he;refine⟨lim.keeps x.toInCall.keep,codeAny_func ?_⟩;obtain⟨t,ht,hq⟩:=hbody A outer s H vs Q E (hr.deeper _) hsp;have I:Inv (aG9 CX P w K mg base N qual scope f cdv A outer s H E) [] (start N vs) H s1:=aKh S hr.hd e0 hl r x;refine Dn (ht [] s1 (start N vs) H _ I hq) (λfl s' hs=>?_) λe s' hs=>hs;have fin:∀{σ':St}{H':Hp}{v:V}{u:Value},Inv (aG9 CX P w K mg base N qual scope f cdv A outer s H E) [] σ' H' s'->RelV v u->Q v H'->CE outer P w H s Q u s':=
  λ{σ' H' v u} J rv q=>⟨v,H',J.os,J.bare,J.base,J.hok,rv,q⟩
 cases fl with
 |ret u=>
  obtain⟨v,σ',H',J,rv,q⟩:=hs;exact fin J rv q
 |next=>
  obtain⟨σ',H',J,q⟩:=hs;exact fin (v:=V.non) (u:=Bq) J rfl q
 |brk=>
  obtain⟨_,_,_,q⟩:=hs;exact Fc q
 |cont=>
  obtain⟨_,_,_,q⟩:=hs;exact Fc q
section
variable {X:Cx}{x:Str}{p pos:Pos}{e:Expr}{es:List Expr}{t:TA}{id T:String}{r:List V->Hp->VK->Prop}
def tCB(r:List V->Hp->VK->Prop)(t:TA):TE:=λσ H Q=>t σ H λvs H1=>r vs H1 Q
def iW(hc:dY X (.builtin id) r)(hg:Gl X x)(hm:X.mg x=none)(hv:bootBuiltins x=some (.builtin id))(ha:PA X (e::es) t)(hn:x≠"__name__":=by decide)(hdb:ND x:=by decide)
  (he:SE X e es:=by rfl) (hpl:BT X pos es:=by rfl):PE X (.Call (.Name x p) (e::es) [] pos) (tCB r t):=by
 intro pins s σ H Q I h;refine Hy (sI I hg hm hv ?_ hn hdb);exact Vy (thn (ha pos pins s σ H _ I h) λus s1 ⟨vs,H1,I1,r1,q1⟩=>hc pins s1 σ H1 vs us Q I1 r1 q1) he hpl
def iB(hc:dY X (.type T) r)(hg:Gl X x)(hm:X.mg x=none)(hv:bootBuiltins x=some (.type T))(ha:PA X (e::es) t)(hn:x≠"__name__":=by decide)(hdb:ND x:=by decide)
  (he:SE X e es:=by rfl) (hpl:BT X pos es:=by rfl):PE X (.Call (.Name x p) (e::es) [] pos) (tCB r t):=by
 intro pins s σ H Q I h;refine Hy (sI I hg hm hv ?_ hn hdb);exact El (thn (ha pos pins s σ H _ I h) λus s1 ⟨vs,H1,I1,r1,q1⟩=>hc pins s1 σ H1 vs us Q I1 r1 q1) he hpl
end
end L2
namespace HT
variable {Q:#v[7]}{lo hi:Option Int}
open PySem PyProof.Rows
section
open PySem.SeqAt
open PySem.AutoSeq1 (wpAny_loadPart')
open PySem.MeetsSeq PySem.MeetsSeq2 PySem.MeetsSeq3
end
variable {prog:Program}{w:World}{A:Around}{E:#v[7]}{s:Shared}
def aQ3{t b:Addr}{vs ws:List Value}(ht:IsTup s.heap t vs.toArray)(hb:IsTup s.heap b ws.toArray)(hv:vs≠[])
  (h1:ws=[]->Q (.ref t) s) (h2:ws≠[]->Q (.ref #v[0]) {s with heap:=s.heap.push {cls:=.type "tuple",data:=.seq (vs++ws).toArray}})
  (hsz:vs.length+ws.length<=sizeLine):#v[4] (binaryOp .Add (.ref t) (.ref b)) Q E s:=by
 obtain⟨⟨cls,dd,data,sl⟩,ho,hc,n,hd⟩:=id ht;obtain⟨⟨cls2,dd2,data2,sl2⟩,ho2,hc2,n2,hd2⟩:=id hb;simp only at hc hd hc2 hd2;subst hc hd hc2 hd2;have e:vs.toArray++ws.toArray=(vs++ws).toArray:=by simp
 by_cases hw:ws=[]
 ·exact Rw ⟨_,ho,rfl⟩ ⟨_,ho2,rfl⟩ Of Qt Jx Jr (Jf _ _)
   (tuple_addW1 t b vs.toArray ws.toArray n n2 dd dd2 sl sl2 (by simpa using hv) (by simp[hw])) ⟨ho,ho2,h1 hw⟩
 ·refine Rw ⟨_,ho,rfl⟩ ⟨_,ho2,rfl⟩ Of Qt Jx Jr (Jf _ _)
   (tuple_addW2 t b vs.toArray ws.toArray n n2 dd dd2 sl sl2 (by simpa using hv) (by simpa using hw) (by rw[Ai,Ai];exact hsz)) ⟨ho,ho2,?_⟩
  rw[e];exact h2 hw
def sIx(n d:Nat):Option Int->Nat
 |none=>d
 |some v=>if v<0 then(v+(n:Int)).toNat else min v.toNat n
def aFy(n d:Nat):sIx n d none=d:=rfl
def aEm(n d k:Nat):sIx n d (some (k:Int))=min k n:=by
 show(if(k:Int)<0 then((k:Int)+(n:Int)).toNat else min (k:Int).toNat n)=min k n;rw[if_neg ∅,Dr]
def aT1(n d:Nat)(hd:d<=n)(o:Option Int):sIx n d o<=n:=by
 cases o with
 |none=>exact hd
 |some v=>
  show(if v<0 then(v+(n:Int)).toNat else min v.toNat n)<=n;by_cases hv:v<0
  ·rw[if_pos hv];lia
  ·rw[if_neg hv];exact Nat.min_le_right _ _
def aIl(v:Int)(n d:Nat):(if v<0 then max (v+(n:Int)) 0 else min v (n:Int))=((sIx n d (some v):Nat):Int):=by
 show(if v<0 then max (v+(n:Int)) 0 else min v (n:Int))=(((if v<0 then(v+(n:Int)).toNat else min v.toNat n):Nat):Int);by_cases hv:v<0
 ·simp only[if_pos hv];lia
 ·simp only[if_neg hv];lia
def aHt(lo hi:Option Int)(n:Nat):Ii lo hi 1 (n:Int)=(((sIx n 0 lo:Nat):Int),((sIx n n hi:Nat):Int)):=by
 have h1:¬((1:Int)<0):=by lia
 unfold Ii;simp only[h1,if_false];refine Ow ?_ ?_
 ·cases lo with
  |none=>rfl
  |some v=>exact aIl v n 0
 ·cases hi with
  |none=>rfl
  |some v=>exact aIl v n n
def aHv(i j:Nat):Fz (i:Int) (j:Int) 1=j-i:=by
 unfold Fz;have h1:(1:Int)>0:=by lia
 simp only[h1,if_true,Int.ediv_one];split<;>lia
def aAl{v:Value}{o:Option Int}{Q:Option Int->Shared->Prop}(p:IsPart v o)(h:Q o s):#v[4] (Vk v) Q E s:=by
 cases p with
 |none=>exact slicePart_none h
 |int i t=>exact slicePart_int h
def xN{sl:Addr}{vl vu:Value}{n:Nat}{Q:Int×Int×Nat->Shared->Prop}(hs:s.heap.IsSliceOf sl vl vu .none)(pl:IsPart vl lo)(pu:IsPart vu hi)
  (h:Q (((sIx n 0 lo:Nat):Int),1,sIx n n hi-sIx n 0 lo) s):#v[4] (Li (.ref sl) (pure (n:Int))) Q E s:=by
 obtain⟨os,hos,hcs,hds⟩:=id hs;unfold Li Vl;refine Aa (Aa (Dx hos hds (x:=vl) rfl (Aa (Dx hos hds (x:=vu) rfl (Aa (Dx hos hds (x:=.none) rfl (Ac ?_)))))));refine Aa (slicePart_none ?_);show wpAny _ _ (if((1:Int)==0)=true then _ else _) _ _ s;rw[if_neg ⋯];refine Aa (aAl pl (Aa (aAl pu (Aa (Ac ?_)))));show wpAny _ _ (match Ii lo hi 1 (n:Int)with|(lo,hi)=>pure (lo,(1:Int),Fz lo hi 1)) _ _ s;rw[aHt lo hi n];show wpAny _ _ (pure (((sIx n 0 lo:Nat):Int),(1:Int),Fz ((sIx n 0 lo:Nat):Int) ((sIx n n hi:Nat):Int) 1)) _ _ s;rw[aHv];exact Ac h
def aM7(xs:Array Value)(i k:Nat):((Bk k).filterMap λ(m:Nat)=>xs[((i:Int)+(m:Int)*1).toNat]?).toArray=((xs.toList.drop i).take k).toArray:=by
 have e:(λ(m:Nat)=>xs[((i:Int)+(m:Int)*1).toNat]?)=λm=>xs[i+m]? :=by
  funext m;have:((i:Int)+(m:Int)*1).toNat=i+m:=by lia
  rw[this]
 rw[e];have:=pick_run xs i k;rw[List.filterMap_map]at this;have e2:((λx=>xs[x]?)∘λx=>i+x)=λm=>xs[i+m]? :=rfl;rw[e2]at this;rw[this]
def vV{t sl:Addr}{items:Array Value}{vl vu:Value}(ht:IsTup s.heap t items)(hs:s.heap.IsSliceOf sl vl vu .none)(pl:IsPart vl lo)(pu:IsPart vu hi)
  (hw:¬(sIx items.size 0 lo=0/\sIx items.size items.size hi=items.size))
  (h:Q (.ref #v[0]) {s with heap:=s.heap.push {cls:=.type "tuple",data:=.seq ((items.toList.drop (sIx items.size 0 lo)).take (sIx items.size items.size hi-sIx items.size 0 lo)).toArray}})
  (hsz:items.size<=sizeLine):#v[4] (getItem (.ref t) (.ref sl)) Q E s:=by
 have htake:sizeOk (.seq ((items.toList.drop (sIx items.size 0 lo)).take (sIx items.size items.size hi-sIx items.size 0 lo)).toArray):=by
  show((items.toList.drop (sIx items.size 0 lo)).take (sIx items.size items.size hi-sIx items.size 0 lo)).toArray.size<=sizeLine;rw[Ai,Bp,Dm,Aq]
  lia
 have hj:sIx items.size items.size hi<=items.size:=aT1 _ _ (Ak _) hi;obtain⟨os,hos,hcs,hds⟩:=id hs;have hTs:s.TypeIs (.ref sl) "slice":=⟨os,hos,hcs⟩;unfold getItem
 try with_reducible refine Bs ?_
 first|refine Aa (Ac ?_)|skip
 refine Aa (wpAny_sequenceKey ht.typeIs ⋯ ?_);refine Aa (Ci (name:=Ej "__getitem__") ht.typeIs Kn
  (Bm Kn ht.typeIs entry_tuple_getitem ?_ (args_tuple_getitem _ _)))
 show wpAny _ _ (Lh (.ref t)>>=_) _ _ s;refine Aa (tupleItemsOf_ ht ?_);refine Aa (Hj hTs ?_);rw[if_pos ⋯];refine Aa (xN hs pl pu ?_);have hno:¬((((sIx items.size 0 lo:Nat):Int)==0 && (1:Int)==1 && (sIx items.size items.size hi-sIx items.size 0 lo)==items.size)=true):=by
  intro q;rw[Ij,Ij]at q;have q1:((sIx items.size 0 lo:Nat):Int)=0:=eq_of_beq q.1.1;have q2:sIx items.size items.size hi-sIx items.size 0 lo=items.size:=eq_of_beq q.2;exact hw ⟨∅,∅⟩
 show wpAny _ _ (if(((sIx items.size 0 lo:Nat):Int)==0 && (1:Int)==1 && (sIx items.size items.size hi-sIx items.size 0 lo)==items.size)=true then _ else _) _ _ s;rw[if_neg hno,aM7];first
  |exact Aa (m:=Ge _) (Bh (Ac ⟨_,rfl,Ac h⟩) htake)
  |exact Aa (m:=Ge _) (Bh (Aa (Ac (Ac ⟨_,rfl,Ac h⟩))) htake)
  |exact Aa (Aa (m:=Ge _) (Bh (Ac (Ac ⟨_,rfl,Ac h⟩)) htake))
  |exact Aa (Aa (m:=Ge _) (Bh (Ac ⟨_,rfl,Ac h⟩) htake))
end HT
namespace L2
variable {pins:#v[9]}{its its':List Value}{s:Shared}{n:Nat}
open PySem PySem.Spec PyProof.Rows
abbrev TO:=St->Hp->(Option Int->Hp->Prop)->Prop
def PO(X:Cx)(e:Option Expr)(t:TO):Prop:=
 ∀(pins:#v[9])(s:Shared)(σ:St)(H:Hp)(Q:Option Int->Hp->Prop),#v[5]->t σ H Q->
  #v[6] (evalPart e X.env) (λu s'=>∃o H',Inv X pins σ H' s'/\IsPart u o/\Q o H') X.xe s
def aPo:TO:=λ_ H Q=>Q none H
def aXk(t:TE):TO:=λσ H Q=>t σ H λx H1=>∃i,x=.int i/\Q (some i) H1
def intsAre_of{ns:List Int}:∀{us:List Value},Vals (ns.map V.int) us->IntsAre us ns:=by
 induction ns with
 |nil=>intro us r;rw[Ep]at r;cases r;exact .nil
 |cons n ns ih=>
  intro us r;rw[Bo]at r;cases r with
  |cons r1 r2=>
   obtain⟨t,e⟩:=r1;subst e;exact .cons n t (ih r2)
variable {X:Cx}{e:Expr}{te:TE}{lo hi:Option Expr}{tl th:TO}{pos p2:Pos}
def aQ1:PO X none aPo:=by
 intro pins s σ H Q I h;rw[evalPart_none];exact Ac ⟨none,H,I,.none,h⟩
def aP8(h:PE X e te):PO X (some e) (aXk te):=by
 intro pins s σ H Q I hw;rw[evalPart_some];refine thn (h pins s σ H _ I hw) λu s1 ⟨x,H1,I1,r1,q1⟩=>?_;obtain⟨i,rfl,q⟩:=q1;obtain⟨t,rfl⟩:=r1;exact⟨some i,H1,I1,.int i t,q⟩
def SlR(X:Cx)(r:V->Option Int->Option Int->Hp->VK->Prop):Prop:=
 ∀(pins:#v[9])(s:Shared)(σ:St)(H:Hp)(x:V)(v vl vu:Value)(lo hi:Option Int)(sl:Addr)(Q:VK),#v[5]->RelV x v->s.heap.IsSliceOf sl vl vu .none->IsPart vl lo->IsPart vu hi->r x lo hi H Q->
  ∃T id,typeLookup (.type T) "__getitem__"=pure (some (.builtin id))/\s.TypeIs v T/\#v[6] (getItem v (.ref sl)) (EP X pins σ Q) X.xe s
def SlR.or{r r':V->Option Int->Option Int->Hp->VK->Prop}(h:SlR X r)(h':SlR X r'):SlR X (λx lo hi H Q=>r x lo hi H Q∨r' x lo hi H Q):=by
 intro pins s σ H x v vl vu lo hi sl Q I rx hs pl pu q;rcases q with q|q
 ·exact h pins s σ H x v vl vu lo hi sl Q I rx hs pl pu q
 ·exact h' pins s σ H x v vl vu lo hi sl Q I rx hs pl pu q
def tSl(r:V->Option Int->Option Int->Hp->VK->Prop)(te:TE)(tl th:TO):TE:=λσ H Q=>te σ H λx H1=>tl σ H1 λl H2=>th σ H2 λu H3=>r x l u H3 Q
def aE0{r:V->Option Int->Option Int->Hp->VK->Prop}(hr:SlR X r)(he:PE X e te)(hl:PO X lo tl)(hu:PO X hi th):PE X (.Subscript e (.Slice lo hi none p2) pos) (tSl r te tl th):=by
 intro pins s σ H Q I h;refine Vc (thn (he pins s σ H _ I h) λv s1 ⟨x,H1,I1,r1,q1⟩=>?_);refine wpAny_Slice (thn (hl pins s1 σ H1 _ I1 q1) λvl s2 ⟨l,H2,I2,pl,q2⟩=>thn (hu pins s2 σ H2 _ I2 q2) λvu s3 ⟨u,H3,I3,pu,q3⟩=>?_);rw[evalPart_none];refine Ac ?_;have I4:Inv X pins σ H3 {s3 with heap:=s3.heap.push {cls:=.type "slice",data:=.fields #[vl,vu,.none]}}:=I3.kept (t':=s3.toks) λb ob q=>Ad _ q;obtain⟨T,id,hT,ht,hg⟩:=hr pins {s3 with heap:=s3.heap.push {cls:=.type "slice",data:=.fields #[vl,vu,.none]}} σ H3 x v vl vu l u s3.heap.objs.size Q I4 r1 (Ul ..) pl pu q3;show #v[6] (subscriptTail e (.Slice lo hi none p2) v (.ref s3.heap.objs.size)) (EP X pins σ Q) X.xe {s3 with heap:=s3.heap.push {cls:=.type "slice",data:=.fields #[vl,vu,.none]}};exact tail_any (ops:=[.ref s3.heap.objs.size,v]) ht hT hg (by with_unfolding_all rfl)
def aAs(xs:List V)(lo hi:Option Int):List V:=(xs.drop (HT.sIx xs.length 0 lo)).take (HT.sIx xs.length xs.length hi-HT.sIx xs.length 0 lo)
def yC(xs:List V)(lo hi:Option Int):(aAs xs lo hi).length<=xs.length:=by
 unfold aAs;rw[Bp,Dm]
 lia
inductive aSb(K:Ae)(x:V)(lo:Option Int)(hi:Option Int)(H:Hp)(Q:VK):Prop
 |mk (a xs:_) (q0_:x=.ref a) (q1_:SqT K H a xs) (q2_:¬(HT.sIx xs.length 0 lo=0/\HT.sIx xs.length xs.length hi=xs.length)) (q3_:∀p,H p=none->Q (.ref p) (upd H p (.tup (aAs xs lo hi)))):aSb K x lo hi H Q
def bAc(K:Ae):V->Option Int->Option Int->Hp->VK->Prop:=λx lo hi H Q=>aSb K x lo hi H Q
def aMf:SlR X (bAc X.K):=by
 intro pins s σ H x v vl vu lo hi sl Q I rx hs pl pu h;obtain⟨a,xs,rfl,hx,hw,q⟩:=h;cases rx;obtain⟨its,r,ht,hz⟩:=I.tuple hx;have hlen:its.toArray.size=xs.length:=by rw[Ai];exact r.length.symm
 refine⟨"tuple",_,PyProof.Rows.slot_tuple_getitem.lookup,ht.typeIs,?_⟩;refine HT.vV ht hs pl pu (by rw[hlen];exact hw) ?_ (by rw[hlen];exact hz);rw[hlen];refine⟨.ref #v[0],_,I.laid (t':=s.toks) (o:=.tup (aAs xs lo hi)) (λb ob q=>Ad _ q) (Ak _) ?_,rfl,q _ (I.hok.fresh (Ak _))⟩;exact⟨Ba (yC xs lo hi) hz,_,(r.drop (HT.sIx xs.length 0 lo)).take (HT.sIx xs.length xs.length hi-HT.sIx xs.length 0 lo),Sf _ _⟩
inductive aL0(K:Ae)(x:V)(y:V)(H:Hp)(Q:VK):Prop
 |mk (a b xs ys:_) (q0_:x=.ref a) (q1_:y=.ref b) (q2_:SqT K H a xs) (q3_:SqT K H b ys) (q4_:xs≠[]) (q5_:xs.length+ys.length<=sizeLine) (q6_:(ys=[]->Q (.ref a) H)) (q7_:(ys≠[]->∀p,H p=none->Q (.ref p) (upd H p (.tup (xs++ys))))):aL0 K x y H Q
def aR6(K:Ae):R2:=λx y H Q=>aL0 K x y H Q
def Vals.nil_iff{xs:List V}{us:List Value}(r:Vals xs us):us=[]↔xs=[]:=by
 cases r with
 |nil=>simp
 |cons _ _=>simp
def aPt:OpR X (binaryOp .Add) (aR6 X.K):=by
 intro pins s σ H x y v u Q I rx ry h;obtain⟨a,b,xs,ys,rfl,rfl,ha,hb,hx,hz,q1,q2⟩:=h;cases rx;cases ry;obtain⟨its,r1,p1,_⟩:=I.tuple ha;obtain⟨its2,r2,p2,_⟩:=I.tuple hb;refine HT.aQ3 p1 p2 (λz=>hx (r1.nil_iff.mp z)) (λz=>⟨.ref a,H,I,rfl,q1 (r2.nil_iff.mp z)⟩) (λz=>?_) (by rw[<-r1.length, <-r2.length];exact hz);refine⟨.ref #v[0],_,I.laid (t':=s.toks) (o:=.tup (xs++ys)) (λb ob q=>Ad _ q) (Ak _) ?_,rfl,q2 (λw=>z (r2.nil_iff.mpr w)) _ (I.hok.fresh (Ak _))⟩;exact⟨by rw[An];exact hz,_,r1.append r2,Sf _ _⟩
def ixN(n:Nat)(i:Int):Option Nat:=if 0<=i then(if i<n then some i.toNat else none)else if-(n:Int)<=i then some (i+n).toNat else none
def atI{α:Type}(xs:List α)(i:Int):Option α:=(ixN xs.length i).bind λj=>xs[j]?
def aI3{i:Int}{j:Nat}(h:ixN n i=some j):seqIndex? i n=some j/\j<n/\ -(n:Int)<=i/\i<n:=by
 unfold ixN at h;by_cases h0:0<=i
 ·rw[if_pos h0]at h;by_cases h1:i<n
  ·rw[if_pos h1]at h;have e:i.toNat=j:=Bl h;exact⟨by rw[Td h0 h1,e],∅,∅,h1⟩
  ·rw[if_neg h1]at h;cases h
 ·rw[if_neg h0]at h;by_cases h1: -(n:Int)<=i
  ·rw[if_pos h1]at h;have e:(i+n).toNat=j:=Bl h;exact⟨by rw[Rt ∅ h1,e],∅,h1,∅⟩
  ·rw[if_neg h1]at h;cases h
def aDl{α:Type}{xs:List α}{i:Int}{v:α}(h:atI xs i=some v):∃j,seqIndex? i xs.length=some j/\xs[j]? =some v/\j<xs.length/\ -(xs.length:Int)<=i/\i<xs.length:=by
 unfold atI at h;cases e:ixN xs.length i with
 |none=>rw[e]at h;cases h
 |some j=>
  rw[e]at h;obtain⟨h1,h2,h3,h4⟩:=aI3 e;exact⟨j,h1,h,h2,h3,h4⟩
def jA{α:Type}{xs:List α}{j:Nat}{v:α}(h:xs[j]? =some v):atI xs (j:Int)=some v:=by
 have hj:j<xs.length:=(List.getElem?_eq_some_iff.mp h).1;have e:ixN xs.length (j:Int)=some j:=by
  unfold ixN;rw[if_pos ∅,if_pos ∅];simp
 unfold atI;rw[e];exact h
def aIh(b:Expr):Prop:=∀o i,subscripted b false o i=operate [o,i] (getItem o i)
def IxR(X:Cx)(r:R2):Prop:=
 ∀(value slice:Expr)(pins:#v[9])(s:Shared)(σ:St)(H:Hp)(x y:V)(v u:Value)(Q:VK),#v[5]->RelV x v->RelV y u->r x y H Q->
  subscripted slice false v u=operate [v,u] (getItem v u)->#v[6] (subscriptTail value slice v u) (EP X pins σ Q) X.xe s
def MtR(X:Cx)(id:String)(r:V->List V->Hp->VK->Prop):Prop:=
 ∀(pins:#v[9])(s:Shared)(σ:St)(H:Hp)(x:V)(xs:List V)(v:Value)(us:List Value)(Q:VK),#v[5]->RelV x v->Vals xs us->r x xs H Q->
  #v[6] (call (.builtin id) (v::us)) (EP X pins σ Q) X.xe s
def aWl(K:Ae):List V->Hp->VK->Prop:=λxs H Q=>∃p ys,xs=[.ref p]/\(SqL K H p ys∨SqT K H p ys)/\Q (.int ys.length) H
def aYe(K:Ae):List V->Hp->VK->Prop:=λxs H Q=>∃p ys,xs=[.ref p]/\(SqL K H p ys∨SqT K H p ys)/\∀l,H l=none->Q (.ref l) (upd H l (.lst ys))
section
variable {X:Cx}{a b:Expr}{ta tb:TE}{pos:Pos}
def IxR.or{r r':R2}(h:IxR X r)(h':IxR X r'):IxR X (λx y H Q=>r x y H Q∨r' x y H Q):=by
 intro value slice pins s σ H x y v u Q I rx ry q hs;rcases q with q|q
 ·exact h value slice pins s σ H x y v u Q I rx ry q hs
 ·exact h' value slice pins s σ H x y v u Q I rx ry q hs
def yO{r:R2}(hr:IxR X r)(ha:PE X a ta)(hb:PE X b tb)(hs:aIh b):PE X (.Subscript a b pos) (tOp r ta tb):=by
 intro pins s σ H Q I h;exact Vc (aWe ha hb I h λv u s2 x y H2 I2 rx ry q=>hr a b pins s2 σ H2 x y v u Q I2 rx ry q (hs _ _))
inductive aTa(K:Ae)(x:V)(y:V)(H:Hp)(Q:VK):Prop
 |mk (p xs i v:_) (q0_:x=.ref p) (q1_:y=.int i) (q2_:SqL K H p xs) (q3_:atI xs i=some v) (q4_:Q v H):aTa K x y H Q
def aVh(K:Ae):R2:=λx y H Q=>aTa K x y H Q
inductive aS6(K:Ae)(x:V)(y:V)(H:Hp)(Q:VK):Prop
 |mk (p xs i v:_) (q0_:x=.ref p) (q1_:y=.int i) (q2_:SqT K H p xs) (q3_:atI xs i=some v) (q4_:Q v H):aS6 K x y H Q
def aTp(K:Ae):R2:=λx y H Q=>aS6 K x y H Q
inductive aSm(x:V)(y:V)(H:Hp)(Q:VK):Prop
 |mk (z i c:_) (q0_:x=.str z) (q1_:y=.int i) (q2_:z.length<=sizeLine) (q3_:atI z.cps.toList i=some c) (q4_:Q (.str ⟨#[c]⟩) H):aSm x y H Q
def aX8:R2:=λx y H Q=>aSm x y H Q
def nG:IxR X (aVh X.K):=by
 intro value slice pins s σ H x y v u Q I rx ry h hs;obtain⟨p,xs,i,z,rfl,rfl,hq,he,q⟩:=h;cases rx;obtain⟨t,rfl⟩:=ry;obtain⟨its,r,pl,hz⟩:=I.list hq;obtain⟨j,h1,h2,h3,h4,h5⟩:=aDl he;obtain⟨w,ew,rw'⟩:=r.get h2;have hl:=r.length;have hn:=aAe;have fin:EP X pins σ Q w s:=⟨z,H,I,rw',q⟩;by_cases h0:0<=i
 ·have hj:i.toNat=j:=by
   rw[Td h0 h5]at h1;exact Bl h1
  exact item_listR pl.isList h0 ∅ (by rw[hj];simpa using ew) fin hs
 ·have hj:(i+(its.toArray.size:Int)).toNat=j:=by
   rw[Rt ∅ h4]at h1;rw[Ai, <-hl];exact Bl h1
  exact Rk (x:=w) pl.isList.typeIs slot_list_getitem.lookup
   (wpAny_getItem_list_neg (Q:=λr s'=>r=w/\EP X pins σ Q r s') pl.isList ∅ (by rw[Ai]<;>lia) ∅ (by rw[hj];simpa using ew) ⟨rfl,fin⟩) hs
def aVo:IxR X (aTp X.K):=by
 intro value slice pins s σ H x y v u Q I rx ry h hs;obtain⟨p,xs,i,z,rfl,rfl,hq,he,q⟩:=h;cases rx;obtain⟨t,rfl⟩:=ry;obtain⟨its,r,pl,hz⟩:=I.tuple hq;obtain⟨j,h1,h2,h3,h4,h5⟩:=aDl he;obtain⟨w,ew,rw'⟩:=r.get h2;have hl:=r.length;have hn:=aAe;have fin:EP X pins σ Q w s:=⟨z,H,I,rw',q⟩;exact Rk (x:=w) pl.typeIs slot_tuple_getitem.lookup
  (getItem_tuple (j:=j) (Q:=λr s'=>r=w/\EP X pins σ Q r s') pl ∅ ∅ (by rw[Ai, <-hl];exact h1) (by simpa using ew) ⟨rfl,fin⟩) hs
def aVu:IxR X aX8:=by
 intro value slice pins s σ H x y v u Q I rx ry h hs;obtain⟨z,i,c,rfl,rfl,hz,he,q⟩:=h;obtain⟨t,rfl⟩:=rx;obtain⟨t',rfl⟩:=ry;obtain⟨j,h1,h2,h3,h4,h5⟩:=aDl he;have hl:z.cps.toList.length=z.length:=by simp[Str.length]
 rw[hl]at h1 h4 h5;have hn:=aAe;exact tail_any (typeIs_str s z t) slot_str_getitem.lookup (getItem_str (c:=c) (by
  have e1:decide (i< -(2 ^ 63:Int))=false:=decide_eq_false ∅;have e2:decide (i≥2 ^ 63)=false:=decide_eq_false ∅;rw[e1,e2,Bool.or_false]) (by rw[h1];simpa using h2) ⟨.str ⟨#[c]⟩,H,I.tok _,⟨_,rfl⟩,q⟩) hs
def rIx(K:Ae):R2:=λx y H Q=>aVh K x y H Q∨aTp K x y H Q∨aX8 x y H Q
def aU:IxR X (rIx X.K):=nG.or (aVo.or aVu)
def aG3(its:List Value)(n j:Nat)(u:Value):Dh (·.setIfInBounds j u) {cls:=.type "list",data:=.seq its.toArray n}={cls:=.type "list",data:=.seq (its.set j u).toArray n}:=by
 simp[Dh]
def Inv.lst{pins:#v[9]}{σ:St}{H:Hp}{s:Shared}{p:Addr}{xs:List V}(I:#v[5])(h:H p=some (.lst xs)):
  ∃(its:List Value)(n:Nat),Vals xs its/\s.heap.get? p=some {cls:=.type "list",data:=.seq its.toArray n}/\xs.length<=sizeLine:=by
 obtain⟨z,its,n,r,e⟩:=I.hok p _ h;exact⟨its,n,r,e,z⟩
def Inv.lstUpd{σ:St}{H:Hp}{p:Addr}{xs ys:List V}{n n':Nat}{f:Obj->Obj}(I:#v[5])(h:H p=some (.lst xs))
  (ho:s.heap.get? p=some {cls:=.type "list",data:=.seq its.toArray n}) (hf:f {cls:=.type "list",data:=.seq its.toArray n}={cls:=.type "list",data:=.seq its'.toArray n'}) (r:Vals ys its') (hz:ys.length<=sizeLine) (t:Nat):
  Inv X pins σ (upd H p (.lst ys)) {s with heap:=s.heap.update p f,toks:=t}:=by
 have e:(s.heap.update p f).get? p=some {cls:=.type "list",data:=.seq its'.toArray n'}:=by
  rw[Bj f ho (by rw[hf]<;>rfl),hf]
 refine I.write (x:=p) (e:=p) (by rw[h];trivial) (.inl rfl) (λb u hb q=>(Cj _ _ (Cg hb)).trans q) ⟨_,e⟩ ?_;exact⟨hz,its',n',r,e⟩
inductive aLh(o:V)(i:V)(v:V)(H:Hp)(Q:(Hp->Prop)):Prop
 |mk (p xs k j:_) (q0_:o=.ref p) (q1_:i=.int k) (q2_:H p=some (.lst xs)) (q3_:ixN xs.length k=some j) (q4_:Q (upd H p (.lst (xs.set j v)))):aLh o i v H Q
def aWo:V->V->V->Hp->(Hp->Prop)->Prop:=λo i v H Q=>aLh o i v H Q
def set_list:aYs X aWo:=by
 intro pins s σ H o i v ov iv u Q I ro ri rv h;obtain⟨p,xs,k,j,rfl,rfl,hp,hj,q⟩:=h;cases ro;obtain⟨t,rfl⟩:=ri;obtain⟨its,n,r,ho,hz⟩:=I.lst hp;obtain⟨h1,h2,h3,h4⟩:=aI3 hj;have hl:=r.length;have hn:=aAe;have I':Inv X pins σ (upd H p (.lst (xs.set j v))) {s with heap:=s.heap.update p (Dh (·.setIfInBounds j u))}:=
  I.lstUpd hp ho (aG3 its n j u) (r.set rv j) (by rw[Cu];exact hz) s.toks
 by_cases h0:0<=k
 ·have hk:k.toNat=j:=by
   rw[Td h0 h4]at h1;exact Bl h1
  exact PySem.W.ki_setAt ho h0 ∅ (by rw[Ai, <-hl];exact h4) (by rw[hk];exact⟨_,I',q⟩)
 ·have hk:(k+(its.toArray.size:Int)).toNat=j:=by
   rw[Rt ∅ h3]at h1;rw[Ai, <-hl];exact Bl h1
  exact PySem.W.ki_setBack ho ∅ (by rw[Ai, <-hl];exact h3) ∅ (by rw[hk];exact⟨_,I',q⟩)
def aDe(lo hi:Option Int)(n:Nat):(sliceBounds lo hi none n).1=((HT.sIx n 0 lo:Nat):Int)/\(sliceBounds lo hi none n).2.1=((HT.sIx n n hi:Nat):Int)/\(sliceBounds lo hi none n).2.2=1:=by
 refine⟨?_,?_,rfl⟩
 ·cases lo with
  |none=>simp[sliceBounds,HT.sIx]
  |some i=>
   simp only[sliceBounds,HT.sIx,Qx,show(1:Int)>0 by decide,if_true];by_cases h:i<0
   ·simp only[h,if_true]<;>lia
   ·simp only[h,if_false]<;>lia
 ·cases hi with
  |none=>simp[sliceBounds,HT.sIx]
  |some i=>
   simp only[sliceBounds,HT.sIx,Qx,show(1:Int)>0 by decide,if_true];by_cases h:i<0
   ·simp only[h,if_true]<;>lia
   ·simp only[h,if_false]<;>lia
def aBl(its:List Value)(lo hi:Option Int):slicePick its.toArray lo hi none=((its.drop (HT.sIx its.length 0 lo)).take (HT.sIx its.length its.length hi-HT.sIx its.length 0 lo)).toArray:=by
 obtain⟨h1,h2,h3⟩:=aDe lo hi its.toArray.size;unfold slicePick;rw[h1,h2,h3];simp only[sliceRange_one,pick_run,Ai]<;>rfl
inductive aS7(K:Ae)(x:V)(lo:Option Int)(hi:Option Int)(H:Hp)(Q:VK):Prop
 |mk (a xs:_) (q0_:x=.ref a) (q1_:SqL K H a xs) (q2_:∀p,H p=none->Q (.ref p) (upd H p (.lst (aAs xs lo hi)))):aS7 K x lo hi H Q
def aZr(K:Ae):V->Option Int->Option Int->Hp->VK->Prop:=λx lo hi H Q=>aS7 K x lo hi H Q
def aIb:SlR X (aZr X.K):=by
 intro pins s σ H x v vl vu lo hi sl Q I rx hs pl pu h;obtain⟨a,xs,rfl,hx,q⟩:=h;cases rx;obtain⟨its,r,ht,hz⟩:=I.list hx;have hlen:=r.length;refine⟨"list",_,slot_list_getitem.lookup,ht.isList.typeIs,?_⟩;refine wpAny_getItem_list_slice ht.isList hs pl pu .none (by simp) ?_ (by rw[Ai]<;>lia);rw[aBl, <-hlen];refine⟨.ref #v[0],_,I.laid (t':=s.toks) (o:=.lst (aAs xs lo hi)) (λb ob q=>Ad _ q) (Ak _) ?_,rfl,q _ (I.hok.fresh (Ak _))⟩;exact⟨Ba (yC xs lo hi) hz,_,0,(r.drop (HT.sIx xs.length 0 lo)).take (HT.sIx xs.length xs.length hi-HT.sIx xs.length 0 lo),Al _ rfl⟩
def rC:V->Bool
 |.non=>true
 |.bl _=>true
 |.int _=>true
 |.str _=>true
 |_=>false
def eqV:V->V->Bool
 |.non,.non=>true
 |.bl a,.bl b=>a==b
 |.bl a,.int b=>(if a then 1 else 0)==b
 |.int a,.bl b=>a==(if b then 1 else 0)
 |.int a,.int b=>a==b
 |.str a,.str b=>a==b
 |_,_=>false
def aTw{A:Around}{y x:V}{u v:Value}(ry:RelV y u)(rx:RelV x v)(fy:rC y=true)(fx:rC x=true):Kl A s u v (eqV y x):=by
 cases y with
 |non=>
  cases ry;cases x with
  |non=>cases rx;exact Lw _
  |bl b=>cases rx;exact SeqAt.EqAt.none_bool b
  |int b=>obtain⟨t,rfl⟩:=rx;exact SeqAt.EqAt.none_int b t
  |str b=>obtain⟨t,rfl⟩:=rx;exact SeqAt.EqAt.none_str b t
  |_=>exact(Ao fx).elim
 |bl a=>
  cases ry;cases x with
  |non=>cases rx;exact SeqAt.EqAt.bool_none a
  |bl b=>cases rx;exact SeqAt.EqAt.bool_bool a b
  |int b=>obtain⟨t,rfl⟩:=rx;exact SeqAt.EqAt.bool_int a b t
  |str b=>obtain⟨t,rfl⟩:=rx;exact SeqAt.EqAt.bool_str a b t
  |_=>exact(Ao fx).elim
 |int a=>
  obtain⟨t',rfl⟩:=ry;cases x with
  |non=>cases rx;exact SeqAt.EqAt.int_none a t'
  |bl b=>cases rx;exact SeqAt.EqAt.int_bool a t' b
  |int b=>obtain⟨t,rfl⟩:=rx;exact SeqAt.EqAt.int_int a t' b t
  |str b=>obtain⟨t,rfl⟩:=rx;exact Oi a t' b t
  |_=>exact(Ao fx).elim
 |str a=>
  obtain⟨t',rfl⟩:=ry;cases x with
  |non=>cases rx;exact SeqAt.EqAt.str_none a t'
  |bl b=>cases rx;exact SeqAt.EqAt.str_bool a t' b
  |int b=>obtain⟨t,rfl⟩:=rx;exact Og a t' b t
  |str b=>obtain⟨t,rfl⟩:=rx;exact SeqAt.EqAt.str_str a t' b t
  |_=>exact(Ao fx).elim
 |_=>exact(Ao fy).elim
def aR:dY X (.builtin "len") (aWl X.K):=by
 intro pins s σ H xs us Q I r h;obtain⟨p,ys,rfl,hq,q⟩:=h;obtain⟨u,rfl,rx⟩:=vals1 r;cases rx;have hn:=aAe;rcases hq with hq|hq
 ·obtain⟨its,r',pl,hz⟩:=I.list hq;have hlen:=r'.length;exact Calls.call_len_list pl.isList (by simp only[Ai]<;>lia) ⟨.int ys.length,H,I.tok _,⟨s.toks+1,by rw[Ai,hlen]⟩,q⟩
 ·obtain⟨its,r',pl,hz⟩:=I.tuple hq;have hlen:=r'.length;exact len_tuple pl (by simp only[Ai]<;>lia) ⟨.int ys.length,H,I.tok _,⟨s.toks+1,by rw[Ai,hlen]⟩,q⟩
def aEi:dY X (.type "list") (aYe X.K):=by
 intro pins s σ H xs us Q I r h;obtain⟨p,ys,rfl,hq,q⟩:=h;obtain⟨u,rfl,rx⟩:=vals1 r;cases rx;have fin:∀(its:List Value),Vals ys its->ys.length<=sizeLine->∀(h':Heap)(c':Nat),(∀b o',s.heap.get? b=some o'->h'.get? b=some o')->
   h'.get? #v[0]=some {cls:=.type "list",dict:=none,data:=.seq its.toArray c',slots:= #[]}->EP X pins σ Q (.ref #v[0]) {s with heap:=h'}:=λits r' hz h' c' kp e=>
  ⟨.ref #v[0],_,I.laid (t':=s.toks) kp (Ak _) (show bR X.prog X.w _ h' _ (.lst ys)from⟨hz,its,c',r',e⟩),rfl,q _ (I.hok.fresh (Ak _))⟩
 rcases hq with hq|hq
 ·obtain⟨its,r',pl,hz⟩:=I.list hq;have hlen:=r'.length;obtain⟨o,ho,hc,n,hd⟩:=pl.isList;exact call_list_seq p (.inl rfl) ho hc hd (λh' c' kp e=>fin its r' hz h' c' kp e) (by simp only[Ai]<;>lia)
 ·obtain⟨its,r',pl,hz⟩:=I.tuple hq;have hlen:=r'.length;obtain⟨o,ho,hc,n,hd⟩:=pl;exact call_list_seq p (.inr rfl) ho hc hd (λh' c' kp e=>fin its r' hz h' c' kp e) (by simp only[Ai]<;>lia)
def aBv:dY X (.type "tuple") (λxs H Q=>∃p ys,xs=[.ref p]/\((SqL X.K H p ys/\∀l,H l=none->Q (.ref l) (upd H l (.tup ys)))∨(SqT X.K H p ys/\Q (.ref p) H))):=by
 intro pins s σ H xs us Q I r h;obtain⟨p,ys,rfl,h⟩:=h;obtain⟨u,rfl,rx⟩:=vals1 r;cases rx;rcases h with ⟨hq,q⟩|⟨hq,q⟩
 ·obtain⟨its,r',pl,hz⟩:=I.list hq;have hlen:=r'.length;refine call_tuple_list pl.isList (λh' kp=>?_) (by simp only[Ai]<;>lia);have I1:Inv X pins σ H {s with heap:=h'}:=I.kept (t':=s.toks) kp;have I2:Inv X pins σ (upd H h'.objs.size (.tup ys)) {s with heap:=h'.push {cls:=.type "tuple",data:=.seq its.toArray}}:=
   I1.laid (t':=s.toks) (λb o e=>Ad _ e) (Ak _) (show bR X.prog X.w _ _ _ (.tup ys)from⟨hz,its,r',Sf _ _⟩)
  exact⟨.ref h'.objs.size,_,I2,rfl,q _ (I1.hok.fresh (Ak _))⟩
 ·obtain⟨its,r',pl,hz⟩:=I.tuple hq;exact call_tuple_same pl ⟨.ref p,H,I,rfl,q⟩
def tyV(K:Ae)(T:String)(x:V)(H:Hp):Prop:=match x with
 |.str _=>T="str"
 |.int _=>T="int"
 |.ref p=>(T="list"/\∃xs,SqL K H p xs)∨(T="tuple"/\∃o,K.lookup p=some o/\o.cls=.type "tuple"/\o.dict=none)∨
   (T="dict"/\((∃kvs,H p=some (.dK kvs))∨∃kvs,H p=some (.dT kvs)))∨(T="set"/\∃S n,H p=some (.set S n))
 |_=>False
def aUo{σ:St}{H:Hp}{T:String}{x:V}{v:Value}(I:#v[5])(r:RelV x v)(ty:tyV X.K T x H):
  s.TypeIs v T/\∀a,v=.ref a->∃ob,s.heap.get? a=some ob/\ob.dict=none:=by
 cases x with
 |str z=>
  obtain⟨t,rfl⟩:=r;cases (show T="str" from ty);exact⟨typeIs_str s z t,λ_ e=>nomatch e⟩
 |int i=>
  obtain⟨t,rfl⟩:=r;cases (show T="int" from ty);exact⟨typeIs_int s i t,λ_ e=>nomatch e⟩
 |ref p=>
  cases r;rcases ty with ⟨rfl,xs,hq⟩|⟨rfl,o,hk,hc,hd⟩|⟨rfl,hk⟩|⟨rfl,S,n,hk⟩
  ·obtain⟨its,_,pl,_⟩:=I.list hq;refine⟨pl.isList.typeIs,λa e=>?_⟩;cases e;obtain⟨o,n,e,c,hd,_⟩:=pl;exact⟨o,e,hd⟩
  ·refine⟨⟨o,I.kIn p o hk,hc⟩,λa e=>?_⟩;cases e;exact⟨o,I.kIn _ o hk,hd⟩
  ·have z:∃o,s.heap.get? p=some o/\o.ExactDict:=by
    rcases hk with ⟨kvs,hk⟩|⟨kvs,hk⟩
    ·obtain⟨_,_,_,_,o,_,_,e,ex,_⟩:=I.hok p _ hk;exact⟨o,e,ex⟩
    ·obtain⟨_,_,_,_,o,_,_,e,ex,_⟩:=I.hok p _ hk;exact⟨o,e,ex⟩
   obtain⟨o,e,ex⟩:=z;refine⟨⟨o,e,ex.1⟩,λa e2=>?_⟩;cases e2;exact⟨o,e,ex.2.1⟩
  ·obtain⟨o,_,_,_,e,ex,_⟩:=I.hok p _ hk;refine⟨⟨o,e,ex.1⟩,λa e2=>?_⟩;cases e2;exact⟨o,e,ex.2.1⟩
 |_=>exact Fc ty
def tBM(K:Ae)(T:String)(r:V->List V->Hp->VK->Prop)(to:TE)(t:TA):TE:=λσ H Q=>to σ H λx H1=>tyV K T x H1/\t σ H1 λxs H2=>r x xs H2 Q
variable {o e:Expr}{es:List Expr}{to:TE}{t:TA}{name:Str}{apos cpos:Pos}{T id:String}{r:V->List V->Hp->VK->Prop}
def aLw(pa:PlainAttrs T)(slot:Slot T name id)(hty:typeOf (.builtin id)=pure (.type "method_descriptor"))(hm:MtR X id r)(ho:PE X o to)(ha:PA X (e::es) t)
  (hbase:attributeBase o name X.env (eval o X.env)=eval o X.env:=by rfl)
  (hfew:((backTo cpos (starEach (e::es) X.env)).all (λx=> !x.1) && (backToKw cpos (keywordEach [] X.env)).all (λx=>x.1.isSome)
   && decide ((e::es).length+([]:List Keyword).length+(if([]:List Keyword).isEmpty then 0 else 1)<30))=true:=by rfl)
  (hline:EL apos cpos:=by rfl) (hs:SE X e es:=by rfl) (hplain:BT X cpos es:=by rfl):
  PE X (.Call (.Attribute o name apos) (e::es) [] cpos) (tBM X.K T r to t):=by
 intro pins s σ H Q I h;refine Ri hbase hfew hline rfl (thn (ho pins s σ H _ I h) λv s1 ⟨x,H1,I1,r1,ty,q1⟩=>?_);obtain⟨h1,h2⟩:=aUo I1 r1 ty;refine⟨T,id,pa,slot,hty,h1,h2,?_⟩;have hA:=ha cpos pins s1 σ H1 _ I1 q1;rw[hs]at hA⊢;refine Hr (by show(false || (backTo cpos (starEach es X.env)).any (·.1))=false;rw[hplain]<;>rfl) (Kz ?_);exact thn hA λus s2 ⟨vs,H2,I2,r2,q2⟩=>hm pins s2 σ H2 x vs v us Q I2 r1 r2 q2
end
def MtM(X:Cx)(id:String)(r:V->List V->Hp->VK->Prop):Prop:=
 ∀(pins:#v[9])(s:Shared)(σ:St)(H:Hp)(x:V)(xs:List V)(v:Value)(us:List Value)(Q:VK),#v[5]->RelV x v->Vals xs us->r x xs H Q->
  #v[6] (call (.builtin id) (v::us)) (EP X pins σ Q) X.xe s
def Vals.one:∀{x:V}{us:List Value},Vals [x] us->∃u,us=[u]/\RelV x u
 |_,_,.cons r .nil=>⟨_,rfl,r⟩
variable {pins:#v[9]}{σ:St}{H:Hp}{s:Shared}{l b:Addr}{xs ys zs:List V}
def Inv.lset{f:Array Value->Array Value}{t':Nat}(I:#v[5])(hH:H l=some (.lst xs))
  (e:s.heap.get? l=some {cls:=.type "list",data:=.seq its.toArray n}) (hf:f its.toArray=its'.toArray) (hv:Vals ys its') (hz:ys.length<=sizeLine):
  Inv X pins σ (upd H l (.lst ys)) {s with heap:=s.heap.update l (Dh f),toks:=t'}:=by
 have q:=PySem.IsL.update e f;rw[hf]at q;refine I.write (x:=l) (e:=l) (by rw[hH];exact trivial) (.inl rfl) (λb' u hb hu=>(Cj s.heap (Dh f) (Cg hb)).trans hu) ⟨_,q⟩ ?_;exact⟨hz,its',_,hv,q⟩
def Inv.lnew{its:List Value}{t':Nat}(I:#v[5])(hv:Vals ys its)(hz:ys.length<=sizeLine):
  Inv X pins σ (upd H #v[0] (.lst ys)) {s with heap:=s.heap.push {cls:=.type "list",data:=.seq its.toArray},toks:=t'}:=
 I.laid (λ_ _ q=>Ad _ q) (Ak _) ⟨hz,its,0,hv,Al _ rfl⟩
def Inv.fresh(I:#v[5]):H #v[0]=none:=I.hok.fresh (Ak _)
def Inv.lstM(I:#v[5])(hH:H l=some (.lst xs)):xs.length<=sizeLine/\∃(its:List Value)(n:Nat),Vals xs its/\xs.length=its.length/\s.heap.get? l=some {cls:=.type "list",data:=.seq its.toArray n}:=by
 obtain⟨z,its,n,r,e⟩:=I.hok l _ hH;exact⟨z,its,n,r,r.length,e⟩
def aN0(h:n<=sizeLine):Iq n=false:=by
 unfold Iq;exact decide_eq_false ∅
inductive aFu(x:V)(vs:List V)(H:Hp)(Q:VK):Prop
 |mk (l xs y:_) (q0_:x=.ref l) (q1_:vs=[y]) (q2_:H l=some (.lst xs)) (q3_:xs.length<sizeLine) (q4_:Q .non (upd H l (.lst (xs++[y])))):aFu x vs H Q
def aQo:V->List V->Hp->VK->Prop:=λx vs H Q=>aFu x vs H Q
def aCs:MtM X "list.append" aQo:=by
 intro pins s σ H x vs v us Q I rx rv h;obtain⟨l,xs,y,rfl,rfl,hH,hz,q⟩:=h;cases rx;obtain⟨u,rfl,ru⟩:=rv.one;obtain⟨z,its,n,r,hl,e⟩:=I.lstM hH;refine Uz F.slot_list_append ⟨_,e,rfl⟩ F.entry_list_append (F.args_list_append_2 _ _) (PySem.list_append l its.toArray n u (by rw[Ai];lia)) ⟨e,?_⟩;refine⟨.non,_,I.lset (its':=its++[u]) hH e (by simp) (r.append (.cons ru .nil)) ?_,rfl,q⟩;rw[An,Cq]
 lia
inductive aEv(x:V)(vs:List V)(H:Hp)(Q:VK):Prop
 |mk (l b xs zs:_) (q0_:x=.ref l) (q1_:vs=[.ref b]) (q2_:H l=some (.lst xs)) (q3_:H b=some (.lst zs)) (q4_:xs.length+zs.length<=sizeLine) (q5_:Q .non (upd H l (.lst (xs++zs)))):aEv x vs H Q
def aQd:V->List V->Hp->VK->Prop:=λx vs H Q=>aEv x vs H Q
def aJy:MtM X "list.extend" aQd:=by
 intro pins s σ H x vs v us Q I rx rv h;obtain⟨l,b,xs,zs,rfl,rfl,hH,hB,hz,q⟩:=h;cases rx;obtain⟨u,rfl,ru⟩:=rv.one;cases ru;obtain⟨z,its,n,r,hl,e⟩:=I.lstM hH;obtain⟨z2,its2,n2,r2,hl2,e2⟩:=I.lstM hB;have hsz:its.toArray.size+its2.toArray.size<=sizeLine:=by rw[Ai,Ai];lia
 have hlong:¬(!its.toArray.isEmpty && Iq (its.toArray.size+its2.toArray.size))=true:=by
  rw[aN0 hsz,Gs];exact Ao
 refine Uz F.slot_list_extend ⟨_,e,rfl⟩ F.entry_list_extend (F.args_list_extend_2 _ _)
  (AutoSeq1.list_extend_list_list_0 l its.toArray n b its2.toArray n2 hlong (by rw[Ai];lia) ∅) ⟨e,e2,?_⟩
 refine⟨.non,_,I.lset (its':=its++its2) hH e (by simp) (r.append r2) ?_,rfl,q⟩;rw[An]
 lia
inductive aSk(x:V)(y:V)(H:Hp)(Q:VK):Prop
 |mk (l b xs zs:_) (q0_:x=.ref l) (q1_:y=.ref b) (q2_:H l=some (.lst xs)) (q3_:H b=some (.lst zs)) (q4_:xs.length+zs.length<=sizeLine) (q5_:∀p,H p=none->Q (.ref p) (upd H p (.lst (xs++zs)))):aSk x y H Q
def aXa:R2:=λx y H Q=>aSk x y H Q
def aTv:OpR X (binaryOp .Add) aXa:=by
 intro pins s σ H x y v u Q I rx ry h;obtain⟨l,b,xs,zs,rfl,rfl,hH,hB,hz,q⟩:=h;cases rx;cases ry;obtain⟨z,its,n,r,hl,e⟩:=I.lstM hH;obtain⟨z2,its2,n2,r2,hl2,e2⟩:=I.lstM hB;refine PySem.P.add_list e e2 ?_ (by rw[Ai,Ai];lia);have ea:its.toArray++its2.toArray=(its++its2).toArray:=by simp
 rw[ea];exact⟨.ref _,_,I.lnew (t':=s.toks) (r.append r2) (by rw[An];lia),rfl,q _ I.fresh⟩
variable {prog:Program}{w:World}{A:Around}{E:#v[7]}
end L2
namespace Att
open PySem PySem.W PySem.Calls PyProof.Rows
def yR{P:Params}{h:Heap}:∀(ns:List Int)(vs:List Value),WellAll P h vs (ns.map Xb)->IntsAre vs ns:=by
 intro ns;induction ns with
 |nil=>
  intro vs w;rw[Ep]at w;cases w;exact .nil
 |cons n ns ih=>
  intro vs w;rw[Bo]at w;cases w with
  |cons a b=>
   cases a;exact .cons _ _ (ih _ b)
def aJ4{l:OpenLaw}{n:Nat}(hn:l.most=some n){P:Params}{h:Heap}{args:List WData}{vals:List Value}
  (hpre:l.row.toRowW.claim.pre args=true) (hwl:WellAll P h vals args):
  ∃a vs ns,vals=[Aj a]/\args=[WData.list (ns.map Xb)]/\h.get? a=some {cls:=.type "list",data:=.seq vs.toArray}/\IntsAre vs ns/\ns.length<=n:=by
 have hsh:WShape.hasAll [] args [.list .int]=true:=(pre_splitW hpre).1;have hc:l.pre.holds [] {args:=args}=true:=(pre_splitW hpre).2;obtain⟨d,r,rfl,h1,h2⟩:=hasAllW_cons hsh;obtain rfl:=hasAllW_nil h2;obtain⟨xs,rfl,h3⟩:=hasW_list h1;obtain⟨ns,rfl⟩:=items_int h3;have hlen:ns.length<=n:=by
  unfold OpenLaw.pre at hc;have h4:(WTm.not (.lt (.lit (.int (n:Int))) (.len (.arg 0)))).holds [] {args:=[.list (ns.map .int)]}=true:=by
   have h4:=(holds_andW hc).1;rw[hn]at h4;exact h4
  have h5:=condW_of h4 (w_not (w_lt w_lit (w_len_list (w_arg rfl))));rw[Ab]at h5;refine Nat.le_of_not_lt λq=>?_;have q':(n:Int)<((ns.length:Nat):Int):=by lia
  first
   |(rw[decide_eq_true q']at h5;exact absurd h5 ⋯)
   |(simp at h5;lia)
 cases hwl with
 |cons w1 w2=>
  cases w2;cases w1 with
  |list ho hall=>exact⟨_,_,ns,rfl,rfl,ho,yR ns _ hall,hlen⟩
def aK2(l:OpenLaw)(args:List WData):l.row.toRowW.claim.post args (.bool true) args=true:=
 postW_of (r:=l.row.toRowW) (X:=(true==true))
  (show Va [] (.bool true) .bool=true by first|rfl|decide|simp[Va,WShape.arms,WShape.armsAll])
  (show(WTm.eq .res (.lit (.bool true))).value [] {args:=args,res:=some (.bool true),after:=args}=some (.bool (true==true))from w_eq_bool (w_res rfl) w_lit) rfl
def aGf{l:OpenLaw}{n:Nat}{q:Program}{loose:List Str}{XP:(Str->#v[14])->Heap->Prop}{YP:World->Heap->Prop}{d:DefRec}
  (hn:l.most=some n) (hdf:d.params.defaults=[])
  (call:∀(w:World)(s₀ s₁:Shared)(mg mb:Str->#v[14])(fa:Addr)(o:Obj)(pm cd doc:Value)(a:Addr)(vs:List Value)(ns:List Int),
   Ground q loose [] XP w s₀ mg mb s₁.heap->YP w s₁.heap->
   s₁.heap.get? fa=some o->o.data=.func (docDef d.name d.params d.body d.scope pm cd doc)->s₁.heap.CodeRec cd d.name->mg d.name=some (.ref fa)->
   s₁.heap.get? a=some {cls:=.type "list",data:=.seq vs.toArray}->IntsAre vs ns->ns.length<=n->s₁.gens= #[]->
   codeAny (model l.prog w) callerA (.call (.ref fa) ⟨[.ref a],[]⟩) (λr s'=>r=.ok (.ret (.bool true))/\OldK s₁.heap s'.heap/\s'.os=s₁.os/\AllBare s'.gens) s₁):
  WalkO q loose XP YP l.row.toRowW d [] (λf vs=>Qw f vs):=by
 intro w s₀ s₁ mg mb G Y fa o pm cd doc dV kV ho hd hcd hD hmg hg args vals as hpre hlay hrd hwl hlo;obtain rfl:dV=.none:=Dflts.none hD hdf;obtain rfl:kV=.none:=Dflts.noKw hD;obtain⟨a,vs,ns,rfl,rfl,hobj,hints,hlen⟩:=aJ4 hn hpre hwl;refine enter_call (Ho (call w s₀ s₁ mg mb fa o pm cd doc a vs ns G Y ho (fd_plain hd) hcd hmg hobj hints hlen hg) λr s' hq=>?_);obtain⟨rfl,h2,h3,h4⟩:=hq;exact⟨.inl ⟨.bool true,.bool true,[],rfl,λ_=>rfl,.bool true,aK2 l _,λ_=>⟨Nu,λ_ hm=>(nomatch hm)⟩⟩,h2,h3,h4⟩
variable {prog:Program}{w:World}{A:Around}{E:#v[7]}{s:Shared}{K:Frag}
end Att
namespace L2
variable {fd:FuncData}{x qual:Str}{f:Addr}
open PySem PySem.Spec PyProof.Rows
theorem aCe:∀{vs:List Value}{ns:List Int},IntsAre vs ns->Vals (ns.map V.int) vs
 |_,_,.nil=> .nil
 |_,_,.cons n t h=> .cons ⟨t,rfl⟩ (aCe h)
def Only(H:Hp):Prop:=∀b,H b=none∨∃o xs,H b=some (.frz o (.lst xs))
def aMd{P:Program}{w:World}{K:Ae}{mg mb:Str->#v[14]}{CX:CXT}{k:Nat}{fa a:Addr}{x:Str}{sp:Sp}{s₁:Shared}{vs:List Value}{ns:List Int}
  (KX:K.In s₁.heap) (hns:s₁.heap.Ns mainGlobals mg) (hb:s₁.heap.Ns builtinsNs mb) (hbb:∀x:Str,x≠"__name__"->mb x=bootBuiltins x) (hlim:s₁.heap.NoLimit) (hg:s₁.gens= #[])
  (ha:s₁.heap.get? a=some {cls:=.type "list",data:=.seq vs.toArray}) (hi:IntsAre vs ns) (hl:ns.length<=sizeLine) (hr:cW k callerA)
  (F:∀base:Heap,K.In base->base.Ns mainGlobals mg->bI P w K mg base CX k fa fd [x] sp) (hbind:∀(s:Shared)(u:Value),BindsTo s fd ⟨[u],[]⟩ [(x,u)])
  (hsp:∀H:Hp,Only H->SqL K H a (ns.map V.int)->sp [.ref a] H (λv _=>v=.bl true) λ_ _ _=>False)
  (hCX:∀H e s',CX [] H s₁ (λ_ _ _=>False) e s'->False):
  codeAny (model P w) callerA (.call (.ref fa) ⟨[.ref a],[]⟩) (λr s'=>r=.ok (.ret (.bool true))/\OldK s₁.heap s'.heap/\s'.os=s₁.os/\AllBare s'.gens) s₁:=by
 have rv:=aCe hi;have lenV:=hi.length;have core:∀H:Hp,Only H->SqL K H a (ns.map V.int)->HOk P w H s₁.heap->(∀b,H b≠none->b=a)->(H a≠none->K.lookup a=none)->
   codeAny (model P w) callerA (.call (.ref fa) ⟨[.ref a],[]⟩) (λr s'=>r=.ok (.ret (.bool true))/\OldK s₁.heap s'.heap/\s'.os=s₁.os/\AllBare s'.gens) s₁:=by
  intro H hO hS hok hA hK;have base_of:∀{b:Addr}{o:Obj},s₁.heap.get? b=some o->H b=none->(aEf s₁.heap H).get? b=some o:=λe n=>aK8 e n;have noA:∀{b:Addr}{o:Obj}{es:Array DictEntry}{ep:Nat},s₁.heap.get? b=some o->o.data=.dict es ep->H b=none:=λ{b o es ep} e d=>by
   cases q:H b with
   |none=>rfl
   |some u=>
    have e':b=a:=hA b (by rw[q];simp);subst e';rw[ha]at e;cases e;have d':Rf vs.toArray _=Data.dict es ep:=d;cases d'
  have nsK:∀{b:Addr}{m:Str->#v[14]},s₁.heap.Ns b m->(aEf s₁.heap H).Ns b m:=λ{b m} ⟨o,es,ep,e,d,r⟩=>⟨o,es,ep,base_of e (noA e d),d,r⟩;have hKb:K.In (aEf s₁.heap H):=λb o e=>base_of (KX b o e) (by
   cases q:H b with
   |none=>rfl
   |some u=>
    have e':b=a:=hA b (by rw[q];simp);subst e';rw[hK (by rw[q];simp)]at e;cases e)
  have hM:Mod K mg (aEf s₁.heap H):=⟨hKb,nsK hns,⟨mb,nsK hb,hbb⟩,let⟨mc,h1,h2⟩:=hlim;⟨mc,nsK h1,h2⟩⟩;have e0:aIa P w K mg (aEf s₁.heap H) callerA [] s₁ H:=⟨rfl,hM,λb o e=>aP0 e,Qf (aKx _ _),trivial,λb hb=>absurd (show b∈([]:List Addr)from hb) (by simp),hok,.of_eq hg⟩;refine Ho ((F _ hKb (nsK hns)).run callerA [] s₁ H ⟨[.ref a],[]⟩ [.ref a] [.ref a] _ _ hr e0 (hbind s₁ (.ref a)) (.cons rfl .nil) (hsp H hO hS)) λr s' h=>?_;cases r with
  |error e=>exact(hCX H e s' h).elim
  |ok fl=>
   cases fl with
   |next=>exact Fc h
   |brk=>exact Fc h
   |cont=>exact Fc h
   |ret u=>
    obtain⟨v,H',os,bare,un,hok',r',q⟩:=h;have q':v=.bl true:=q;subst q';obtain rfl:u=Gx true:=r';refine⟨rfl,OldK.of_keep λb o e=>?_,os,bare⟩;cases q:H b with
    |none=>exact un.keep b o e q (by intro z;exact absurd (show b∈([]:List Addr)from z) (by simp)) (by simp)
    |some u=>
     rcases hO b with z|⟨ob,xs,z⟩
     ·rw[q]at z;cases z
     ·have z2:=un.frzs b ob _ z;obtain⟨e1,_⟩:=hok b _ z;obtain⟨e2,_⟩:=hok' b _ z2;rw[e]at e1;cases e1;exact e2
 cases hk:K.lookup a with
 |some o=>
  have e:=KX a o hk;rw[ha]at e;cases e;refine core (λ_=>none) (λ_=> .inl rfl) (.inr ⟨_,vs.toArray,_,hk,rfl,rfl,rfl,by rw[Ai,lenV];exact hl,by simpa using rv⟩) (λb u z=>by have z':(none:Option HO)=some u:=z;cases z') (λb z=>absurd rfl z) λz=>absurd rfl z
 |none=>
  refine core (λb=>if b=a then some (.frz {cls:=.type "list",data:=.seq vs.toArray} (.lst (ns.map V.int)))else none) (λb=>?_) (.inl (.inr ⟨{cls:=.type "list",data:=.seq vs.toArray},if_pos rfl⟩)) (λb u z=>?_) (λb z=>?_) λ_=>hk
  ·by_cases hb:b=a
   ·exact .inr ⟨_,_,if_pos hb⟩
   ·exact .inl (if_neg hb)
  ·by_cases hb:b=a
   ·have z':=(if_pos hb).symm.trans z;cases z';subst hb;exact⟨ha,by rw[Ab];exact hl,vs,_,rv,ha⟩
   ·have z':=(if_neg hb).symm.trans z;cases z'
  ·by_cases hb:b=a
   ·exact hb
   ·exact absurd (if_neg hb) z
def aQw{l:PySem.W.OpenLaw}{n k:Nat}{q:Program}{loose:List Str}{XP:(Str->#v[14])->Heap->Prop}{YP:World->Heap->Prop}{d:DefRec}{K:Params->Ae}{CX:World->CXT}{sp:World->Sp}{x:Str}
  (hn:l.most=some n) (hn2:n<=sizeLine) (hdf:d.params.defaults=[]) (hr:cW k callerA)
  (hY:∀(w:World)(h:Heap),YP w h->(K w.params).In h)
  (F:∀(w:World)(mg:Str->#v[14])(fa:Addr)(h:Heap),(K w.params).In h->h.Ns mainGlobals mg->mg d.name=some (.ref fa)->
   ∃fd:FuncData,(∀(s:Shared)(u:Value),BindsTo s fd ⟨[u],[]⟩ [(x,u)])/\
    ∀base:Heap,(K w.params).In base->base.Ns mainGlobals mg->bI l.prog w (K w.params) mg base (CX w) k fa fd [x] (sp w))
  (hsp:∀(w:World)(H:Hp)(a:Addr)(ns:List Int),ns.length<=n->Only H->SqL (K w.params) H a (ns.map V.int)->sp w [.ref a] H (λv _=>v=.bl true) λ_ _ _=>False)
  (hCX:∀(w:World)(H:Hp)(s:Shared)(e:Value)(s':Shared),CX w [] H s (λ_ _ _=>False) e s'->False):
  PySem.W.WalkO q loose XP YP l.row.toRowW d [] (λf vs=>Qw f vs):=by
 refine Att.aGf hn hdf λw s₀ s₁ mg mb fa o pm cd doc a vs ns G Y ho hd hcd hmg hobj hints hlen hg=>?_;have KX:=hY w _ Y;obtain⟨fd,hb,hF⟩:=F w mg fa _ KX G.T.g hmg;exact aMd KX G.T.g G.T.b G.T.builtins G.T.nolimit hg hobj hints (Ba hlen hn2) hr hF hb (λH hO hS=>hsp w H a ns hlen hO hS) λH e s'=>hCX w H s₁ e s'
def inClass(s:Stmt)(j:Nat):Stmt:=match s with
 |.ClassDef _ _ _ body _ _ _ _ _ _ _=>body.getD j (.Pass ⟨0,0,0,0⟩)
 |_=> .Pass ⟨0,0,0,0⟩
def jE(s:Stmt):Arguments:=match s with
 |.FunctionDef _ a _ _ _ _ _ _ _ _=>a
 |_=>{posonlyargs:=[],args:=[],vararg:=none,kwonlyargs:=[],kw_defaults:=[],kwarg:=none,defaults:=[]}
def fX(s:Stmt):List Stmt:=match s with
 |.FunctionDef _ _ b _ _ _ _ _ _ _=>b
 |_=>[]
def aD(s:Stmt):Scope:=match s with
 |.FunctionDef _ _ _ _ _ _ sc _ _ _=>sc
 |_=>{kind:=.function,names:=[],isGenerator:=false,isCoroutine:=false}
abbrev CX0:CXT:=λ_ _ _ _ _ _=>False
abbrev E0:XK:=λ_ _ _=>False
def aB2{X:Cx}:rM CX0 X E0:=λ_ _ _ _ _ _ _ h=>h.elim
structure Fun(K:Ae)(x qual:Str)(st:Stmt)(f:Addr)(fd:FuncData):Prop where
 ex:∃(oc:Value)(od:Option Addr)(kV doc pm:Value)(an:Option Addr)(cdv ct:Value)(osl:Array (#v[14])),
  fd=En x qual (jE st) (fX st) (aD st) .none kV doc pm an cdv ct/\K.lookup f=some ⟨oc,od,.func fd,osl⟩/\Mv K cdv qual=true
 kp:Gj K (.ref f)=true
variable {P:Program}{w:World}{K:Ae}{mg:Str->#v[14]}{base:Heap}
def Fun.ok{st:Stmt}{N ps:List Str}{k:Nat}{sp:Sp}(F:Fun K x qual st f fd)(S:aK N ps (aD st))(len:∀vs H Q E,sp vs H Q E->vs.length=ps.length)
  (hbody:∀(cdv:Value)(A:Around)(outer:List Env)(s:Shared)(H:Hp)(vs:List V)(Q:VK)(E:XK),cW k (A.deeper (envOfC qual (aD st) #v[0] f cdv))->sp vs H Q E->
   ∃t,PSs (aG9 CX0 P w K mg base N qual (aD st) f cdv A outer s H E).nox (fX st) t/\t {nx:=λ_ H'=>Q .non H',rt:=Q} (start N vs) H):↥(k+1) f fd ps sp:=by
 obtain⟨oc,od,kV,doc,pm,an,cdv,ct,osl,rfl,lk,hcd⟩:=F.ex;refine aWu lk hcd S len λA outer s H vs Q E hr hsp=>?_;obtain⟨t,h,q⟩:=hbody cdv A outer s H vs Q E hr hsp;exact⟨t,h.nox,q⟩
def Fun.binds{st:Stmt}{ps:List Str}(F:Fun K x qual st f fd)
  (h:∀(kV doc pm:Value)(an:Option Addr)(cdv ct:Value)(us:List Value),us.length=ps.length->bindArgs (En x qual (jE st) (fX st) (aD st) .none kV doc pm an cdv ct) ⟨us,[]⟩=pure (ps.zip us)):Binds K fd ps []:=by
 obtain⟨oc,od,kV,doc,pm,an,cdv,ct,osl,rfl,lk,hcd⟩:=F.ex;exact .all (h kV doc pm an cdv ct)
def aN8{st:Stmt}{oc:Value}{od an:Option Addr}{osl:Array (#v[14])}{kV doc pm cdv ct:Value}(l:K.lookup f=some ⟨oc,od,.func (En x qual (jE st) (fX st) (aD st) .none kV doc pm an cdv ct),osl⟩)
  (c:Mv K cdv qual=true) (k:Gj K (.ref f)=true):Fun K x qual st f (En x qual (jE st) (fX st) (aD st) .none kV doc pm an cdv ct):=⟨⟨oc,od,kV,doc,pm,an,cdv,ct,osl,rfl,l,c⟩,k⟩
variable {X:Cx}
def pv(i:Nat){x:Str}{pos:Pos}(hN:X.N[i]? =some x:=by rfl)(hv:Vis X.env.scope x:=by trivial)(hd:ND x:=by decide)
  (hcd:NC x:=by decide):PE X (.Name x pos) (aXw i):=pR hN hv hd hcd
def wZ{A B:Prop}(h:B):if false=true then A else B:=by
 rw[if_neg Ao];exact h
def aFv{A B:Prop}(h:A):if true=true then A else B:=by
 rw[if_pos rfl];exact h
def aZ0{c A B:Prop} [Decidable c](h1:c->A)(h2:¬c->B):if c then A else B:=by
 by_cases h:c
 ·rw[if_pos h];exact h1 h
 ·rw[if_neg h];exact h2 h
def aWs(H H':Hp):Prop:=∀b o,H b=some o->H' b=some o
end L2
set_option maxHeartbeats 4000000
namespace L2
variable {kvs:List (List Key×V)}{xs:List (List Key×Addr×Value)}{u:Value}{Q:#v[7]}{y:V}
open PySem PySem.Spec PyProof.Rows
section
variable {κ:Type} [DecidableEq κ]
def nD(kvs:List (κ×V))(k:κ):Option V:=(kvs.find? λkv=>decide (kv.1=k)).map (·.2)
def putK(kvs:List (κ×V))(k:κ)(v:V):List (κ×V):=
 if(kvs.any λkv=>decide (kv.1=k))=true then kvs.map (λkv=>if kv.1=k then(kv.1,v)else kv)else kvs++[(k,v)]
def fH{p:κ×V}{r:List (κ×V)}{k:κ}(e:p.1=k):nD (p::r) k=some p.2:=by simp[nD,Fh,e]
def fJ{p:κ×V}{r:List (κ×V)}{k:κ}(e:¬p.1=k):nD (p::r) k=nD r k:=by simp[nD,Fh,e]
theorem vZ(k:κ):∀kvs:List (κ×V),(kvs.any λkv=>decide (kv.1=k))=(nD kvs k).isSome
 | []=>rfl
 |p::r=>by
  rw[Fp];by_cases e:p.1=k
  ·simp only[fH e,decide_eq_true e,Bool.true_or,Qc]
  ·rw[fJ e,decide_eq_false e,Us];exact vZ k r
theorem aEu(k j:κ)(y:V):∀kvs:List (κ×V),nD (kvs.map λkv=>if kv.1=k then(kv.1,y)else kv) j=(nD kvs j).map λx=>if j=k then y else x
 | []=>rfl
 |p::r=>by
  have ih:=aEu k j y r;rw[Bo];by_cases h:p.1=k
  ·rw[if_pos h];by_cases e:p.1=j
   ·rw[fH (p:=(p.1,y)) e,fH e,Hb,if_pos (e.symm.trans h)]
   ·rw[fJ (p:=(p.1,y)) e,fJ e,ih]
  ·rw[if_neg h];by_cases e:p.1=j
   ·rw[fH (p:=p) e,fH e,Hb,if_neg (λz=>h (e.trans z))]
   ·rw[fJ (p:=p) e,fJ e,ih]
theorem aC4(k j:κ)(y:V):∀kvs:List (κ×V),nD kvs k=none->nD (kvs++[(k,y)]) j=if j=k then some y else nD kvs j
 | [],_=>by
  by_cases e:k=j
  ·rw[if_pos e.symm];exact fH (p:=(k,y)) e
  ·rw[if_neg (λz=>e z.symm)];exact fJ (p:=(k,y)) e
 |p::r,hn=>by
  rw[List.cons_append];have hk:¬p.1=k:=λz=>by rw[fH z]at hn;cases hn
  rw[fJ hk]at hn;have ih:=aC4 k j y r hn;by_cases e:p.1=j
  ·rw[fH e,fH e,if_neg (λz=>hk (e.trans z))]
  ·rw[fJ e,fJ e,ih]
def aLl(kvs:List (κ×V))(k j:κ)(y:V):nD (putK kvs k y) j=if j=k then some y else nD kvs j:=by
 unfold putK;by_cases a:(kvs.any λkv=>decide (kv.1=k))=true
 ·rw[if_pos a,aEu];rw[vZ]at a;by_cases e:j=k
  ·obtain⟨x,hx⟩:=Option.isSome_iff_exists.mp a;rw[if_pos e,e,hx,Hb,if_pos rfl]
  ·rw[if_neg e];cases nD kvs j with
   |none=>rfl
   |some x=>rw[Hb,if_neg e]
 ·rw[if_neg a];refine aC4 k j y kvs ?_;rw[vZ]at a;cases q:nD kvs k with
  |none=>rfl
  |some x=>rw[q]at a;exact(a rfl).elim
def sW(kvs:List (κ×V))(k:κ)(v:V):(putK kvs k v).length<=kvs.length+1:=by
 unfold putK;split
 ·rw[Ab];lia
 ·rw[An,Am,Kp];lia
def uE.isSome_eq{o:Option V}{u:#v[14]}(r:uE o u):o.isSome=u.isSome:=by
 cases o with
 |none=>cases u with
  |none=>rfl
  |some _=>exact(show False from r).elim
 |some _=>cases u with
  |none=>exact(show False from r).elim
  |some _=>rfl
def uE.getD{o:Option V}{u:#v[14]}{d:V}{d':Value}(r:uE o u)(rd:RelV d d'):RelV (o.getD d) (u.getD d'):=by
 cases o with
 |none=>cases u with
  |none=>exact rd
  |some _=>exact(show False from r).elim
 |some _=>cases u with
  |none=>exact(show False from r).elim
  |some _=>exact r
def KV.val{kvs:List (κ×V)}{vs:List (κ×Value)}(r:KV kvs vs)(k:κ):uE (nD kvs k) (valueAt vs k):=by
 unfold KV at r;induction r with
 |nil=>exact Fe
 |@cons p q ps qs h t ih=>
  obtain⟨h1,h2⟩:=h;by_cases e:p.1=k
  ·have e':q.1=k:=h1.symm.trans e;have b:valueAt (q::qs) k=some q.2:=by simp[valueAt,Fh,e']
   rw[fH e,b];exact h2
  ·have e':¬q.1=k:=λz=>e (h1.trans z);have b:valueAt (q::qs) k=valueAt qs k:=by simp[valueAt,Fh,e']
   rw[fJ e,b];exact ih
def KV.any{kvs:List (κ×V)}{vs:List (κ×Value)}(r:KV kvs vs)(k:κ):(kvs.any λkv=>decide (kv.1=k))=vs.any λkv=>decide (kv.1=k):=by
 unfold KV at r;induction r with
 |nil=>rfl
 |cons h t ih=>rw[Fp,Fp,ih,h.1]
def KV.repl{kvs:List (κ×V)}{vs:List (κ×Value)}(r:KV kvs vs)(k:κ)(ry:RelV y u):
  KV (kvs.map λkv=>if kv.1=k then(kv.1,y)else kv) (vs.map λkv=>if kv.1=k then(kv.1,u)else kv):=by
 unfold KV at r⊢;induction r with
 |nil=>exact .nil
 |@cons p q ps qs h t ih=>
  rw[Bo,Bo];refine .cons ?_ ih;obtain⟨h1,h2⟩:=h;by_cases e:p.1=k
  ·rw[if_pos e,if_pos (h1.symm.trans e)];exact⟨h1,ry⟩
  ·rw[if_neg e,if_neg (λz=>e (h1.trans z))];exact⟨h1,h2⟩
def KV.put{kvs:List (κ×V)}{vs:List (κ×Value)}(r:KV kvs vs)(k:κ)(ry:RelV y u):KV (putK kvs k y) (stored vs k u):=by
 unfold putK stored;rw[r.any k];by_cases e:(vs.any λkv=>decide (kv.1=k))=true
 ·rw[if_pos e,if_pos e];exact r.repl k ry
 ·rw[if_neg e,if_neg e];exact Ug r ⟨rfl,ry⟩
def KV.length{kvs:List (κ×V)}{vs:List (κ×Value)}(r:KV kvs vs):kvs.length=vs.length:=Ob r
end
def aOh{P:Program}{w:World}{k:Key}(r:RelV (kV k) u):(eV P w).is k u=true:=by
 cases k with
 |inl i=>obtain⟨t,e⟩:=(show∃t,u=Dp i t from r);subst e;exact aEy P w i t
 |inr x=>obtain⟨t,e⟩:=(show∃t,u=Ms x t from r);subst e;exact aFc P w x t
theorem aC2{P:Program}{w:World}:∀{ks:List Key}{us:List Value},Vals (ks.map kV) us->ItemsAre (eV P w) ks us
 | [],_,r=>by rw[Ep]at r;cases r;exact .nil
 |k::ks,_,r=>by
  rw[Bo]at r;cases r with
  |cons h t=>exact .cons (aOh h) (aC2 t)
abbrev KT(H:Hp):List (List Key×V)->List (List Key×Addr×Value)->Prop:=Paired λp q=>p.1=q.1/\H q.2.1=some (.tup (p.1.map kV))/\RelV p.2 q.2.2
def KT.val{H:Hp}(r:KT H kvs xs)(k:List Key):uE (nD kvs k) ((atKey xs k).map (·.2)):=by
 induction r with
 |nil=>exact Fe
 |@cons p q ps qs h t ih=>
  obtain⟨h1,_,h2⟩:=h;by_cases e:p.1=k
  ·have e':q.1=k:=h1.symm.trans e;have b:atKey (q::qs) k=some q.2:=by simp[atKey,Fh,e']
   rw[fH e,b];exact h2
  ·have e':¬q.1=k:=λz=>e (h1.trans z);have b:atKey (q::qs) k=atKey qs k:=by simp[atKey,Fh,e']
   rw[fJ e,b];exact ih
def KT.repl{H:Hp}(r:KT H kvs xs)(k:List Key)(ry:RelV y u):
  KT H (kvs.map λkv=>if kv.1=k then(kv.1,y)else kv) (xs.map (putAt k u)):=by
 induction r with
 |nil=>exact .nil
 |@cons p q ps qs h t ih=>
  rw[Bo,Bo];refine .cons ?_ ih;obtain⟨h1,h2,h3⟩:=h;unfold putAt;by_cases e:p.1=k
  ·rw[if_pos e,if_pos (h1.symm.trans e)];exact⟨h1,h2,ry⟩
  ·rw[if_neg e,if_neg (λz=>e (h1.trans z))];exact⟨h1,h2,h3⟩
def KT.put{H:Hp}(r:KT H kvs xs)(k:List Key){b:Addr}(hb:H b=some (.tup (k.map kV)))(ry:RelV y u):
  KT H (putK kvs k y) (storedH xs k b u):=by
 have e:(kvs.any λkv=>decide (kv.1=k))=(atKey xs k).isSome:=by
  rw[vZ,(r.val k).isSome_eq,Option.isSome_map]
 unfold putK storedH;rw[e];by_cases q:(atKey xs k).isSome=true
 ·rw[if_pos q,if_pos q];exact r.repl k ry
 ·rw[if_neg q,if_neg q];exact Ug r ⟨rfl,hb,ry⟩
def KT.keeps{H H':Hp}(r:KT H kvs xs)(ht:∀b ys,H b=some (.tup ys)->H' b=some (.tup ys)):KT H' kvs xs:=
 Paired.mapP r λ_ _ z=>⟨z.1,ht _ _ z.2.1,z.2.2⟩
variable {P:Program}{w:World}{H:Hp}{h:Heap}{a:Addr}
def aSr{u:HO}(ok:HOk P w H h)(e:Rd H a u):bR P w H h a u:=e.ok ok
def aMn{kvs:List (Key×V)}(ok:HOk P w H h)(e:Rd H a (.dK kvs)):kvs.length<=sizeLine/\(a==sysModules)=false/\∃vs,KV kvs vs/\h.DictOf (eV P w) a vs:=
 show bR P w H h a (.dK kvs)from aSr ok e
def aYp{kvs:List (Key×V)}(ok:HOk P w H h)(e:H a=some (.dK kvs)):kvs.length<=sizeLine/\(a==sysModules)=false/\∃vs,KV kvs vs/\h.DictOf (eV P w) a vs:=aMn ok (.inl e)
def aHe{ks:List Key}(ok:HOk P w H h)(e:H a=some (.tup (ks.map kV))):(tupleKind (eV P w)).is h ks a:=by
 obtain⟨_,its,r,o,h1,h2,n,h3⟩:=(show bR P w H h a (.tup (ks.map kV))from ok a _ e);exact⟨o,its.toArray,n,h1,h2,h3,by simpa using aC2 r⟩
def aO5(ok:HOk P w H h)(e:Rd H a (.dT kvs)):kvs.length<=sizeLine/\(a==sysModules)=false/\
  ∃xs,KT H kvs xs/\h.DictOfH (tupleKind (eV P w)) a xs:=by
 obtain⟨z,y,xs,r,o,es,ep,h1,h2,h3,h4,h5⟩:=(show bR P w H h a (.dT kvs)from aSr ok e);refine⟨z,y,xs,r,o,es,ep,h1,h2,h3,h4,λx hx=>?_,h5⟩;have all:∀{l:List (List Key×V)}{m:List (List Key×Addr×Value)},KT H l m->∀x∈m,(tupleKind (eV P w)).is h x.1 x.2.1:=by
  intro l m q;induction q with
  |nil=>intro x hx;exact nomatch hx
  |@cons p q ps qs hq t ih=>
   intro x hx;rcases List.mem_cons.mp hx with e|hx
   ·subst e;exact aHe ok (by rw[<-hq.1];exact hq.2.1)
   ·exact ih x hx
 exact all r x hx
def aWv(ok:HOk P w H h)(e:H a=some (.dT kvs)):kvs.length<=sizeLine/\(a==sysModules)=false/\
  ∃xs,KT H kvs xs/\h.DictOfH (tupleKind (eV P w)) a xs:=aO5 ok (.inl e)
def aO2(H:Hp)(a:Addr)(y:V)(r:Option V):Prop:=
 (∃kvs k,Rd H a (.dK kvs)/\y=kV k/\r=nD kvs k)∨∃kvs k b,Rd H a (.dT kvs)/\y=.ref b/\H b=some (.tup (k.map kV))/\r=nD kvs k
def aL2(H:Hp)(a:Addr)(y v:V)(H':Hp):Prop:=
 (∃kvs k,H a=some (.dK kvs)/\y=kV k/\kvs.length<sizeLine/\H'=upd H a (.dK (putK kvs k v)))∨
 ∃kvs k b,H a=some (.dT kvs)/\y=.ref b/\H b=some (.tup (k.map kV))/\kvs.length<sizeLine/\H'=upd H a (.dT (putK kvs k v))
theorem aO2.k{H:Hp}{a:Addr}{kvs:List (Key×V)}{k:Key}(e:H a=some (.dK kvs)):aO2 H a (kV k) (nD kvs k):=.inl ⟨kvs,k,.inl e,rfl,rfl⟩
theorem aL2.k{H:Hp}{a:Addr}{kvs:List (Key×V)}{k:Key}{v:V}(e:H a=some (.dK kvs))(hl:kvs.length<sizeLine):aL2 H a (kV k) v (upd H a (.dK (putK kvs k v))):=.inl ⟨kvs,k,e,rfl,hl,rfl⟩
variable {X:Cx}{pins:#v[9]}{σ:St}{s:Shared}{y v:V}{u r:Value}{o:Option V}{A:Around}{E:#v[7]}
def Inv.big(I:#v[5]):sysModules<#v[0]:=by
 have h:mainGlobals<#v[0]:=(I.mod.glob.keeps I.bk).lt;exact Jj ⋯ h
def zH{h':Heap}{t':Nat}{ob:HO}(I:#v[5])(mu:Mut (H a))(hs:Cw a s.heap h')(he:∃q,h'.get? a=some q)(new:bR X.prog X.w (upd H a ob) h' a ob):
  Inv X pins σ (upd H a ob) {s with heap:=h',toks:=t'}:=
 I.write (x:=a) (e:=a) mu (.inl rfl) (λb q hb z=>(hs.2 b hb).trans z) he new
def aUq{P:Program}{w:World}{H':Hp}{h':Heap}{kvs:List (Key×V)}{vs:List (Key×Value)}(z:kvs.length<=sizeLine)(hd:(a==sysModules)=false)(rel:KV kvs vs)(dd:h'.DictOf (eV P w) a vs):
  bR P w H' h' a (.dK kvs):=⟨z,hd,vs,rel,dd⟩
def aJ2{H':Hp}{Q:Unit->Shared->Prop}(hu:A.units+1<cLine)(I:#v[5])(g:aL2 H a y v H')(ry:RelV y u)(rv:RelV v r)(h:∀s',Inv X pins σ H' s'->Q () s'):
  wpAny (model X.prog X.w) A (setItem (.ref a) u r) Q E s:=by
 rcases g with ⟨kvs,k,e,ey,l,eH⟩|⟨kvs,k,b,e,ey,eb,l,eH⟩
 ·subst ey eH;obtain⟨z,hd,vs,rel,dd⟩:=aYp I.hok e;have hz:vs.length<=sizeLine:=by rw[<-rel.length];exact z
  have hl:(putK kvs k v).length<=sizeLine:=by have:=sW kvs k v;lia
  refine wpAny_setItem_pairs (hsz:=hz) (aOh ry) dd λh' dd' hs=>h _ ?_;have he:∃q,h'.get? a=some q:=let⟨q,_,_,hq,_⟩:=dd';⟨q,hq⟩;exact zH I (by rw[e];exact Fe) hs he (aUq hl hd (rel.put k rv) dd')
 ·subst ey eH;cases (show u=Aj b from ry);obtain⟨z,hd,xs,rel,dd⟩:=aWv I.hok e;have hz:xs.length<=sizeLine:=by rw[<-Ob rel];exact z
  have hl:(putK kvs k v).length<=sizeLine:=by have:=sW kvs k v;lia
  refine Tx (hsz:=hz) (Ua hu) (aHe I.hok eb) dd λh' dd' hs=>h _ ?_;obtain⟨q,es,ep,hq,h2,h3,h4,_,h5⟩:=dd';refine zH I (by rw[e];exact Fe) hs ⟨q,hq⟩ ⟨hl,hd,_,(rel.put k eb rv).keeps λc ys ec=>?_,q,es,ep,hq,h2,h3,h4,h5⟩;rw[aO (aWn ec e (λz=>nomatch z))];exact ec
variable {kvs:List (Key×V)}{k:Key}
def aUw(i:Expr):Prop:=∀ov iv,subscripted i false ov iv=operate [ov,iv] (getItem ov iv)
def aQg{prog:Program}{w:World}{A:Around}{E:#v[7]}{s:Shared}{env:Env}{value slice:Expr}{pos:Pos}{T id:String}
  (hl:typeLookup (.type T) "__getitem__"=pure (some (.builtin id))) (hs:aUw slice)
  (h:#v[4] (eval value env) (λo s₁=>#v[4] (eval slice env) (λi s₂=>s₂.TypeIs o T/\#v[4] (getItem o i) Q E s₂) E s₁) E s):
  #v[4] (eval (.Subscript value slice pos) env) Q E s:=by
 refine Vc (Dn h (λo s₁ h₁=>Dn h₁ (λi s₂ h₂=>?_) λ_ _ x=>x) λ_ _ x=>x);obtain⟨hT,h₂⟩:=h₂;unfold subscriptTail;refine Aa ?_;rw[getitemInPython_of_ne hT.not_modules];refine Aa (Em hT hl ?_);have fin:#v[4] (subscripted slice false o i) (λr s₃=>#v[4] (letTemporaryGo value o r>>=λ_=>pure r) Q E s₃) E s₂:=by
  rw[hs o i];exact wpAny_operating (Dn h₂ (λr s₃ h₃=>Aa (wpAny_letTemporaryGo (Ac h₃))) λ_ _ x=>x)
 first
  |exact Ac (Aa fin)
  |exact Aa (Ac (Aa fin))
  |exact Aa fin
def aXv(td ty tv:TE):TS:=λD σ H=>tv σ H λv H1=>td σ H1 λx H2=>ty σ H2 λy H3=>∃a H4,x=.ref a/\aL2 H3 a y v H4/\D.nx σ H4
section
variable {X:Cx}{o i e value:Expr}{pos pos' tpos:Pos}{td ty tv:TE}
def aP6(hu:X.A.units+1<cLine)(ho:PE X o td)(hi:PE X i ty)(hv:PE X value tv)(hs:swapsWith value (some (.Subscript o i pos')) pos.line X.env=pure false):
  PS X (.Assign [.Subscript o i pos'] value pos) (aXv td ty tv):=by
 intro pins s σ H D I h;refine Rj (thn (hv pins s σ H _ I h) λr s1 ⟨v,H1,I1,rv,q1⟩=>thn (ho pins s1 σ H1 _ I1 q1) λu s2 ⟨x,H2,I2,rx,q2⟩=>thn (hi pins s2 σ H2 _ I2 q2) λiv s3 ⟨y,H3,I3,ry,a,H4,ex,g,q3⟩=>?_) hs;subst ex;obtain rfl:u=Aj a:=rx;exact aJ2 hu I3 g ry rv λs4 I4=>⟨σ,H4,I4,q3⟩
end
def aNp{P:Program}{w:World}{H:Hp}(h:Heap)(hb:sysModules<h.objs.size):bR P w H (h.push #v[8]) h.objs.size (.dK []):=
 ⟨Bd _,beq_eq_false_iff_ne.mpr (Cg (Ar hb)),[],.nil,Xe h⟩
def aV7:TE:=λ_ H Q=>∀p,H p=none->Q (.ref p) (upd H p (.dK []))
variable {pos:Pos}
def aOn:PE X (.Dict [] [] pos) aV7:=λpins s σ H Q I h=>
 Vp ⟨.ref #v[0],_,I.laid (a:=#v[0]) (o:=.dK []) (t':=s.toks) (λ_ _ q=>Ad _ q) (Ak _) (aNp s.heap I.big),rfl,h _ (I.hok.fresh (Ak _))⟩
structure M1(X:Cx)(o:Expr)(m:Str)(apos:Pos)(e:Expr)(cpos:Pos):Prop where
 base:attributeBase o m X.env (eval o X.env)=eval o X.env
 few:((backTo cpos (starEach [e] X.env)).all (λx=> !x.1) && (backToKw cpos (keywordEach [] X.env)).all (λx=>x.1.isSome)
  && decide (([e]:List Expr).length+([]:List Keyword).length+(if([]:List Keyword).isEmpty then 0 else 1)<30))=true
 line:EL apos cpos
 trees:backTo cpos (starEach [e] X.env)=[(false,eval e X.env)]
def IsD(H:Hp)(a:Addr):Prop:=(∃kvs,Rd H a (.dK kvs))∨∃kvs,Rd H a (.dT kvs)
def aV1{X:Cx}{pins:#v[9]}{σ:St}{H:Hp}{s:Shared}{a:Addr}(I:#v[5])(d:IsD H a):
  s.TypeIs (.ref a) "dict"/\(∀b,Aj a=.ref b->∃ob,s.heap.get? b=some ob/\ob.dict=none)/\(a==sysModules)=false:=by
 rcases d with ⟨kvs,e⟩|⟨kvs,e⟩
 ·obtain⟨_,hd,vs,_,dd⟩:=aMn I.hok e;refine⟨dd.typeIs,λb q=>?_,hd⟩;cases q;obtain⟨ob,_,_,h1,h2,_⟩:=dd;exact⟨ob,h1,h2.2.1⟩
 ·obtain⟨_,hd,xs,_,dd⟩:=aO5 I.hok e;refine⟨dd.typeIs,λb q=>?_,hd⟩;cases q;obtain⟨ob,_,_,h1,h2,_⟩:=dd;exact⟨ob,h1,h2.2.1⟩
variable {y d:V}
def aTq(hu:A.units+1<cLine)(I:#v[5])(g:aO2 H a y o)(ry:RelV y u)(h:∀w' s',Inv X pins σ H s'->RelV (o.getD .non) w'->Q w' s'):
  wpAny (model X.prog X.w) A (call (.builtin "dict.get") [.ref a,u]) Q E s:=by
 rcases g with ⟨kvs,k,e,ey,l⟩|⟨kvs,k,b,e,ey,eb,l⟩
 ·subst ey;obtain⟨z,hd,vs,rel,dd⟩:=aMn I.hok e;refine Oa Fx dd.typeIs Jy (Nq _ _) (meets_dict_get (eV X.prog X.w) a (aOh ry) hd) ⟨_,dd.mapOf,h _ _ (I.tok _) ?_⟩;rw[l];exact(rel.val k).getD rfl
 ·subst ey;cases (show u=Aj b from ry);obtain⟨z,hd,xs,rel,dd⟩:=aO5 I.hok e;refine Oa Fx dd.typeIs Jy (Nq _ _) (meetsH_dict_get (tupleKind (eV X.prog X.w)) a b hd) ⟨Ua hu,k,xs,aHe I.hok eb,dd,h _ _ (I.tok _) ?_⟩;rw[l];exact(rel.val k).getD rfl
def aVy(td ty:TE):TE:=λσ H Q=>td σ H λx H1=>∃a,x=.ref a/\IsD H1 a/\ty σ H1 λy H2=>∃o,aO2 H2 a y o/\Q (o.getD .non) H2
section
variable {X:Cx}{o e f:Expr}{apos cpos:Pos}{td ty tx:TE}
def aM9(hu:X.A.units+1<cLine)(ho:PE X o td)(he:PE X e ty)(m:M1 X o "get" apos e cpos):PE X (.Call (.Attribute o "get" apos) [e] [] cpos) (aVy td ty):=by
 intro pins s σ H Q I h;refine wpAny_Call_method m.base m.few m.line Jq Fx On (thn (ho pins s σ H _ I h) λu s1 ⟨x,H1,I1,rx,a,ex,d,q1⟩=>?_);subst ex;obtain rfl:u=Aj a:=rx;obtain⟨t1,t2,_⟩:=aV1 I1 d;refine⟨t1,t2,?_⟩;rw[m.trees];refine Hr rfl (Kz (Qq (thn (he pins s1 σ H1 _ I1 q1) λiv s2 ⟨y,H2,I2,ry,ov,g,q2⟩=>Rh ?_)));exact aTq hu I2 g ry λw' s3 I3 rw'=>⟨_,H2,I3,rw',q2⟩
end
section
variable {κ:Type} [DecidableEq κ]
end
end L2
namespace PySem
variable {Q:Bool->Shared->Prop}{owner:Array (Option Nat)}{xs:Array Nat}{a:Addr}{M:Nat}{j:Nat}{h h':Heap}{α:Type}{hs:List Int}{items:Array Value}{i:Nat}{mask:Nat}{e:Nat}{n:Nat}{N:Nat}
open AutoSeq1 (wpAny_loadPart')
open Sem (wp)
variable {prog:Program}{w:World}{A:Around}{E:#v[7]}{s:Shared}
def vK{it t:Addr}{x:Value}{Q:#v[7]}(hit:s.heap.IsTupleIter it t i)(ht:s.heap.IsTuple t items)(hx:items[i]? =some x)
  (hQ:∀h',h'.IsTupleIter it t (i+1)->Cw it s.heap h'->Q x {s with heap:=h'}):#v[4] (Cz (.ref it)) Q E s:=by
 obtain⟨o,ho,hc,hd⟩:=id hit;obtain⟨ol,hol,_,nl,hdl⟩:=ht;unfold Cz;refine Aa (Ci (name:=Ej "__next__") hit.typeIs Gr
  (Bm Gr hit.typeIs Ou ?_ (Od _)))
 show wpAny _ _ (field (.ref it) 0>>=_) _ _ s;refine Aa (Dx ho hd (x:=.ref t) rfl ?_);show wpAny _ _ (if(Aj t==Bq)=true then _ else _) _ _ s;rw[if_neg (show¬((Aj t==Bq)=true)from Ao)];show wpAny _ _ (field (.ref it) 1>>=_) _ _ s;refine Aa (Dx ho hd (x:=.int i 0) rfl ?_);show wpAny _ _ (seqItems? (.ref t)>>=_) _ _ s;refine Aa (Cr hol hdl ?_);simp only[Dr,hx];refine Aa (Fj ho hd (by simp) (Ac ⟨x,rfl,Ac (hQ _ ?_ (Bg ..))⟩));exact⟨_,Bj _ ho (Gf (Di hd _)),(Ia ..).trans hc,by
  rw[Di hd];simp[rawInt]⟩
def wU{it t:Addr}{Q:#v[7]}(hh:A.handled=none)(hit:s.heap.IsTupleIter it t i)(ht:s.heap.IsTuple t items)(hx:items[i]? =none)
  (hE:∀h' e,Nh it s.heap h'->(∃o,h'.get? e=some o/\o.cls=.type "StopIteration")->E (.ref e) {s with heap:=h'}):#v[4] (Cz (.ref it)) Q E s:=by
 obtain⟨o,ho,hc,hd⟩:=id hit
 obtain⟨ol,hol,_,nl,hdl⟩:=ht
 unfold Cz
 refine Aa (Ci (name:=Ej "__next__") hit.typeIs Gr
  (Bm Gr hit.typeIs Ou ?_ (Od _)))
 show wpAny _ _ (field (.ref it) 0>>=_) _ _ s
 refine Aa (Dx ho hd (x:=.ref t) rfl ?_)
 show wpAny _ _ (if(Aj t==Bq)=true then _ else _) _ _ s
 rw[if_neg (show¬((Aj t==Bq)=true)from Ao)]
 show wpAny _ _ (field (.ref it) 1>>=_) _ _ s
 refine Aa (Dx ho hd (x:=.int i 0) rfl ?_)
 show wpAny _ _ (seqItems? (.ref t)>>=_) _ _ s
 refine Aa (Cr hol hdl ?_)
 simp only[Dr,hx]
 refine Aa (Hm (Aa (Fj ho hd (by simp) ?_)))
 show wpAny _ _ (newExc (.type "StopIteration") []>>=_) _ _ _
 refine Aa ?_
 simp only[newExc,newTuple]
 refine Aa (Bh ?_ (by size_fits))
 refine Aa (m:=firstArgMember _ _) (Ku (a:=Bq) (by first|rfl|(simp only[firstArgMember];rfl)) ?_)
 refine Bh ?_ (by size_fits)
 simp only[raiseNew]
 refine Aa (Mr ?_)
 first|rw[show A.in1.handled=none from hh]|rw[hh]
 refine Aa (Ac (Pa ?_))
 exact hE _ _ (((Bg ..).extBut.push _).push _) ⟨_,Al _ rfl,rfl⟩
structure aMj(h:Heap)(z TI TO i1 i2 t l:Addr)(k:Nat)(f0:Value):Prop where
 z:IsZip h z TI TO f0
 ti:IsPair h TI (.ref i1) (.ref i2)
 to:∃a b,IsPair h TO a b
 h1:h.IsTupleIter i1 t k
 h2:h.IsListIter i2 l k
def aKz{z TI TO i1 i2 t l:Addr}{k:Nat}{xs ys:Array Value}{x y:Value}{Q:#v[14]->Shared->Prop}(D:ZipApart z TI TO i1 i2 t l)(S:aMj s.heap z TI TO i1 i2 t l k .none)
  (hl1:s.heap.IsTuple t xs) (hl2:s.heap.IsList l ys) (hx:xs[k]? =some x) (hy:ys[k]? =some y)
  (hQ:∀h',aMj h' z TI TO i1 i2 t l (k+1) (rawInt #v[0])->IsPair h' #v[0] x y->h'.objs.size=#v[0]+1->
   (∀c o,c≠z->c≠TO->c≠i1->c≠i2->s.heap.get? c=some o->h'.get? c=some o)->Q (some (.ref #v[0])) {s with heap:=h'}):
  #v[4] (pyNext (.ref z)) Q E s:=by
 obtain⟨hz,hTI,⟨a,b,hTO⟩,h1,h2⟩:=S;have hT:s.TypeIs (.ref z) "zip":=⟨_,hz,rfl⟩;unfold pyNext;refine Aa (Hx (Ci (name:=Ej "__next__") hT Ld (Bm Ld hT Up ?_ (Tv _))));show wpAny _ _ (field (.ref z) 2>>=_) _ _ _;refine Aa (Dx hz rfl (x:=.bool false) rfl ?_);show wpAny _ _ (field (.ref z) 3>>=_) _ _ _;refine Aa (Dx hz rfl (x:=.ref TI) rfl ?_);refine Aa (Cr hTI rfl ?_);show wpAny _ _ (Eg (.ref z)>>=_) _ _ _;refine Aa ?_;unfold Eg;refine Aa (Dx hz rfl (x:=.none) rfl (Ac ?_));simp only[if_true];refine Aa (Hm ?_);refine Aa (Dx hz rfl (x:=.ref TO) rfl ?_);refine Aa (Hw hz (by simp) λh₁ hz₁ hs₁=>?_)
 replace hz₁:IsZip h₁ z TI TO .ellipsis:=hz₁
 refine Aa ?_;simp only[Rz,Sv,Iz,Lc];refine Aa (Aa (Qr ?_));show wpAny _ _ (Cz (.ref i1)>>=_) _ _ _;refine Aa (vK (h1.extBut hs₁.extBut D.i1z) (hl1.extBut hs₁.extBut D.l1z) hx λh₂ h1₂ hs₂=>Ac ?_);have hTO₂:IsPair h₂ TO a b:=hs₂.extBut _ _ D.TOi1 (hs₁.extBut _ _ D.TOz hTO);refine Aa (Cr hTO₂ rfl ?_);refine Aa (Sn hTO₂ λh₃ hTO₃ hs₃=>?_)
 replace hTO₃:IsPair h₃ TO x b:=hTO₃
 refine Aa (Jm (Ac ?_));refine Aa (Aa (Qr ?_));show wpAny _ _ (Cz (.ref i2)>>=_) _ _ _;refine Aa (wpAny_nextOf_list_item (((h2.extBut hs₁.extBut D.i2z).extBut hs₂.extBut D.i12.symm).extBut hs₃.extBut D.TOi2.symm)
  (((hl2.extBut hs₁.extBut D.l2z).extBut hs₂.extBut D.l2i1).extBut hs₃.extBut D.l2TO) hy λh₄ h2₄ hs₄=>Ac ?_)
 have hTO₄:IsPair h₄ TO x b:=hs₄.extBut _ _ D.TOi2 hTO₃;refine Aa (Cr hTO₄ rfl ?_);refine Aa (Sn hTO₄ λh₅ hTO₅ hs₅=>?_)
 replace hTO₅:IsPair h₅ TO x y:=hTO₅
 refine Aa (Jm (Ac (Ac ?_)));refine Aa (Cr hTO₅ rfl ?_);refine Aa (wpAny_newTuple ?_);have hsz:h₅.objs.size=#v[0]:=by rw[hs₅.1,hs₄.1,hs₃.1,hs₂.1,hs₁.1]
 have hz₅:IsZip h₅ z TI TO .ellipsis:=hs₅.extBut _ _ D.TOz.symm (hs₄.extBut _ _ D.i2z.symm (hs₃.extBut _ _ D.TOz.symm (hs₂.extBut _ _ D.i1z.symm hz₁)));have hk₅:∀c o,c≠z->c≠TO->c≠i1->c≠i2->s.heap.get? c=some o->h₅.get? c=some o:=λc o c1 c2 c3 c4 e=>
  hs₅.extBut _ _ c2 (hs₄.extBut _ _ c4 (hs₃.extBut _ _ c2 (hs₂.extBut _ _ c3 (hs₁.extBut _ _ c1 e))))
 have h1₅:h₅.IsTupleIter i1 t (k+1):=((h1₂.extBut hs₃.extBut D.TOi1.symm).extBut hs₄.extBut D.i12).extBut hs₅.extBut D.TOi1.symm;have h2₅:h₅.IsListIter i2 l (k+1):=h2₄.extBut hs₅.extBut D.TOi2.symm;have hzlt:z<h₅.objs.size:=Ap hz₅;show wpAny _ _ (Jc (.ref z) (.ref h₅.objs.size)>>=_) _ _ _;refine Aa ?_;unfold Jc;have hz₆:IsZip (h₅.push {cls:=.type "tuple",data:=.seq #[x,y]}) z TI TO .ellipsis:=Ad _ hz₅;refine Aa (Hw hz₆ (by simp) λh₇ hz₇ hs₇=>?_)
 replace hz₇:IsZip h₇ z TI TO (rawInt h₅.objs.size):=hz₇
 refine Hw hz₇ (by simp) λh₈ hz₈ hs₈=>?_
 replace hz₈:IsZip h₈ z TI TO (rawInt h₅.objs.size):=hz₈
 have up:∀c o,c≠z->h₅.get? c=some o->h₈.get? c=some o:=λc o c1 e=>hs₈.extBut _ _ c1 (hs₇.extBut _ _ c1 (Ad _ e));have hT₈:IsPair h₈ h₅.objs.size x y:=hs₈.extBut _ _ (Ey hzlt) (hs₇.extBut _ _ (Ey hzlt) (Al _ rfl));have hz8:h₈.objs.size=h₅.objs.size+1:=by rw[hs₈.1,hs₇.1,Cc]
 rw[hsz]at hz₈ hT₈ hz8;refine Ac ⟨_,rfl,Ac ?_⟩;show Q (some (.ref h₅.objs.size)) _;rw[hsz];exact hQ h₈ ⟨hz₈,up _ _ D.TIz (hk₅ _ _ D.TIz D.TITO D.TIi1 D.TIi2 hTI),⟨_,_,up _ _ D.TOz hTO₅⟩,h1₅.at λo e=>up _ o D.i1z e,h2₅.at λo e=>up _ o D.i2z e⟩ hT₈ hz8 λc o c1 c2 c3 c4 e=>up c o c1 (hk₅ c o c1 c2 c3 c4 e)
def aOe{z TI TO i1 i2 t l:Addr}{k:Nat}{xs:Array Value}{Q:#v[14]->Shared->Prop}(hh:A.handled=none)(D:ZipApart z TI TO i1 i2 t l)(S:aMj s.heap z TI TO i1 i2 t l k .none)
  (hl1:s.heap.IsTuple t xs) (hx:xs[k]? =none)
  (hQ:∀h',(∀c o,c≠z->c≠TO->c≠i1->c≠i2->s.heap.get? c=some o->h'.get? c=some o)->Q none {s with heap:=h'}):#v[4] (pyNext (.ref z)) Q E s:=by
 obtain⟨hz,hTI,⟨a,b,hTO⟩,h1,h2⟩:=S;have hT:s.TypeIs (.ref z) "zip":=⟨_,hz,rfl⟩;unfold pyNext;refine Aa (Hx (Ci (name:=Ej "__next__") hT Ld (Bm Ld hT Up ?_ (Tv _))));show wpAny _ _ (field (.ref z) 2>>=_) _ _ _;refine Aa (Dx hz rfl (x:=.bool false) rfl ?_);show wpAny _ _ (field (.ref z) 3>>=_) _ _ _;refine Aa (Dx hz rfl (x:=.ref TI) rfl ?_);refine Aa (Cr hTI rfl ?_);show wpAny _ _ (Eg (.ref z)>>=_) _ _ _;refine Aa ?_;unfold Eg;refine Aa (Dx hz rfl (x:=.none) rfl (Ac ?_));simp only[if_true];refine Aa (Hm ?_);refine Aa (Dx hz rfl (x:=.ref TO) rfl ?_);refine Aa (Hw hz (by simp) λh₁ hz₁ hs₁=>?_)
 replace hz₁:IsZip h₁ z TI TO .ellipsis:=hz₁
 refine Aa ?_;simp only[Rz,Sv,Iz,Lc];refine Aa (Aa (Qr ?_));show wpAny _ _ (Cz (.ref i1)>>=_) _ _ _;refine Aa (wU hh (h1.extBut hs₁.extBut D.i1z) (hl1.extBut hs₁.extBut D.l1z) hx λh₂ e hs₂ he=>?_);obtain⟨oe,hoe,hce⟩:=he;have hz₂:IsZip h₂ z TI TO .ellipsis:=hs₂ _ _ D.i1z.symm hz₁;have hez:e≠z:=λx=>by subst x;rw[hz₂]at hoe;cases hoe;simp at hce
 refine Hw hz₂ (by simp) λh₃ _ hs₃=>?_;refine Aa (Ec (T:="StopIteration") (b:=true) ⟨oe,hs₃.extBut _ _ hez hoe,hce⟩ Md ?_);exact Ac (hQ _ λc o c1 _ c3 _ x=>hs₃.extBut _ _ c1 (hs₂ _ _ c3 (hs₁.extBut _ _ c1 x)))
abbrev zT1(h:Heap)(t:Addr):Heap:=h.push {cls:=.type "tuple_iterator",data:=.fields #[.ref t,.int 0 0]}
abbrev zT2(h:Heap)(t l:Addr):Heap:=(zT1 h t).push {cls:=.type "list_iterator",data:=.fields #[.ref l,.int 0 0]}
abbrev zT3(h:Heap)(t l:Addr):Heap:=(zT2 h t l).push {cls:=.type "tuple",data:=.seq #[.ref h.objs.size,.ref (zT1 h t).objs.size]}
abbrev zT4(h:Heap)(t l:Addr):Heap:=(zT3 h t l).push {cls:=.type "tuple",data:=.seq #[.none,.none]}
abbrev zT5(h:Heap)(t l:Addr):Heap:=(zT4 h t l).push {cls:=.type "zip",data:=.fields #[.none,.bool false,.bool false,.ref (zT2 h t l).objs.size,.ref (zT3 h t l).objs.size]}
def aAb(t l:Addr)(xs ys:Array Value):
  Meets (Builtin.«zip.__new__» ⟨[.type "zip",.ref t,.ref l],[]⟩) (λ_ R s=>s.heap.IsTuple t xs/\s.heap.IsList l ys/\
   R (.ok (.ret (.ref (zT4 s.heap t l).objs.size))) {s with heap:=zT5 s.heap t l}):=
 .of_wp λprog w A R s h=>by
  obtain⟨hp,g,d,tk,os⟩:=s;obtain⟨hl1,hl2,h⟩:=h;have hsub:=sub_zip;have hL1:Heap.IsTuple (Uc ⟨hp,g,d,tk,os⟩) t xs:=hl1;have hL2:Heap.IsList (Uc ⟨hp.push {cls:=.type "tuple_iterator",data:=.fields #[.ref t,.int 0 0]},g,d,tk,os⟩) l ys:=Xd hl2 _
  wp_walk using Tz hL1,Gu hL2
  exact⟨_,rfl,h⟩
def aJp{prog:Program}{w:World}{A:Around}{E:#v[7]}{s:Shared}{t l:Addr}{xs ys:Array Value}{Q:#v[7]}(hl1:s.heap.IsTuple t xs)(hl2:s.heap.IsList l ys)
  (h:∀h',aMj h' (#v[0]+4) (#v[0]+2) (#v[0]+3) #v[0] (#v[0]+1) t l 0 .none->(∀c o,s.heap.get? c=some o->h'.get? c=some o)->Q (.ref (#v[0]+4)) {s with heap:=h'}):
  #v[4] (call (.type "zip") [.ref t,.ref l]) Q E s:=by
 refine callType_new F.called_zip ⋯ (F.typeCall_zip_2 _ _) (F.newCall_zip_2 _ _) (λobj=>F.args_object_init_3 obj _ _) F.entry_zip_new (aAb t l xs ys) ⟨hl1,hl2,?_⟩;have z1:(zT1 s.heap t).objs.size=#v[0]+1:=Cc ..;have z2:(zT2 s.heap t l).objs.size=#v[0]+2:=by rw[Cc,z1]
 have z3:(zT3 s.heap t l).objs.size=#v[0]+3:=by rw[Cc,z2]
 have z4:(zT4 s.heap t l).objs.size=#v[0]+4:=by rw[Cc,z3]
 have g5:(zT5 s.heap t l).get? (zT4 s.heap t l).objs.size=some _:=Al _ rfl;have g4:(zT5 s.heap t l).get? (zT3 s.heap t l).objs.size=some _:=Ad _ (Al _ rfl);have g3:(zT5 s.heap t l).get? (zT2 s.heap t l).objs.size=some _:=Ad _ (Ad _ (Al _ rfl));have g2:(zT5 s.heap t l).get? (zT1 s.heap t).objs.size=some _:=Ad _ (Ad _ (Ad _ (Al _ rfl)));have g1:(zT5 s.heap t l).get? #v[0]=some _:=Ad _ (Ad _ (Ad _ (Ad _ (Al _ rfl))));show _/\_;rw[z2,z3,z4]at g5;rw[z1,z2]at g3;rw[z3]at g4;rw[z1]at g2;rw[z4];exact⟨⟨_,g5,rfl⟩,h _ ⟨g5,g3,⟨_,_,g4⟩,⟨_,g1,rfl,rfl⟩,⟨_,g2,rfl,rfl⟩⟩ λc o x=>
  Ad _ (Ad _ (Ad _ (Ad _ (Ad _ x))))⟩
section
variable {prog:Program}{w:World}{K:Type} [DecidableEq K](knd:KeyKind prog w K)
def bF(h:Heap)(x:K×List K)(a:Addr):Prop:=∃o v b n,h.get? a=some o/\o.cls=.type "tuple"/\o.data=.seq #[v,.ref b] n/\knd.is x.1 v=true/\IsTupleKey knd h x.2 b
def sZ(x:K×List K):Int:=reduceHash (Cp [knd.hash x.1,tupleKeyHash knd x.2])
variable {knd}
def bF.typeIs{s:Shared}{x:K×List K}(h:bF knd s.heap x a):s.TypeIs (.ref a) "tuple":=let⟨o,_,_,_,ho,hc,_⟩:=h;⟨o,ho,hc⟩
def bF.inj{h:Heap}{x y:K×List K}(hx:bF knd h x a)(hy:bF knd h y a):x=y:=by
 obtain⟨o,v,b,n,ho,_,hd,h1,h2⟩:=hx;obtain⟨o',v',b',n',ho',_,hd',h1',h2'⟩:=hy;obtain rfl:o=o':=Bl (ho.symm.trans ho');rw[hd]at hd';injection hd' with e _
 have e1:v=v'/\b=b':=by simpa using e
 obtain⟨rfl,rfl⟩:=e1;exact Ow (knd.inj _ _ _ h1 h1') (h2.inj h2')
def bF.keeps{x:K×List K}{a d:Addr}{o:Obj}{es ep}(hx:bF knd h x a)(ho:h.get? d=some o)(hd:o.data=.dict es ep)(hs:Cw d h h'):bF knd h' x a:=by
 obtain⟨o',v,b,n,ho',hc,hd',h1,h2⟩:=hx;have hne:a≠d:=by
  rintro rfl;obtain rfl:o'=o:=Bl (ho'.symm.trans ho);rw[hd]at hd';exact nomatch hd'
 exact⟨o',v,b,n,(hs.2 a hne).trans ho',hc,hd',h1,h2.keeps ho hd hs⟩
variable {A:Around}{E:#v[7]}{s:Shared}
def wJ{x:K×List K}{Q:Int->Shared->Prop}(hu:A.units+1<cLine)(hk:bF knd s.heap x a)(h:Q (sZ knd x) {s with toks:=s.toks+(x.2.length+3)}):
  #v[4] (pyHash (.ref a)) Q E s:=by
 have hT:=hk.typeIs
 obtain⟨o,v,b,n,ho,_,hd,h1,h2⟩:=hk
 unfold pyHash
 first|unfold pyHashByItsType|skip
 first|refine Aa (wpAny_cRoomFor_or (.inr ∅) ?_)|skip
 refine Aa (Em hT F.slot_tuple_hash.lookup ?_)
 show wpAny _ _ (if(some (Ti "tuple.__hash__")==some Bq)=true then _ else _) Q E s
 rw[if_neg (by rw[beq_builtin_none];exact Ao)]
 refine Aa (Em hT F.slot_tuple_hash.lookup ?_)
 show wpAny _ _ (callSpecialIfBoundUnlessNone? (.ref a) "__hash__" _>>=_) Q E s
 refine Aa (wpAny_callSpecialIfBoundUnlessNone?_slot hT Ts (Bm Ts hT F.entry_tuple_hash ?_ (F.args_tuple_hash_1 _)))
 show wpAny _ _ (Lh (.ref a)>>=_) _ _ s
 refine Aa (Hv ho hd ?_)
 refine Aa ?_
 rw[<-Ek]
 refine Ed _
  (λrest(r:Array Int) s'=>(rest=[v,.ref b]/\r= #[]/\s'=s)∨(rest=[.ref b]/\r= #[knd.hash x.1]/\s'={s with toks:=s.toks+1})∨(rest=[]/\r= #[knd.hash x.1,tupleKeyHash knd x.2]/\s'={s with toks:=s.toks+1+(x.2.length+1)}))
  _ ?_ ?_ _ _ (.inl ⟨rfl,rfl,rfl⟩)
 ·rintro y rest r s' (⟨e,rfl,rfl⟩|⟨e,rfl,rfl⟩|⟨e,_,_⟩)
  ·obtain⟨rfl,rfl⟩:=By e
   refine Aa (knd.pyHash h1 ?_)
   exact Ac (.inr (.inl ⟨rfl,rfl,rfl⟩))
  ·obtain⟨rfl,rfl⟩:=By e
   refine Aa (wpAny_pyHash_tuple (show A.in1.units<cLine from hu) h2 ?_)
   exact Ac (.inr (.inr ⟨rfl,rfl,rfl⟩))
  ·cases e
 ·rintro r s' (⟨e,_,_⟩|⟨e,_,_⟩|⟨_,rfl,rfl⟩)
  ·cases e
  ·cases e
  ·show wpAny _ _ (retInt (Cp [knd.hash x.1,tupleKeyHash knd x.2])) _ _ _
   refine wpAny_ret_mkInt ?_
   show wpAny _ _ (if(decide (-(2:Int) ^ 63<=Cp [knd.hash x.1,tupleKeyHash knd x.2]) && decide (Cp [knd.hash x.1,tupleKeyHash knd x.2]<2 ^ 63))=true then _ else _) Q E _
   have et:s.toks+1+(x.2.length+1)+1=s.toks+(x.2.length+3):=by lia
   unfold sZ reduceHash at h
   by_cases hr:(decide (-(2:Int) ^ 63<=Cp [knd.hash x.1,tupleKeyHash knd x.2]) && decide (Cp [knd.hash x.1,tupleKeyHash knd x.2]<2 ^ 63))=true
   ·rw[if_pos hr]
    rw[if_pos hr, <-et]at h
    exact Ac h
   ·rw[if_neg hr]
    rw[if_neg hr, <-et]at h
    exact Aa (Hm (Ac h))
def aDn{x y:K×List K}{a b:Addr}{P:Fin->Shared->Prop}(hu:A.units<cLine)(hx:bF knd s.heap x a)(hy:bF knd s.heap y b)(h:P (.done (.ret (.bool (decide (x=y))))) s):
  #v[4] (Builtin.«tuple.__eq__» ⟨[.ref a,.ref b],[]⟩) P E s:=by
 have hTb:=hy.typeIs;obtain⟨oa,va,ba,na,hoa,_,hda,h1,h2⟩:=hx;obtain⟨ob,vb,bb,nb,hob,_,hdb,h1',h2'⟩:=hy;show wpAny _ _ (isInstance (.ref b) (.type "tuple")>>=_) _ _ s;refine Aa (Ec hTb Ir ?_)
 ac_rfl
 refine Aa (Hv hoa hda ?_);refine Aa (Hv hob hdb ?_);refine Aa ?_;refine Ed _
  (λrest r s'=>r.1=none/\s'=s/\((rest=[(va,vb),(.ref ba,.ref bb)])∨(rest=[(.ref ba,.ref bb)]/\x.1=y.1)∨(rest=[]/\x=y)))
  _ ?_ ?_ _ _ ⟨rfl,rfl,.inl rfl⟩
 ·rintro⟨u,v⟩ rest r s' ⟨hr,rfl,(e|⟨e,e1⟩|⟨e,_⟩)⟩
  ·obtain⟨e2,rfl⟩:=By e;cases e2;refine Aa (knd.eqBool (a:=x.1) (b:=y.1) h1 h1' ?_);by_cases hk:x.1=y.1
   ·rw[decide_eq_true hk]
    ac_rfl
    exact Ac ⟨by first|rfl|trivial,by first|rfl|trivial,by first|exact .inr (.inl ⟨rfl,hk⟩)|simp[hk]⟩
   ·rw[decide_eq_false hk];simp only[Ic,if_true];have hf:decide (x=y)=false:=decide_eq_false λz=>hk (by rw[z]);rw[hf]at h;exact Aa (Ac (Ac (Ac h)))
  ·obtain⟨e2,rfl⟩:=By e;cases e2;refine Aa (wpAny_eqBool_tuple hu h2 h2' ?_);by_cases hk:x.2=y.2
   ·rw[decide_eq_true hk]
    ac_rfl
    exact Ac ⟨by first|rfl|trivial,by first|rfl|trivial,by first|exact .inr (.inr ⟨rfl,Ow e1 hk⟩)|simp[e1,hk,Prod.ext_iff]⟩
   ·rw[decide_eq_false hk];simp only[Ic,if_true];have hf:decide (x=y)=false:=decide_eq_false λz=>hk (by rw[z]);rw[hf]at h;exact Aa (Ac (Ac (Ac h)))
  ·cases e
 ·rintro⟨r1,r2⟩ s' ⟨hr,rfl,(e|⟨e,_⟩|⟨_,e⟩)⟩
  ·cases e
  ·cases e
  ·simp only at hr;subst hr;refine Ac ?_;rw[decide_eq_true e]at h;exact h
def iH{x y:K×List K}{a b:Addr}(hu:A.units+1<cLine)(hx:bF knd s.heap x a)(hy:bF knd s.heap y b)(h:Q (decide (x=y)) s):
  #v[4] (eqBool (.ref a) (.ref b)) Q E s:=by
 unfold eqBool
 try with_reducible refine Bs ?_
 show wpAny _ _ (if(Aj a==Aj b)=true then _ else _) Q E s;by_cases hab:(Aj a==Aj b)=true
 ·rw[if_pos hab];have e:a=b:=by have:=eq_of_beq hab;injection this
  subst e;obtain rfl:=hx.inj hy;exact Aa (Hm (Ac (by simpa using h)))
 ·rw[if_neg hab];exact Aa (Pb (op:=.Eq) hx.typeIs hy.typeIs Vg
   (Bm Vg hx.typeIs F.entry_tuple_eq (aDn (by show A.units+1<cLine;exact hu) hx hy ⟨_,rfl,(λe=>nomatch e),Cm h⟩) (F.args_tuple_eq_2 _ _)) ∅)
def qF{ks:List K}(hk:IsTupleKey knd s.heap ks a)(h:Q true s):#v[4] (eqIsQuiet (n+1) (.ref a)) Q E s:=by
 have hT:=hk.typeIs;obtain⟨o,items,m,ho,_,hd,hi⟩:=hk;unfold eqIsQuiet;refine Aa (Em hT F.slot_tuple_eq.lookup ?_);show wpAny _ _ (isInstance (.ref a) (.type "tuple")>>=_) _ _ s;refine Aa (Ec hT Ir ?_)
 ac_rfl
 refine Aa (Cr ho hd ?_);refine Aa ?_;show wpAny _ _ (forIn items _ _) _ _ s;rw[<-Ek];refine Ed _ (λrest r s'=>r.1=none/\s'=s/\∀v∈rest,carriedByValue v=true) _ ?_ ?_ _ _ ⟨rfl,rfl,hi.byValue⟩
 ·rintro v rest r s' ⟨hr,rfl,hall⟩;rw[Uy _ (hall v Ah)];refine Aa (Ac ?_)
  ac_rfl
  exact Ac ⟨rfl,rfl,λu hu'=>hall u (Af _ hu')⟩
 ·rintro⟨r1,r2⟩ s' ⟨hr,rfl,_⟩;simp only at hr;subst hr;exact Ac h
def rQ{x:K×List K}(hk:bF knd s.heap x a)(h:Q true s):#v[4] (eqIsQuiet 8 (.ref a)) Q E s:=by
 have hT:=hk.typeIs;obtain⟨o,v,b,m,ho,_,hd,h1,h2⟩:=hk;unfold eqIsQuiet;refine Aa (Em hT F.slot_tuple_eq.lookup ?_);show wpAny _ _ (isInstance (.ref a) (.type "tuple")>>=_) _ _ s;refine Aa (Ec hT Ir ?_)
 ac_rfl
 refine Aa (Cr ho hd ?_);refine Aa ?_;show wpAny _ _ (forIn _ _ _) _ _ s;rw[<-Ek];refine Ed _ (λrest r s'=>r.1=none/\s'=s/\∀u∈rest,u=v∨u=.ref b) _ ?_ ?_ _ _ ⟨rfl,rfl,λu hu=>by simpa using hu⟩
 ·rintro u rest r s' ⟨hr,rfl,hall⟩;rcases hall u Ah with rfl|rfl
  ·rw[Uy _ (knd.byValue _ _ h1)];refine Aa (Ac ?_)
   ac_rfl
   exact Ac ⟨rfl,rfl,λu hu'=>hall u (Af _ hu')⟩
  ·refine Aa (qF h2 ?_)
   ac_rfl
   exact Ac ⟨rfl,rfl,λu hu'=>hall u (Af _ hu')⟩
 ·rintro⟨r1,r2⟩ s' ⟨hr,rfl,_⟩;simp only at hr;subst hr;exact Ac h
end
def bM{prog:Program}{w:World}{K:Type} [DecidableEq K](knd:KeyKind prog w K):HeapKind prog w (K×List K) where
 is:=bF knd
 hash:=sZ knd
 draws:=λx=>x.2.length+3
 room:=λA=>A.units+1<cLine
 inj:=λhx hy=>hx.inj hy
 keeps:=λx ho hd hs=>x.keeps ho hd hs
 pyHash:=λhu hk h=>wJ hu hk h
 eqBool:=λhu hx hy h=>iH hu hx hy h
 quiet:=λhk h=>rQ hk h
namespace SetTable
def gC(mask:Nat):Nat->Nat×Nat->Nat×Nat
 |0,p=>p
 |m+1,p=>gC mask m (leap mask p.1 p.2)
theorem uG(mask:Nat):∀m p,(gC mask m p).2=p.2 / 32 ^ m
 |0,p=>by rw[gC,Nat.pow_zero,Nat.div_one]
 |m+1,p=>by
  rw[gC,uG mask m];show p.2 / 32 / 32 ^ m=_;rw[Nat.div_div_eq_div_mul,Wb,Nat.mul_comm]
theorem aCn(mask:Nat):∀m k p,gC mask (m+k) p=gC mask k (gC mask m p)
 |0,k,p=>by rw[Ji,gC]
 |m+1,k,p=>by rw[Wa,gC,aCn mask m k,gC]
def five(mask i:Nat):Nat:=(i*5+1) % (mask+1)
def rK(mask:Nat):Nat->Nat->Nat
 |0,i=>i
 |m+1,i=>rK mask m (five mask i)
theorem aAt(mask:Nat):∀m i,(gC mask m (i,0))=(rK mask m i,0)
 |0,i=>rfl
 |m+1,i=>by
  rw[gC,rK];show gC mask m ((i*5+1+0 / 32) % (mask+1),0 / 32)=_;rw[Nat.zero_div,Nat.add_zero];exact aAt mask m (five mask i)
theorem aFl(mask:Nat):∀m p,(gC mask (m+1) p).1<=mask
 |0,p=>by
  show(p.1*5+1+p.2 / 32) % (mask+1)<=mask;have:=Ox (p.1*5+1+p.2 / 32) (show 0<mask+1 by lia)
  lia
 |m+1,p=>by rw[gC];exact aFl mask m _
def Round(mask:Nat):Prop:=∀i,i<=mask->∀e,e<=mask->∃k,k<=mask/\rK mask (k+1) i=e
def aFa(h:∀i:_root_.Fin (mask+1),∀e:_root_.Fin (mask+1),∃k:_root_.Fin (mask+1),rK mask (k.1+1) i.1=e.1):Round mask:=λi hi e he=>by
 obtain⟨k,hk⟩:=h ⟨i,∅⟩ ⟨e,∅⟩;exact⟨k.1,∅,hk⟩
def aWi:Round 7:=aFa #v[1]
def aR1:Round 31:=aFa #v[1]
def aAf(R:Round mask)(he:e<=mask)(i perturb:Nat)(hp:perturb<2 ^ 64):∃L,1<=L/\L<=mask+14/\(gC mask L (i,perturb)).1=e:=by
 have h13:(gC mask 13 (i,perturb)).2=0:=by
  rw[uG];exact Nat.div_eq_of_lt (Bb hp ⋯)
 have hi:=aFl mask 12 (i,perturb);obtain⟨k,hk,e1⟩:=R _ hi e he;refine⟨13+(k+1),∅,∅,?_⟩;rw[aCn];have e2:gC mask 13 (i,perturb)=((gC mask 13 (i,perturb)).1,0):=Ow rfl h13;rw[e2,aAt];exact e1
variable {t:SetTable}{hashAt:Nat->Int}{h:Int}
def aNx(mask i:Nat):runEnd mask i-i<=9:=by unfold runEnd;split<;>lia
def aP4(hd:∀j,t.slot j≠.dummy)(he:t.slot e=.empty):∀(fuel:Nat)(p:Probe)(L:Nat),1<=L->(gC t.mask L (p.i,p.perturb)).1=e->p.more+2+10*(L-1)<=fuel->∃m,Jd t hashAt h fuel p=some m:=by
 intro fuel;induction fuel with
 |zero=>intro p L h1 _ h3;lia
 |succ fuel ih=>
  intro p L h1 h2 h3;have step:∃m,Jd t hashAt h fuel (t.advance p)=some m:=by
   unfold advance;by_cases hm:p.more>0
   ·rw[if_pos hm];exact ih _ L h1 h2 (by show p.more-1+2+10*(L-1)<=fuel;lia)
   ·rw[if_neg hm];match L,h1 with
    |1,_=>
     have h4:(leap t.mask p.i p.perturb).1=e:=h2;cases fuel with
     |zero=>lia
     |succ f=>
      show∃m,(match t.slot (leap t.mask p.i p.perturb).1 with|.empty=>_|.dummy=>_|.live i=>_)=some m;rw[h4,he];exact⟨_,rfl⟩
    |L+2,_=>
     have hr:=aNx t.mask (leap t.mask p.i p.perturb).1;exact ih _ (L+1) ∅ h2 (by show runEnd t.mask (leap t.mask p.i p.perturb).1-(leap t.mask p.i p.perturb).1+2+10*(L+1-1)<=fuel;lia)
  show∃m,(match t.slot p.j with|.empty=>some (.empty p.j p.dummy)|.dummy=>Jd t hashAt h fuel (t.advance {p with dummy:=some p.j})|.live i=>if(hashAt i==h)=true then some (.candidate p.j i (t.advance p))else Jd t hashAt h fuel (t.advance p))=some m;cases hs:t.slot p.j with
  |empty=>exact⟨_,rfl⟩
  |dummy=>exact absurd hs (hd _)
  |live i=>
   by_cases hh:(hashAt i==h)=true
   ·exact⟨_,if_pos hh⟩
   ·obtain⟨m,hm⟩:=step;exact⟨m,by simp only;rw[if_neg hh];exact hm⟩
def aH1(R:Round t.mask)(he:e<=t.mask)(hd:∀j,t.slot j≠.dummy)(hs:t.slot e=.empty)(p:Probe)(hp:p.perturb<2 ^ 64)(hm:p.more<=9):∃m,t.probe hashAt h p=some m:=by
 obtain⟨L,h1,h2,h3⟩:=aAf R he p.i p.perturb hp;refine aP4 hd hs _ p L h1 h3 ?_;unfold turns
 lia
def uX(xs:Array Nat):Prop:=∀i k,i<k->k<xs.size->xs.getD i 0<xs.getD k 0
def aAh{i a b:Nat}(h:i<xs.size):xs.getD i a=xs.getD i b:=by simp[Fd,h]
def aOb(R:uX xs):∀(fuel lo hi:Nat),lo<=hi->hi<=xs.size->hi-lo<=fuel->(∀i,i<lo->xs.getD i 0<j)->(∀i,hi<=i->i<xs.size->j<=xs.getD i 0)->
  Mn xs j fuel lo hi<=xs.size/\(∀i,i<Mn xs j fuel lo hi->xs.getD i 0<j)/\∀i,Mn xs j fuel lo hi<=i->i<xs.size->j<=xs.getD i 0:=by
 intro fuel;induction fuel with
 |zero=>
  intro lo hi h1 h2 h3 a b;have:lo=hi:=by lia
  subst this;exact⟨h2,a,b⟩
 |succ fuel ih=>
  intro lo hi h1 h2 h3 a b;have key:Mn xs j (fuel+1) lo hi=if lo<hi then(if xs.getD ((lo+hi) / 2) j<j then Mn xs j fuel ((lo+hi) / 2+1) hi else Mn xs j fuel lo ((lo+hi) / 2))else lo:=rfl
  rw[key];by_cases hl:lo<hi
  ·have hm:(lo+hi) / 2<xs.size:=by lia
   rw[if_pos hl];by_cases hx:xs.getD ((lo+hi) / 2) j<j
   ·rw[if_pos hx];refine ih _ _ ∅ h2 ∅ (λi hi'=>?_) b;by_cases e:i=(lo+hi) / 2
    ·subst e;rw[aAh hm (b:=j)];exact hx
    ·have:=R i ((lo+hi) / 2) ∅ hm;rw[aAh hm (b:=j)]at this
     lia
   ·rw[if_neg hx];refine ih _ _ ∅ ∅ ∅ a λi hi' hs=>?_;rw[aAh hm (b:=0)]at hx;by_cases e:i=(lo+hi) / 2
    ·subst e;lia
    ·have:=R ((lo+hi) / 2) i ∅ hs
     lia
  ·have:lo=hi:=by lia
   subst this;rw[if_neg hl];exact⟨h2,a,b⟩
def gY(R:uX xs)(j:Nat):below xs j<=xs.size/\(∀i,i<below xs j->xs.getD i 0<j)/\∀i,below xs j<=i->i<xs.size->j<=xs.getD i 0:=
 aOb R _ _ _ (Bd _) (Ak _) ∅ (λi h=>absurd h (Dk i)) λi h1 h2=>by lia
def below_at(R:uX xs)(h:i<xs.size):below xs (xs.getD i 0)=i:=by
 obtain⟨_,h2,h3⟩:=gY R (xs.getD i 0);rcases Mi (below xs (xs.getD i 0)) i with z|z|z
 ·have:=h3 (below xs (xs.getD i 0)) (Ak _) ∅;have:=R _ i z h
  lia
 ·exact z
 ·have:=h2 i z
  lia
def aLb{i j:Nat}:xs[i]? =some j↔i<xs.size/\xs.getD i 0=j:=by
 by_cases h:i<xs.size
 ·simp[Fd,h]
 ·simp[h]
def aCt(R:uX t.place){i j:Nat}(h:t.place[i]? =some j):t.slot j=.live i:=by
 obtain⟨h1,rfl⟩:=aLb.mp h;unfold slot;dsimp only;rw[below_at R h1,h];simp
def aGi(hd:t.dummies= #[])(h:∀i:Nat,t.place[i]? ≠some j):t.slot j=.empty:=by
 unfold slot;dsimp only;have h1:(t.place[below t.place j]? ==some j)=false:=beq_eq_false_iff_ne.mpr (h _);rw[h1];have h2:has t.dummies j=false:=by rw[hd];unfold has;simp
 rw[h2];rfl
theorem uV(hd:t.dummies= #[])(j:Nat):t.slot j=.empty∨∃i:Nat,t.slot j=.live i/\t.place[i]? =some j:=by
 have:has #[] j=false:=by simp[has]
 grind [slot]
def qP(hd:t.dummies= #[])(j:Nat):t.slot j≠.dummy:=by
 rcases uV hd j with e|⟨i,e,_⟩<;>rw[e]<;>intro z<;>cases z
def aGh(hd:t.dummies= #[])(hs:t.place.size<=t.mask):∃e,e<=t.mask/\t.slot e=.empty:=by
 refine Iv λno=>?_;have all:∀e,e<=t.mask->∃i:Nat,t.place[i]? =some e:=λe he=>by
  rcases uV hd e with z|⟨i,_,z⟩
  ·exact absurd ⟨e,he,z⟩ no
  ·exact⟨i,z⟩
 have sub:Bk (t.mask+1) ⊆ t.place.toList:=λe he=>by
  obtain⟨i,hi⟩:=all e (by have:=List.mem_range.mp he;lia);obtain⟨h1,h2⟩:=Array.getElem?_eq_some_iff.mp hi;rw[<-h2];simp
 have:=(Gv (n:=t.mask+1)).length_le_of_subset sub;rw[Br,Aq]at this
 lia
def aEx(R:Round t.mask)(hd:t.dummies= #[])(hs:t.place.size<=t.mask)(p:Probe)(hp:p.perturb<2 ^ 64)(hm:p.more<=9):∃m,t.probe hashAt h p=some m:=by
 obtain⟨e,he,h1⟩:=aGh hd hs;exact aH1 R he (qP hd) h1 p hp hm
def adv(mask:Nat)(p:Probe):Probe:=if p.more>0 then{p with j:=p.j+1,more:=p.more-1}else{p with j:=(leap mask p.i p.perturb).1,more:=runEnd mask (leap mask p.i p.perturb).1-(leap mask p.i p.perturb).1,i:=(leap mask p.i p.perturb).1,perturb:=(leap mask p.i p.perturb).2}
def advs(mask:Nat):Nat->Probe->Probe
 |0,p=>p
 |n+1,p=>advs mask n (adv mask p)
theorem tL(mask:Nat):∀m k p,advs mask (m+k) p=advs mask k (advs mask m p)
 |0,k,p=>by rw[Ji,advs]
 |m+1,k,p=>by rw[Wa,advs,tL mask m k,advs]
def aCo(mask:Nat)(p:Probe):(adv mask p).dummy=p.dummy:=by unfold adv;split<;>rfl
def aSw(fuel:Nat)(p:Probe):Jd t hashAt h (fuel+1) p=match t.slot p.j with|.empty=>some (.empty p.j p.dummy)|.dummy=>Jd t hashAt h fuel (t.advance {p with dummy:=some p.j})|.live i=>if(hashAt i==h)=true then some (.candidate p.j i (t.advance p))else Jd t hashAt h fuel (t.advance p):=rfl
def aPu(hd:∀j,t.slot j≠.dummy):∀(fuel:Nat)(p:Probe)(N:Nat),t.slot (advs t.mask N p).j=.empty->N<fuel->p.dummy=none->
    ∃n,n<=N/\(∀m,m<n->∃i,t.slot (advs t.mask m p).j=.live i/\hashAt i≠h)/\
      ((t.slot (advs t.mask n p).j=.empty/\Jd t hashAt h fuel p=some (.empty (advs t.mask n p).j none))∨
       ∃i,t.slot (advs t.mask n p).j=.live i/\hashAt i=h/\Jd t hashAt h fuel p=some (.candidate (advs t.mask n p).j i (advs t.mask (n+1) p))):=by
  intro fuel;induction fuel with
  |zero=>intro p N _ h2;lia
  |succ fuel ih=>
    intro p N h1 h2 h3;rw[aSw];cases hs:t.slot p.j with
    |empty=>exact⟨0,Bd _,λm hm=>absurd hm (Dk m),.inl ⟨hs,by rw[h3];rfl⟩⟩
    |dummy=>exact absurd hs (hd _)
    |live i=>
      by_cases hh:hashAt i=h
      · exact⟨0,Bd _,λm hm=>absurd hm (Dk m),.inr ⟨i,hs,hh,by dsimp only;rw[if_pos (beq_iff_eq.mpr hh)];rfl⟩⟩
      · cases N with
        |zero=>
          have h1':t.slot p.j=.empty:=h1;rw[hs]at h1';cases h1'
        |succ N=>
          obtain⟨n,a1,a2,a3⟩:=ih (adv t.mask p) N h1 ∅ (by rw[aCo];exact h3);have hb:¬(hashAt i==h)=true:=λz=>hh (beq_iff_eq.mp z);refine⟨n+1,∅,λm hm=>?_,?_⟩
          · cases m with
            |zero=>exact⟨i,hs,hh⟩
            |succ m=>exact a2 m ∅
          · rcases a3 with ⟨b1,b2⟩|⟨i',b1,b2,b3⟩
            · exact .inl ⟨b1,by dsimp only;rw[if_neg hb];exact b2⟩
            · exact .inr ⟨i',b1,b2,by dsimp only;rw[if_neg hb];exact b3⟩
def aLg(hn:∀i,hashAt i≠h)(hd:∀j,t.slot j≠.dummy):∀(fuel:Nat)(p:Probe)(m:Met),Jd t hashAt h fuel p=some m->∃N,N<fuel/\t.slot (advs t.mask N p).j=.empty:=by
 intro fuel;induction fuel with
 |zero=>intro p m e;cases e
 |succ fuel ih=>
  intro p m e;rw[aSw]at e;cases hs:t.slot p.j with
  |empty=>exact⟨0,Mo _,hs⟩
  |dummy=>exact absurd hs (hd _)
  |live i=>
   rw[hs]at e;dsimp only at e;rw[if_neg (λz=>hn i (beq_iff_eq.mp z))]at e;obtain⟨N,h1,h2⟩:=ih _ _ e;exact⟨N+1,∅,h2⟩
def aHp(R:Round t.mask)(hd:t.dummies= #[])(hs:t.place.size<=t.mask)(p:Probe)(hp:p.perturb<2 ^ 64)(hm:p.more<=9):∃N,N<10*turns t.mask/\t.slot (advs t.mask N p).j=.empty:=by
 obtain⟨m,e⟩:=aEx (hashAt:=λ_=>1) (h:=0) R hd hs p hp hm;exact aLg (hashAt:=λ_=>1) (h:=0) (λ_=>by decide) (qP hd) _ p m e
def aGc(t:SetTable)(h:Int):(t.probeStart h).perturb<2 ^ 64/\(t.probeStart h).more<=9:=by
 refine⟨?_,aNx _ _⟩;show bits h<2 ^ 64;unfold bits;have h1:=Jb h (show((2:Int) ^ 64)≠0 by decide);have h2:=Hi h (show(0:Int)<2 ^ 64 by decide)
 lia
def sU(t:SetTable)(h:Int)(j:Nat):Prop:=∃n,(advs t.mask n (t.probeStart h)).j=j/\∀m,m<n->t.slot (advs t.mask m (t.probeStart h)).j≠.empty
def sU.ahead{j N:Nat}(w:sU t h j)(hj:t.slot j≠.empty)(hN:t.slot (advs t.mask N (t.probeStart h)).j=.empty):∃n,n<N/\(advs t.mask n (t.probeStart h)).j=j:=by
 obtain⟨n,e,a⟩:=w;rcases Mi n N with z|z|z
 ·exact⟨n,z,e⟩
 ·subst z;rw[e]at hN;exact absurd hN hj
 ·exact absurd hN (a N z)
def eZ(xs:Array α)(p:Nat)(x:α):(insertAt xs p x).toList=xs.toList.take p++x::xs.toList.drop p:=by
 unfold insertAt;simp[Array.toList_extract];exact Fu (by simp)
def vH:uX xs↔xs.toList.Pairwise (·<·):=by
 rw[Oc];constructor
 ·intro R i k hi hk hik;have h2:k<xs.size:=by simpa using hk
  have:=R i k hik h2;have h1:i<xs.size:=by lia
  simpa[Fd,h1,h2]using this
 ·intro R i k hik hk;have h1:i<xs.size:=by lia
  have:=R i k (by simpa using h1) (by simpa using hk) hik;simpa[Fd,h1,hk]using this
def aJf:(∃i:Nat,t.place[i]? =some j)↔j∈t.place.toList:=by
 rw[List.mem_iff_getElem?];simp
def fM(R:uX t.place)(hd:t.dummies= #[]):t.slot j=.empty↔j∉t.place.toList:=by
 rw[<-aJf];constructor
 ·rintro e ⟨i,hi⟩;rw[aCt R hi]at e;cases e
 ·intro no;exact aGi hd λi z=>no ⟨i,z⟩
def aFr(R:uX t.place)(hj:j∉t.place.toList):uX (insertAt t.place (below t.place j) j):=by
 obtain⟨hb,h1,h2⟩:=gY R j;rw[vH,eZ];have Rl:=vH.mp R;have lo:∀x∈t.place.toList.take (below t.place j),x<j:=λx hx=>by
  obtain⟨i,hi,e⟩:=Le hx;rw[Bp]at hi;rw[List.getElem_take]at e;have hs:i<t.place.size:=by simp at hi;lia
  have:=h1 i ∅;rw[<-e];simpa[Fd,hs]using this
 have hi':∀x∈t.place.toList.drop (below t.place j),j<x:=λx hx=>by
  have hm:x∈t.place.toList:=Ik hx;obtain⟨i,hi,e⟩:=Le hx;rw[Dm]at hi;rw[List.getElem_drop]at e;have hs:below t.place j+i<t.place.size:=by simp at hi;lia
  have:=h2 (below t.place j+i) ∅ hs;have h3:j<=x:=by rw[<-e];simpa[Fd,hs]using this
  have h4:j≠x:=λz=>hj (z▸hm)
  lia
 rw[Qh];refine⟨Rl.sublist (Gh _ _),List.pairwise_cons.mpr ⟨hi',Rl.sublist (List.drop_sublist _ _)⟩,λx hx y hy=>?_⟩;have:=lo x hx;rcases List.mem_cons.mp hy with e|m
 ·lia
 ·have:=hi' y m;lia
def jM(hd:t.dummies= #[])(j:Nat):t.put j=({t with place:=insertAt t.place (below t.place j) j},below t.place j):=by
 unfold put;have h2:has t.dummies j=false:=by rw[hd];unfold has;simp
 rw[h2];rfl
theorem aAi{p j x:Nat}:x∈(insertAt xs p j).toList↔x=j∨x∈xs.toList:=by rw[eZ];have:=Ie p xs.toList;grind
def nW(xs:Array α){p:Nat}(x:α)(h:p<=xs.size):(insertAt xs p x).size=xs.size+1:=by
 rw[<-Aq,eZ,An,Am,Bp,Dm,Aq]
 lia
structure Good(t:SetTable):Prop where
 dum:t.dummies= #[]
 rise:uX t.place
 low:∀j∈t.place.toList,j<=t.mask
 room:t.place.size<=t.mask
 round:Round t.mask
def Good.put(G:Good t)(hj:t.slot j=.empty)(hl:j<=t.mask)(hr:t.place.size+1<=t.mask):Good (t.put j).1:=by
 rw[jM G.dum];have nj:=(fM G.rise G.dum).mp hj;refine⟨G.dum,aFr G.rise nj,λx hx=>?_,?_,G.round⟩
 ·rcases aAi.mp hx with e|m
  ·rw[e];exact hl
  ·exact G.low x m
 ·show(insertAt t.place (below t.place j) j).size<=t.mask;rw[nW _ _ (gY G.rise j).1];exact hr
def Good.put_empty(G:Good t)(hj:t.slot j=.empty)(x:Nat):(t.put j).1.slot x=.empty↔t.slot x=.empty/\x≠j:=by
 have nj:=(fM G.rise G.dum).mp hj;rw[jM G.dum];rw[fM (t:={t with place:=insertAt t.place (below t.place j) j}) (aFr G.rise nj) G.dum,fM G.rise G.dum];show x∉(insertAt t.place (below t.place j) j).toList↔_;rw[aAi,not_or];exact⟨λz=>⟨z.2,z.1⟩,λz=>⟨z.2,z.1⟩⟩
def sU.put(G:Good t){j x:Nat}(hj:t.slot j=.empty)(w:sU t h x):sU (t.put j).1 h x:=by
 obtain⟨n,e,a⟩:=w;have em:(t.put j).1.mask=t.mask:=by rw[jM G.dum]
 have es:(t.put j).1.probeStart h=t.probeStart h:=by rw[jM G.dum];rfl
 refine⟨n,by rw[em,es];exact e,λm hm z=>?_⟩;rw[em,es]at z;exact a m hm ((G.put_empty hj _).mp z).1
def sU.new(G:Good t)(hj:t.slot (advs t.mask N (t.probeStart h)).j=.empty)(a:∀m,m<N->t.slot (advs t.mask m (t.probeStart h)).j≠.empty):sU (t.put (advs t.mask N (t.probeStart h)).j).1 h (advs t.mask N (t.probeStart h)).j:=by
 have em:(t.put (advs t.mask N (t.probeStart h)).j).1.mask=t.mask:=by rw[jM G.dum]
 have es:(t.put (advs t.mask N (t.probeStart h)).j).1.probeStart h=t.probeStart h:=by rw[jM G.dum];rfl
 refine⟨N,by rw[em,es],λm hm z=>?_⟩;rw[em,es]at z;exact a m hm ((G.put_empty hj _).mp z).1
end SetTable
section
variable {prog:Program}{w:World}{K:Type} [DecidableEq K](knd:HeapKind prog w K)
structure jG(s:Shared)(a:Addr)(o:Obj)(es:Array (Int×Value))(ep:Nat)(t:SetTable)(xs:List (K×Addr)):Prop where
 ho:s.heap.get? a=some o
 hex:o.ExactSet
 hd:o.data=.set es ep t
 he:es.toList=xs.map λx=>(knd.hash x.1,Aj x.2)
 good:t.Good
 size:t.place.size=es.size
 keys:∀x∈xs,knd.is s.heap x.1 x.2
 nd:(xs.map (·.1)).Nodup
 way:∀(i j:Nat)(x:K×Addr),t.place[i]? =some j->xs[i]? =some x->SetTable.sU t (knd.hash x.1) j
variable {knd}{A:Around}{E:#v[7]}{s:Shared}{a b:Addr}{o:Obj}{es:Array (Int×Value)}{ep:Nat}{t:SetTable}{xs:List (K×Addr)}{k:K}
structure uK(knd:HeapKind prog w K):Prop where
 mono:∀{h h':Heap}{k:K}{c:Addr},knd.is h k c->(∀b o,o.cls=.type "tuple"->h.get? b=some o->h'.get? b=some o)->knd.is h' k c
 byValue:∀{A:Around}{E:#v[7]}{s:Shared}{k:K}{c:Addr}{Q:Bool->Shared->Prop},knd.is s.heap k c->Q true s->#v[4] (hashByValue 8 (.ref c)) Q E s
 plain:∀{A:Around}{E:#v[7]}{s:Shared}{k:K}{c:Addr}{Q:Bool->Shared->Prop},knd.is s.heap k c->Q false s->#v[4] (ofAClassStatement 8 (.ref c)) Q E s
def uK.keep(D:uK knd){k:K}{c d:Addr}{o:Obj}(hx:knd.is h k c)(ho:h.get? d=some o)(hex:o.ExactSet)(sb:Cw d h h'):knd.is h' k c:=D.mono hx λb o' hc e=>by
 have ne:b≠d:=by
  rintro rfl;rw[ho]at e;cases e;rw[hex.1]at hc;exact absurd hc ⋯
 rw[sb.2 b ne];exact e
def zA(D:uK knd)(hkey:knd.is s.heap k b){ys:List Value}(hy:∀y∈ys,∃x c,y=Aj c/\knd.is s.heap x c)(h:Q false s):#v[4] (searchCouldBeSeen (.ref b) ys) Q E s:=by
 unfold searchCouldBeSeen;refine Aa ?_;refine Ed _ (λrest r s'=>r.1=none/\s'=s/\∀v∈rest,∃x c,v=Aj c/\knd.is s.heap x c) _ ?_ ?_ _ _ ⟨rfl,rfl,hy⟩
 ·rintro v rest r s' ⟨hr,rfl,hall⟩;obtain⟨x,c,rfl,hx⟩:=hall v Ah;dsimp only;have nx:∀u∈rest,∃x c,u=Aj c/\knd.is s'.heap x c:=λu hu=>hall u (Af _ hu);split
  ·exact Ac ⟨rfl,rfl,nx⟩
  ·refine Aa (knd.quiet hkey ?_)
   ac_rfl
   refine Aa (knd.quiet hx ?_)
   ac_rfl
   refine Aa (D.plain hkey ?_)
   ac_rfl
   refine Aa (D.plain hx ?_)
   ac_rfl
   exact Ac ⟨rfl,rfl,nx⟩
 ·rintro⟨r1,r2⟩ s' ⟨hr,rfl,_⟩;simp only at hr;subst hr;exact Ac h
def jG.fits(S:jG knd s a o es ep t xs):t.fits es.size=true:=by
 unfold Mz Na;have h1:=S.size;have h2:=S.good.room;rw[S.good.dum];simp[h1]
 lia
def jG.len(S:jG knd s a o es ep t xs):es.size=xs.length:=by rw[<-Aq,S.he,Ab]
def jG.entry(S:jG knd s a o es ep t xs)(i:Nat):es[i]? =(xs[i]?).map λx=>(knd.hash x.1,Aj x.2):=by
 rw[<-Bn,S.he,As]
def jG.even(S:jG knd s a o es ep t xs)(hm:t.mask % 2=1):t.gaveWay=false:=by
 unfold SetTable.gaveWay;rw[hm];rfl
def vQ(S:jG knd s a o es ep t xs)(hm:t.mask % 2=1)(D:uK knd)(hu:knd.room A)(hkey:knd.is s.heap k b)(hN:t.slot #v[2].j=.empty)(hF:N<10*Kk t.mask)
  (first:∀m,m<N->t.slot (SetTable.advs t.mask m (t.probeStart (knd.hash k))).j≠.empty) {Q:SetFound->Shared->Prop} (hold:(∃x∈xs,x.1=k)->Q (.there none) s) (hnew:(∀x∈xs,x.1≠k)->Q (.free #v[2].j false) s):
  ∀(fuel n:Nat)(stand:Option SetTable.Probe),stand.getD (t.probeStart (knd.hash k))=SetTable.advs t.mask n (t.probeStart (knd.hash k))->n<=N->N-n<fuel->(∀m,m<n->∃(i:Nat)(x:K×Addr),t.slot (SetTable.advs t.mask m (t.probeStart (knd.hash k))).j=.live i/\xs[i]? =some x/\x.1≠k)->
   #v[4] (setSearchFrom a (.ref b) (knd.hash k) true fuel stand) Q E s:=by
 intro fuel;induction fuel with
 |zero=>intro n stand _ _ h3;lia
 |succ fuel ih=>
  intro n stand h1 h2 h3 past;have dumA:∀m p,(SetTable.advs t.mask m p).dummy=p.dummy:=by
   intro m;induction m with
   |zero=>intro p;rfl
   |succ m ih=>intro p;rw[SetTable.advs,ih,SetTable.aCo]
  unfold setSearchFrom;refine Aa (Ei S.ho S.hd S.fits ?_);dsimp only;rw[S.even hm]
  ac_rfl
  rw[h1];have comp:∀m,SetTable.advs t.mask m (SetTable.advs t.mask n (t.probeStart (knd.hash k)))=SetTable.advs t.mask (n+m) (t.probeStart (knd.hash k)):=λm=>(SetTable.tL t.mask n m _).symm;have ent:∀i:Nat,(es[i]?.map (·.1)).getD 0=((xs[i]?).map λx=>knd.hash x.1).getD 0:=λi=>by
   rw[S.entry i,Option.map_map];rfl
  have inx:∀(i j:Nat),t.slot j=.live i->∃x,xs[i]? =some x/\t.place[i]? =some j:=λi j hs=>by
   rcases SetTable.uV S.good.dum j with z|⟨i',z1,z2⟩
   ·rw[hs]at z;cases z
   ·rw[hs]at z1;cases z1;have hi:i<t.place.size:=(Array.getElem?_eq_some_iff.mp z2).1;rw[S.size,S.len]at hi;exact⟨xs[i],Ag hi,z2⟩
  obtain⟨n',a1,a2,a3⟩:=SetTable.aPu (t:=t) (hashAt:=λi:Nat=>(es[i]?.map (·.1)).getD 0) (h:=knd.hash k) (SetTable.qP S.good.dum) (10*Kk t.mask) (SetTable.advs t.mask n (t.probeStart (knd.hash k))) (N-n) (by rw[comp,show n+(N-n)=N by lia];exact hN) ∅ (by rw[dumA];rfl);rw[comp]at a3;rcases a3 with ⟨b1,b2⟩|⟨i,b1,b2,b3⟩
  ·have eN:n+n'=N:=by
    rcases Kx (n+n') N with z|z
    ·exact absurd b1 (first _ z)
    ·lia
   have e:t.probe (λi:Nat=>(es[i]?.map (·.1)).getD 0) (knd.hash k) (SetTable.advs t.mask n (t.probeStart (knd.hash k)))=some (.empty (SetTable.advs t.mask (n+n') (t.probeStart (knd.hash k))).j none):=b2
   erw[e]
   dsimp only;rw[eN];refine Ac (hnew λx hx ek=>?_);obtain⟨i,hi⟩:=List.mem_iff_getElem?.mp hx;have his:i<t.place.size:=by rw[S.size,S.len];exact(List.getElem?_eq_some_iff.mp hi).1
   have hpl:t.place[i]? =some t.place[i]:=Aw his;have hsl:=SetTable.aCt S.good.rise hpl;have wy:=S.way i _ x hpl hi;rw[ek]at wy;obtain⟨m,hm1,hm2⟩:=wy.ahead (by rw[hsl];intro z;cases z) hN;rcases Kx m n with z|z
   ·obtain⟨i',x',c1,c2,c3⟩:=past m z;rw[hm2,hsl]at c1;cases c1;rw[hi]at c2;cases c2;exact c3 ek
   ·obtain⟨i',c1,c2⟩:=a2 (m-n) ∅;rw[comp,show n+(m-n)=m by lia,hm2,hsl]at c1;cases c1;rw[ent,hi]at c2;exact c2 (by rw[<-ek];rfl)
  ·obtain⟨x,hx,hpl⟩:=inx i _ b1;have hxm:=Ay hx;have e:t.probe (λi:Nat=>(es[i]?.map (·.1)).getD 0) (knd.hash k) (SetTable.advs t.mask n (t.probeStart (knd.hash k)))=some (.candidate (SetTable.advs t.mask (n+n') (t.probeStart (knd.hash k))).j i (SetTable.advs t.mask (n'+1) (SetTable.advs t.mask n (t.probeStart (knd.hash k))))):=b3
   erw[e]
   dsimp only;cases hl:t.led
   focus
    simp only[Ic,if_true];refine Aa (zA D hkey (λy hy=>?_) ?_);obtain⟨e,he,rfl⟩:=List.mem_map.mp hy;have he2:=(Array.mem_filter.mp (Array.mem_toList_iff.mp he)).1;rw[<-Array.mem_toList_iff,S.he]at he2;obtain⟨x',hx',rfl⟩:=List.mem_map.mp he2;exact⟨_,_,rfl,S.keys x' hx'⟩
    ac_rfl
   rotate_left
   focus
    ac_rfl
   all_goals
    rw[S.entry i,hx];dsimp only[Hb];refine Aa (Bs (knd.eqBool hu (S.keys x hxm) hkey ?_));refine Aa (Ei S.ho S.hd S.fits ?_);by_cases ek:x.1=k
    ·rw[decide_eq_true ek];simp only[Uu,if_true];exact Ac (hold ⟨x,hxm,ek⟩)
    ·rw[decide_eq_false ek];simp only[Gs,Cf,if_false];have sm:t.sameMemory t.moves t.mask=some true:=by unfold SetTable.sameMemory;simp
     rw[sm];simp only[if_true];rw[b1];dsimp only;rw[S.entry i,hx];dsimp only[Hb];refine Aa (wpAny_isSame_ref_self ?_);simp only[if_true];refine Aa (Ac ?_);dsimp only;have lt:n+n'<N:=by
      rcases Kx (n+n') N with z|z
      ·exact z
      ·have z2:n+n'=N:=by lia
       rw[z2,hN]at b1;cases b1
     refine ih (n+(n'+1)) _ (by show SetTable.advs t.mask (n'+1) _=_;rw[comp]) ∅ ∅ λm hm'=>?_;rcases Kx m n with z|z
     ·exact past m z
     ·by_cases z2:m=n+n'
      ·subst z2;exact⟨i,x,b1,hx,ek⟩
      ·obtain⟨i',c1,c2⟩:=a2 (m-n) ∅;rw[comp,show n+(m-n)=m by lia]at c1;obtain⟨x',hx',_⟩:=inx i' _ c1;refine⟨i',x',c1,hx',λek'=>c2 ?_⟩;rw[ent,hx', <-ek'];rfl
def wC{o:Obj}(es':Array (Int×Value))(t':SetTable)(hd:o.data=.set es ep t)(h:o.ExactSet):(Hz es' t' o).ExactSet:=by
 rw[Lm es' t' hd];exact h
theorem get_ins{l:List α}{p i:Nat}{y x:α}(hp:p<=l.length)(h:(l.take p++x::l.drop p)[i]? =some y):(i<p/\l[i]? =some y)∨(i=p/\y=x)∨(p<i/\l[i-1]? =some y):=by grind
def jG.add(S:jG knd s a o es ep t xs)(hkey:knd.is s.heap k b)(hn:∀x∈xs,x.1≠k)(hkeep:∀h',Cw a s.heap h'->∀x c,knd.is s.heap x c->knd.is h' x c)(hN:t.slot #v[2].j=.empty)
  (first:∀m,m<N->t.slot (SetTable.advs t.mask m (t.probeStart (knd.hash k))).j≠.empty) (hl:#v[2].j<=t.mask) (hroom:t.place.size+1<=t.mask) {j p:Nat} (ej:j=#v[2].j) (epp:p=Cd t.place j):
  jG knd {s with heap:=s.heap.update a (Hz (He es p (knd.hash k,.ref b)) (t.put j).1)} a (Hz (He es p (knd.hash k,.ref b)) (t.put j).1 o) (He es p (knd.hash k,.ref b)) (ep+1) (t.put j).1 (xs.take p++(k,b)::xs.drop p):=by
 subst ej epp;have hb:=(SetTable.gY S.good.rise #v[2].j).1;have hbx:Cd t.place #v[2].j<=xs.length:=by rw[<-S.len, <-S.size];exact hb
 have hnf:(Hz (He es (Cd t.place #v[2].j) (knd.hash k,.ref b)) (t.put #v[2].j).1 o).isFreed=false:=by
  rw[Lm _ _ S.hd];rfl
 refine⟨Bj _ S.ho hnf,wC _ _ S.hd S.hex,by rw[Lm _ _ S.hd],?_,S.good.put hN hl hroom,?_,λx hx=>?_,?_,λi j x h1 h2=>?_⟩
 ·rw[SetTable.eZ,S.he, <-Uh, <-Ui,Ce,Bo]
 ·rw[SetTable.jM S.good.dum];show(He t.place _ _).size=_;rw[SetTable.nW _ _ hb,SetTable.nW _ _ (by rw[<-S.size];exact hb),S.size]
 ·rcases List.mem_append.mp hx with m|m
  ·exact hkeep _ (Bg ..) _ _ (S.keys x (Cv m))
  ·rcases List.mem_cons.mp m with e|m
   ·rw[e];exact hkeep _ (Bg ..) _ _ hkey
   ·exact hkeep _ (Bg ..) _ _ (S.keys x (Ik m))
 ·have pm:((xs.take (Cd t.place #v[2].j)++(k,b)::xs.drop (Cd t.place #v[2].j)).map (·.1)).Perm (k::xs.map (·.1)):=by
   have:=(Sb (a:=(k,b)) (l₁:=xs.take (Cd t.place #v[2].j)) (l₂:=xs.drop (Cd t.place #v[2].j))).map (·.1);rw[Ie]at this;exact this
  rw[pm.nodup_iff,Ko];refine⟨λm=>?_,S.nd⟩;obtain⟨x,hx,e⟩:=List.mem_map.mp m;exact hn x hx e
 ·rw[SetTable.jM S.good.dum]at h1;have h1':(t.place.toList.take (Cd t.place #v[2].j)++#v[2].j::t.place.toList.drop (Cd t.place #v[2].j))[i]? =some j:=by
   rw[<-SetTable.eZ,Bn];exact h1
  have gp:=get_ins (by rw[Aq];exact hb) h1';have gx:=get_ins hbx h2;rcases gp with ⟨z1,z2⟩|⟨z1,z2⟩|⟨z1,z2⟩
  ·rcases gx with ⟨y1,y2⟩|⟨y1,y2⟩|⟨y1,y2⟩
   ·exact(S.way i j x (by rw[<-Bn];exact z2) y2).put S.good hN
   ·lia
   ·lia
  ·rcases gx with ⟨y1,y2⟩|⟨y1,y2⟩|⟨y1,y2⟩
   ·lia
   ·rw[z2,y2];exact SetTable.sU.new S.good hN first
   ·lia
  ·rcases gx with ⟨y1,y2⟩|⟨y1,y2⟩|⟨y1,y2⟩
   ·lia
   ·lia
   ·exact(S.way (i-1) j x (by rw[<-Bn];exact z2) y2).put S.good hN
end
namespace SetTable
def stP(M:Nat)(i perturb:Nat):Probe:={j:=i,more:=runEnd M i-i,i,perturb,dummy:=none}
def st(M:Nat)(h:Int):Probe:=stP M (bits h % (M+1)) (bits h)
def zG(M i perturb:Nat):∀k,k<=runEnd M i-i->(advs M k (stP M i perturb))={stP M i perturb with j:=i+k,more:=runEnd M i-i-k}:=by
 have gen:∀(k:Nat)(p:Probe),k<=p.more->advs M k p={p with j:=p.j+k,more:=p.more-k}:=by
  intro k;induction k with
  |zero=>intro p _;rfl
  |succ k ih=>
   intro p hk;rw[advs];have e:adv M p={p with j:=p.j+1,more:=p.more-1}:=by unfold adv;rw[if_pos ∅]
   rw[e,ih _ (by show k<=p.more-1;lia)];have e1:p.j+1+k=p.j+(k+1):=by lia
   have e2:p.more-1-k=p.more-(k+1):=by lia
   show({p with j:=p.j+1+k,more:=p.more-1-k}:Probe)=_;rw[e1,e2]
 intro k hk;exact gen k _ hk
def aE6(M i perturb:Nat):advs M (runEnd M i-i+1) (stP M i perturb)=stP M (leap M i perturb).1 (leap M i perturb).2:=by
 rw[tL,zG M i perturb _ (Ak _),Qe,advs,advs];unfold adv;rw[if_neg (by show¬(0>0);lia)];rfl
def aMq(hsz:owner.size=M+1):∀(fuel i perturb:Nat)(j:Nat),Es M owner fuel i perturb=some j->
  owner[j]? =some none/\∃n,(advs M n (stP M i perturb)).j=j/\∀m,m<n->owner[(advs M m (stP M i perturb)).j]? ≠some none:=by
 intro fuel;induction fuel with
 |zero=>intro i perturb j e;cases e
 |succ fuel ih=>
  intro i perturb j e;have key:Es M owner (fuel+1) i perturb=match (Bk (runEnd M i+1-i)).find? λk=>(owner.getD (i+k) (some 0)).isNone with|some k=>some (i+k)|none=>Es M owner fuel (leap M i perturb).1 (leap M i perturb).2:=rfl
  rw[key]at e;have none_of:∀x,(owner.getD x (some 0)).isNone=true↔owner[x]? =some none:=λx=>by
   by_cases hx:x<owner.size
   ·simp[Fd,hx]
   ·simp[Fd,hx]
  have hre:runEnd M i+1-i=runEnd M i-i+1:=by unfold runEnd;split<;>lia
  cases hf:(Bk (runEnd M i+1-i)).find? λk=>(owner.getD (i+k) (some 0)).isNone with
  |some k=>
   rw[hf]at e;cases e;have h1:=List.find?_some hf;have h2:=List.mem_range.mp (List.mem_of_find?_eq_some hf);refine⟨(none_of _).mp h1,k,by rw[zG M i perturb k ∅],λm hm=>?_⟩;rw[zG M i perturb m ∅];intro z;have z':owner[i+m]? =some none:=z;rw[List.find?_eq_some_iff_append]at hf;obtain⟨_,as,bs,e1,e2⟩:=hf;have hk:as.length=k:=by
    have h3:(Bk (runEnd M i+1-i))[as.length]? =some k:=by rw[e1];simp
    rw[Iy (by have:=congrArg Bz e1;simp at this;lia)]at h3;exact Bl h3
   have h4:m∈as:=by
    have h5:(Bk (runEnd M i+1-i))[m]? =some m:=Iy ∅;rw[e1,Ef ∅]at h5;exact Ay h5
   have:=e2 m h4;rw[(none_of _).mpr z']at this;exact absurd this ⋯
  |none=>
   rw[hf]at e;obtain⟨b1,n,b2,b3⟩:=ih _ _ _ e;refine⟨b1,runEnd M i-i+1+n,by rw[tL,aE6];exact b2,λm hm=>?_⟩;rcases Kx m (runEnd M i-i+1)with z|z
   ·rw[zG M i perturb m ∅];intro y;have y':owner[i+m]? =some none:=y;have:=List.find?_eq_none.mp hf m (List.mem_range.mpr ∅);exact this ((none_of _).mpr y')
   ·obtain⟨d,rfl⟩:∃d,m=runEnd M i-i+1+d:=⟨m-(runEnd M i-i+1),∅⟩;rw[tL,aE6];exact b3 d ∅
def aJv(he:owner[e]? =some none):∀(fuel i perturb L:Nat),(gC M L (i,perturb)).1=e->L<fuel->∃j,Es M owner fuel i perturb=some j:=by
 intro fuel;induction fuel with
 |zero=>intro i perturb L _ h;lia
 |succ fuel ih=>
  intro i perturb L h1 h2;have key:Es M owner (fuel+1) i perturb=match (Bk (runEnd M i+1-i)).find? λk=>(owner.getD (i+k) (some 0)).isNone with|some k=>some (i+k)|none=>Es M owner fuel (leap M i perturb).1 (leap M i perturb).2:=rfl
  rw[key];cases hf:(Bk (runEnd M i+1-i)).find? λk=>(owner.getD (i+k) (some 0)).isNone with
  |some k=>exact⟨_,rfl⟩
  |none=>
   cases L with
   |zero=>
    have h1':i=e:=h1;subst h1';have hr:0<runEnd M i+1-i:=by unfold runEnd;split<;>lia
    have:=List.find?_eq_none.mp hf 0 (List.mem_range.mpr hr);have hs:i<owner.size:=(Array.getElem?_eq_some_iff.mp he).1;have h3:owner[i]=none:=(Array.getElem?_eq_some_iff.mp he).2;exact absurd (by simp[Fd,hs,h3]) this
   |succ L=>exact ih _ _ L h1 ∅
structure Lay(M:Nat)(hs:List Int)(owner:Array (Option Nat)):Prop where
 size:owner.size=M+1
 has:∀i,i<hs.length->∃j:Nat,owner[j]? =some (some i)
 low:∀(j i:Nat),owner[j]? =some (some i)->i<hs.length
 uniq:∀(j j' i:Nat),owner[j]? =some (some i)->owner[j']? =some (some i)->j=j'
 way:∀(j i:Nat)(h:Int),owner[j]? =some (some i)->hs[i]? =some h->∃n,(advs M n (st M h)).j=j/\∀m,m<n->owner[(advs M m (st M h)).j]? ≠some none
def Lay.start(M:Nat):Lay M [] (Sm (M+1) none):=by
 have no:∀(j i:Nat),(Sm (M+1) (none:Option Nat))[j]? ≠some (some i):=λj i e=>by
  rw[Array.getElem?_replicate]at e;split at e<;>cases e
 exact⟨by simp,λi h=>absurd h (Dk i),λj i e=>absurd e (no j i),λj j' i e=>absurd e (no j i),λj i h e=>absurd e (no j i)⟩
def Lay.empty(L:Lay M hs owner)(hl:hs.length<=M):∃e,e<=M/\owner[e]? =some none:=by
 refine Iv λno=>?_;have all:∀j,j<=M->∃i,owner[j]? =some (some i):=λj hj=>by
  have hs:j<owner.size:=by rw[L.size];lia
  cases g:owner[j]with
  |none=>exact absurd ⟨j,hj,by rw[Aw hs,g]⟩ no
  |some i=>exact⟨i,by rw[Aw hs,g]⟩
 have f:∀j,∃i,j<=M->owner[j]? =some (some i):=λj=>by
  by_cases hj:j<=M
  ·obtain⟨i,hi⟩:=all j hj;exact⟨i,λ_=>hi⟩
  ·exact⟨0,λz=>absurd z hj⟩
 obtain⟨F,hF⟩:=Classical.axiomOfChoice f;have nd:((Bk (M+1)).map F).Nodup:=by
  rw[Os,Dg];refine(Gv (n:=M+1)).imp_of_mem λ{a b} ha hb hab z=>hab ?_;have h1:=hF a (by have:=List.mem_range.mp ha;lia);have h2:=hF b (by have:=List.mem_range.mp hb;lia);rw[z]at h1;exact L.uniq a b _ h1 h2
 have sub:(Bk (M+1)).map F ⊆ Bk hs.length:=λx hx=>by
  obtain⟨j,hj,rfl⟩:=List.mem_map.mp hx;exact List.mem_range.mpr (L.low j _ (hF j (by have:=List.mem_range.mp hj;lia)))
 have:=nd.length_le_of_subset sub;rw[Ab,Br,Br]at this
 lia
def Lay.step(R:Round M)(L:Lay M hs owner)(hl:hs.length<=M)(h:Int):∃j,Es M owner (turns M) (bits h % (M+1)) (bits h)=some j/\Lay M (hs++[h]) (owner.setIfInBounds j (some hs.length)):=by
 obtain⟨e,he,e1⟩:=L.empty hl;have hb:bits h<2 ^ 64:=by
  unfold bits;have h1:=Jb h (show((2:Int) ^ 64)≠0 by decide);have h2:=Hi h (show(0:Int)<2 ^ 64 by decide)
  lia
 obtain⟨Lp,_,l2,l3⟩:=aAf R he (bits h % (M+1)) (bits h) hb;obtain⟨j,hj⟩:=aJv e1 (turns M) _ _ Lp l3 (by unfold turns;lia);obtain⟨w1,n,w2,w3⟩:=aMq L.size _ _ _ _ hj;have hjs:j<owner.size:=(Array.getElem?_eq_some_iff.mp w1).1;have at_:∀x,(owner.setIfInBounds j (some hs.length))[x]? =if x=j then some (some hs.length)else owner[x]? :=λx=>by
  rw[Array.getElem?_setIfInBounds];by_cases z:j=x
  ·subst z;simp[hjs]
  ·rw[if_neg z,if_neg (λy=>z y.symm)]
 have occ:∀x,owner[x]? ≠some none->(owner.setIfInBounds j (some hs.length))[x]? ≠some none:=λx z=>by
  rw[at_];split
  ·intro y;cases y
  ·exact z
 refine⟨j,hj,⟨by simp[L.size],λi hi=>?_,λx i g=>?_,λx y i g1 g2=>?_,λx i h' g g'=>?_⟩⟩
 ·rw[An,Cq]at hi;by_cases z:i<hs.length
  ·obtain⟨x,hx⟩:=L.has i z;refine⟨x,?_⟩;rw[at_,if_neg (λy=>by subst y;rw[w1]at hx;cases hx)];exact hx
  ·exact⟨j,by rw[at_,if_pos rfl,show i=hs.length by lia]⟩
 ·rw[at_]at g;rw[An,Cq];split at g
  ·cases g;lia
  ·have:=L.low x i g;lia
 ·rw[at_]at g1;rw[at_]at g2;split at g1
  ·split at g2
   ·lia
   ·cases g1;exact absurd (L.low y _ g2) (Dw _)
  ·split at g2
   ·cases g2;exact absurd (L.low x _ g1) (Dw _)
   ·exact L.uniq x y i g1 g2
 ·rw[at_]at g;split at g
  ·cases g;rw[Dz (Ak _),Qe]at g';cases g';subst x;exact⟨n,w2,λm hm=>occ _ (w3 m hm)⟩
  ·have:=L.low x i g;rw[Ef this]at g';obtain⟨n',a1,a2⟩:=L.way x i h' g g';exact⟨n',a1,λm hm=>occ _ (a2 m hm)⟩
theorem aIw{M:Nat}(R:Round M):∀(l hs:List Int)(owner:Array (Option Nat)),Lay M hs owner->hs.length+l.length<=M+1->∃owner',(l.foldl (init:=some (owner,hs.length)) λacc h=>do
   let(owner,k)<-acc
   let j<-Es M owner (turns M) (bits h % (M+1)) (bits h)
   pure (owner.setIfInBounds j (some k),k+1))=some (owner',(hs++l).length)/\Lay M (hs++l) owner'
 | [],hs,owner,L,_=>⟨owner,by simp,by simpa using L⟩
 |h::l,hs,owner,L,hl=>by
  rw[Am]at hl
  obtain⟨j,hj,L'⟩:=L.step R ∅ h
  obtain⟨o',e1,e2⟩:=aIw R l (hs++[h]) _ L' (by rw[An,Cq];lia)
  refine⟨o',?_,by simpa using e2⟩
  rw[Gc]
  have:(do
   let(owner,k)<-some (owner,hs.length)
   let j<-Es M owner (turns M) (bits h % (M+1)) (bits h)
   pure (owner.setIfInBounds j (some k),k+1):Option (Array (Option Nat)×Nat))=some (owner.setIfInBounds j (some hs.length),hs.length+1):=by
   show(Es M owner (turns M) (bits h % (M+1)) (bits h)).bind _=_
   rw[hj]
   rfl
  rw[this]
  rw[An,Cq]at e1
  rw[e1]
  simp
def aBy(R:Round M)(hashes:Array Int)(hl:hashes.size<=M+1):∃owner,layClean M hashes=some owner/\Lay M hashes.toList owner:=by
 obtain⟨o',e1,e2⟩:=aIw R hashes.toList [] _ (Lay.start M) (by simpa using hl);refine⟨o',?_,by simpa using e2⟩;unfold layClean;rw[<-Array.foldl_toList];have e1':=e1;rw[Kp]at e1';rw[e1'];rfl
def gP(M:Nat)(owner:Array (Option Nat)):List (Nat×Nat):=(Bk (M+1)).filterMap λj=>(owner.getD j none).map (j,·)
def mX(hsz:owner.size=M+1){j i:Nat}:(j,i)∈gP M owner↔owner[j]? =some (some i):=by
 unfold gP;rw[Qz];constructor
 ·rintro⟨x,hx,e⟩;obtain⟨y,hy,e2⟩:=Option.map_eq_some_iff.mp e;cases e2;have hs:j<owner.size:=by rw[hsz];exact List.mem_range.mp hx
  have hy':owner[j]=some i:=by simpa[Fd,hs]using hy
  rw[Aw hs,hy']
 ·intro e;obtain⟨hs,e2⟩:=Array.getElem?_eq_some_iff.mp e;refine⟨j,List.mem_range.mpr ∅,?_⟩;have:owner.getD j none=some i:=by simp[Fd,hs,e2]
  rw[this];rfl
def xG(M:Nat)(owner:Array (Option Nat)):((gP M owner).map (·.1)).Pairwise (·<·):=by
 unfold gP;rw[Dg,List.pairwise_filterMap];refine(Kg (n:=M+1)).imp λ{a b} hab x hx y hy=>?_;obtain⟨_,_,rfl⟩:=Option.map_eq_some_iff.mp hx;obtain⟨_,_,rfl⟩:=Option.map_eq_some_iff.mp hy;exact hab
def aGz(L:Lay M hs owner):((gP M owner).map (·.2)).Perm (Bk hs.length):=by
 have nd:((gP M owner).map (·.2)).Nodup:=by
  rw[Os,Dg];have h1:=xG M owner;rw[Dg]at h1;refine h1.imp_of_mem λ{a b} ha hb hab z=>?_;have g1:=(mX L.size).mp (show(a.1,a.2)∈_ from ha);have g2:=(mX L.size).mp (show(b.1,b.2)∈_ from hb);rw[z]at g1;have:=L.uniq _ _ _ g1 g2
  lia
 refine(Et nd Gv).mpr λi=>?_;rw[List.mem_range,Pn];constructor
 ·rintro⟨⟨j,i'⟩,hm,rfl⟩;exact L.low j _ ((mX L.size).mp hm)
 ·intro hi;obtain⟨j,hj⟩:=L.has i hi;exact⟨(j,i),(mX L.size).mpr hj,rfl⟩
def aQk(M:Nat){p:Probe}(h:p.j+p.more<=M):(adv M p).j+(adv M p).more<=M:=by
 unfold adv;split
 ·show p.j+1+(p.more-1)<=M;lia
 ·show(leap M p.i p.perturb).1+(runEnd M (leap M p.i p.perturb).1-(leap M p.i p.perturb).1)<=M;have:(leap M p.i p.perturb).1<=M:=by
   show(p.i*5+1+p.perturb / 32) % (M+1)<=M;have:=Ox (p.i*5+1+p.perturb / 32) (show 0<M+1 by lia)
   lia
  unfold runEnd;split<;>lia
theorem aAx(M:Nat):∀(n:Nat){p:Probe},p.j+p.more<=M->(advs M n p).j<=M
 |0,_,h=>by rw[advs];lia
 |n+1,_,h=>by rw[advs];exact aAx M n (aQk M h)
def aMm(M:Nat)(h:Int):(st M h).j+(st M h).more<=M:=by
 show bits h % (M+1)+(runEnd M (bits h % (M+1))-bits h % (M+1))<=M;have:=Ox (bits h) (show 0<M+1 by lia);unfold runEnd;split<;>lia
def aKn(R:Round M)(finger moves:Nat)(led plain:Bool)(hashes:Array Int)(hl:hashes.size<=M):
  ∃t order,laid M finger moves led plain hashes=some (t,order)/\t.mask=M/\t.led=led/\t.plain=plain/\t.moves=moves/\t.Good/\t.place.size=hashes.size/\order.toList.Perm (Bk hashes.size)/\
   ∀(r j i:Nat)(h:Int),t.place[r]? =some j->order[r]? =some i->hashes[i]? =some h->sU t h j:=by
 obtain⟨owner,e1,L⟩:=aBy R hashes ∅;have Pm:=aGz L;have Ps:(gP M owner).length=hashes.size:=by
  have:=Pm.length_eq;rw[Ab,Br,Aq]at this;exact this
 refine⟨{mask:=M,place:=((gP M owner).map (·.1)).toArray,dummies:= #[],finger,led,moves,plain},((gP M owner).map (·.2)).toArray,?_,rfl,rfl,rfl,rfl,?_,?_,?_,?_⟩
 ·unfold laid;rw[e1];rfl
 ·refine⟨rfl,vH.mpr (xG M owner),λj hj=>?_,?_,R⟩
  ·obtain⟨⟨j',i⟩,hm,rfl⟩:=List.mem_map.mp hj;have:=(Array.getElem?_eq_some_iff.mp ((mX L.size).mp hm)).1;show j'<=M;rw[L.size]at this
   lia
  ·show((gP M owner).map (·.1)).toArray.size<=M;rw[Ai,Ab,Ps];exact hl
 ·show((gP M owner).map (·.1)).toArray.size=_;rw[Ai,Ab,Ps]
 ·show((gP M owner).map (·.2)).Perm _;rw[Aq]at Pm;exact Pm
 ·intro r j i h h1 h2 h3;have g1:((gP M owner).map (·.1))[r]? =some j:=by simpa using h1
  have g2:((gP M owner).map (·.2))[r]? =some i:=by simpa using h2
  rw[As]at g1 g2;obtain⟨x,hx,rfl⟩:=Option.map_eq_some_iff.mp g1;rw[hx]at g2;cases g2;have hm:=(mX L.size).mp (show(x.1,x.2)∈_ from Ay hx);obtain⟨n,w1,w2⟩:=L.way x.1 x.2 h hm (by rw[Bn];exact h3);refine⟨n,w1,λm hm' z=>w2 m hm' ?_⟩;have z1:=(fM (t:={mask:=M,place:=((gP M owner).map (·.1)).toArray,dummies:= #[],finger,led,moves,plain}) (vH.mpr (xG M owner)) rfl).mp z;have low:(advs M m (st M h)).j<=M:=aAx M m (aMm M h);have hs:(advs M m (st M h)).j<owner.size:=by rw[L.size];lia
  cases g:owner[(advs M m (st M h)).j]with
  |none=>rw[Aw hs,g]
  |some i'=>
   have g':owner[(advs M m (st M h)).j]? =some (some i'):=by rw[Aw hs,g]
   exact absurd (List.mem_map.mpr ⟨((advs M m (st M h)).j,i'),(mX L.size).mpr g',rfl⟩) z1
end SetTable
theorem filterMap_get{α β:Type}{f:α->Option β}{l:List α}(h:∀i∈l,∃y,f i=some y)(r:Nat):(l.filterMap f)[r]? =l[r]?.bind f:=by
 induction l generalizing r with
 |nil=>simp
 |cons a l ih=>obtain⟨y,hy⟩:=h a Ah;cases r<;>grind
def rD(l:List α):(Bk l.length).filterMap (λi:Nat=>l[i]?)=l:=by
 apply Gi;intro r;rw[filterMap_get (λi hi=>⟨l[i]'(List.mem_range.mp hi),Ag (List.mem_range.mp hi)⟩)];by_cases h:r<l.length
 ·rw[Iy h];rfl
 ·rw[De (by rw[Br];lia),De ∅];rfl
section
variable {prog:Program}{w:World}{K:Type} [DecidableEq K]{knd:HeapKind prog w K}{A:Around}{E:#v[7]}{s:Shared}{a b:Addr}{o:Obj}{es:Array (Int×Value)}{ep:Nat}{t:SetTable}{xs:List (K×Addr)}{k:K}
def jG.relaid(S:jG knd s a o es ep t xs)(hkeep:∀h',Cw a s.heap h'->∀x c,knd.is s.heap x c->knd.is h' x c){wanted:Nat}(R:SetTable.Round (Ds wanted-1))(hl:es.size<=Ds wanted-1):
  ∃t' order,t.relaid (es.map (·.1)) wanted=some (t',order)/\(order.filterMap (es[·]?)).size=es.size/\t'.mask=Ds wanted-1/\t'.led=t.led/\t'.plain=t.plain/\∃xs':List (K×Addr),xs'.Perm xs/\
   jG knd {s with heap:=s.heap.update a (Hz (order.filterMap (es[·]?)) t')} a (Hz (order.filterMap (es[·]?)) t' o) (order.filterMap (es[·]?)) (ep+1) t' xs':=by
 obtain⟨t',order,e1,e2,e3,e4,e5,G,sz,pm,wy⟩:=SetTable.aKn R t.finger (t.movedTo (Ds wanted-1)) t.led t.plain (es.map (·.1)) (by rw[Sz];exact hl);rw[Sz]at sz pm;have hin:∀i∈order.toList,∃y,xs[i]? =some y:=λi hi=>by
  have:=List.mem_range.mp (pm.mem_iff.mp hi);rw[S.len]at this;exact⟨xs[i],Ag this⟩
 have el:(order.filterMap (es[·]?)).toList=(order.toList.filterMap λi:Nat=>xs[i]?).map λx=>(knd.hash x.1,Aj x.2):=by
  rw[Array.toList_filterMap,Ra];congr 1;funext i;exact S.entry i
 have px:(order.toList.filterMap λi:Nat=>xs[i]?).Perm xs:=by
  have:=pm.filterMap λi:Nat=>xs[i]?;rw[S.len,rD]at this;exact this
 have esz:(order.filterMap (es[·]?)).size=es.size:=by rw[<-Aq,el,Ab,px.length_eq,S.len]
 have hnf:(Hz (order.filterMap (es[·]?)) t' o).isFreed=false:=by
  rw[Lm _ _ S.hd];rfl
 refine⟨t',order,e1,esz,e2,e3,e4,_,px,⟨Bj _ S.ho hnf,wC _ _ S.hd S.hex,by rw[Lm _ _ S.hd],el,G,by rw[sz,esz],λx hx=>hkeep _ (Bg ..) _ _ (S.keys x (px.mem_iff.mp hx)),?_,λr j x h1 h2=>?_⟩⟩
 ·rw[(px.map (·.1)).nodup_iff];exact S.nd
 ·rw[filterMap_get hin]at h2;obtain⟨i,hi,hx⟩:=Option.bind_eq_some_iff.mp h2;refine wy r j i _ h1 (by rw[<-Bn];exact hi) ?_;rw[Array.getElem?_map,S.entry i,hx];rfl
def xH(S:jG knd s a o es ep t xs)(hkeep:∀h',Cw a s.heap h'->∀x c,knd.is s.heap x c->knd.is h' x c){wanted:Nat}(R:SetTable.Round (Ds wanted-1))(hl:es.size<=Ds wanted-1)(hsz:Ds wanted<=sizeLine){Q:Unit->Shared->Prop}
  (h:∀(h':Heap)(o':Obj)(es':Array (Int×Value))(t':SetTable)(xs':List (K×Addr)),Cw a s.heap h'->xs'.Perm xs->t'.mask=Ds wanted-1->t'.led=t.led->t'.plain=t.plain->jG knd {s with heap:=h'} a o' es' (ep+1) t' xs'->Q () {s with heap:=h'}):
  #v[4] (setRelay a wanted) Q E s:=by
 obtain⟨t',order,e1,e2,e3,e4,e5,xs',px,S'⟩:=S.relaid hkeep R hl;unfold setRelay;refine Aa (Ei S.ho S.hd S.fits ?_);dsimp only;rw[if_neg ∅];refine Aa ?_;rw[e1];show wpAny _ _ (if(order.filterMap (es[·]?)).size != es.size then _ else pure (order.filterMap (es[·]?),t')) _ _ _;rw[if_neg (by rw[e2];simp)];refine Ac ?_;refine Nl S.ho S.hd (h _ _ _ _ xs' (Bg ..) px e3 e4 e5 S') ?_;rw[e2]
 lia
end
namespace SetTable
variable {t:SetTable}
def aEw(G:t.Good)(h:Int):∃N,N<10*turns t.mask/\t.slot (advs t.mask N (t.probeStart h)).j=.empty/\∀m,m<N->t.slot (advs t.mask m (t.probeStart h)).j≠.empty:=by
 obtain⟨N,h1,h2⟩:=aHp G.round G.dum G.room (t.probeStart h) (aGc t h).1 (aGc t h).2;induction N using Nat.strongRecOn with
 |_ N ih=>
  by_cases hx:∃m,m<N/\t.slot (advs t.mask m (t.probeStart h)).j=.empty
  ·obtain⟨m,hm,e⟩:=hx;exact ih m hm ∅ e
  ·exact⟨N,h1,h2,λm hm e=>hx ⟨m,hm,e⟩⟩
theorem tX(mask:Nat):∀m k i,rK mask (m+k) i=rK mask k (rK mask m i)
 |0,k,i=>by rw[Ji];rfl
 |m+1,k,i=>by
  rw[Nat.add_right_comm];exact tX mask m k (five mask i)
def seen(mask:Nat):Nat->Nat->Nat->Nat
 |0,_,u=>u
 |m+1,i,u=>seen mask m (five mask i) (u |||1<<<i)
theorem aFi{mask e:Nat}:∀m i u,(seen mask m i u).testBit e=true->u.testBit e=true∨∃k,k<m/\rK mask k i=e
 |0,_,_,h=> .inl h
 |m+1,i,u,h=>by
  rcases aFi m _ _ h with h|⟨k,h1,h2⟩
  ·rw[Nat.testBit_or,Nat.one_shiftLeft,Nat.testBit_two_pow,Sy,decide_eq_true_eq]at h;exact h.imp id λh=>⟨0,∅,h⟩
  ·exact .inr ⟨k+1,∅,h2⟩
def aF1(h0:rK mask (mask+1) 0=0)(h:seen mask (mask+1) 0 0=2 ^ (mask+1)-1):Round mask:=by
 have key:∀e,e<=mask->∃k,k<mask+1/\rK mask k 0=e:=λe he=>by
  refine(aFi (mask+1) 0 0 ?_).resolve_left λh=>by simp at h
  rw[h,Nat.testBit_two_pow_sub_one];exact decide_eq_true ∅
 intro i hi e he;obtain⟨a,ha,rfl⟩:=key i hi;obtain⟨b,hb,rfl⟩:=key e he;by_cases c:a<b
 ·refine⟨b-a-1,∅,?_⟩;rw[<-tX];congr 1
  lia
 ·refine⟨mask-a+b,∅,?_⟩;rw[<-tX,show a+(mask-a+b+1)=mask+1+b by lia,tX,h0]
def aMr:Round 127:=aF1 #v[1] #v[1]
def aOf:Round 511:=aF1 #v[1] #v[1]
def Small(t:SetTable):Prop:=(t.mask=7/\t.place.size<=4)∨(t.mask=31/\t.place.size<=18)∨(t.mask=127/\t.place.size<=76)∨(t.mask=511/\t.place.size<=306)
def Small.odd(S:t.Small):t.mask % 2=1:=by rcases S with ⟨e,_⟩|⟨e,_⟩|⟨e,_⟩|⟨e,_⟩<;>rw[e]
end SetTable
section
variable {prog:Program}{w:World}{K:Type} [DecidableEq K](knd:HeapKind prog w K)
def lH(s:Shared)(a:Addr)(l:Bool)(xs:List (K×Addr)):Prop:=∃o es ep t,jG knd s a o es ep t xs/\t.Small/\t.plain=true/\t.led=l
variable {knd}{A:Around}{E:#v[7]}{s:Shared}{a b:Addr}{o:Obj}{es:Array (Int×Value)}{ep:Nat}{t:SetTable}{xs:List (K×Addr)}{k:K}{l:Bool}
def lH.at(D:uK knd){s':Shared}(S:lH knd s a l xs)(h1:∀o,s.heap.get? a=some o->s'.heap.get? a=some o)(h2:∀b o,o.cls=.type "tuple"->s.heap.get? b=some o->s'.heap.get? b=some o):lH knd s' a l xs:=by
 obtain⟨o,es,ep,t,S,r⟩:=S;exact⟨o,es,ep,t,⟨h1 o S.ho,S.hex,S.hd,S.he,S.good,S.size,λx hx=>D.mono (S.keys x hx) h2,S.nd,S.way⟩,r⟩
def aHr(x:Addr)(es:Array (Int×Value)):byScan (.ref x) es=false:=rfl
def oX(D:uK knd)(S:lH knd s a l xs)(hn:xs.length<300)(hu:knd.room A)(hkey:knd.is s.heap k b)
  (hold:(∃x∈xs,x.1=k)->Q false s)
  (hnew:(∀x∈xs,x.1≠k)->∀h' xs',Cw a s.heap h'->xs'.Perm ((k,b)::xs)->lH knd {s with heap:=h'} a l xs'->Q true {s with heap:=h'}):
  #v[4] (setAddHashed a (.ref b) (knd.hash k)) Q E s:=by
 obtain⟨o,es,ep,t,S,sm,pl,rfl⟩:=S;unfold setAddHashed;refine Bs ?_;unfold setAddHashedIn;refine Aa (Ei S.ho S.hd S.fits ?_);dsimp only;rw[aHr]
 ac_rfl
 obtain⟨N,n1,n2,n3⟩:=SetTable.aEw S.good (knd.hash k);have bigm:10*Kk t.mask<=100000:=by
  unfold Kk;rcases sm with ⟨e,_⟩|⟨e,_⟩|⟨e,_⟩|⟨e,_⟩<;>rw[e]<;>decide
 refine Aa (vQ S sm.odd D hu hkey n2 n1 n3 (λh=>?_) (λh=>?_) 100000 0 none rfl (Bd _) ∅ λm hm=>absurd hm (Dk m))
 ·exact Ac (hold h)
 ·dsimp only;refine Aa (Ei S.ho S.hd S.fits ?_);dsimp only;have lowj:#v[2].j<=t.mask:=SetTable.aAx _ _ (SetTable.aMm _ _);have hsz:t.place.size+1<=t.mask:=by rcases sm with ⟨e,h⟩|⟨e,h⟩|⟨e,h⟩|⟨e,h⟩<;>lia
  have S':=S.add hkey h (λh' sb x c hx=>D.keep hx S.ho S.hex sb) n2 n3 lowj hsz rfl rfl;have hb:=(SetTable.gY S.good.rise #v[2].j).1;have psz:(t.put #v[2].j).1.place.size=t.place.size+1:=by
   rw[SetTable.jM S.good.dum];exact SetTable.nW _ _ hb
  have pmk:(t.put #v[2].j).1.mask=t.mask:=by rw[SetTable.jM S.good.dum]
  have ppl:(t.put #v[2].j).1.plain=true:=by rw[SetTable.jM S.good.dum];exact pl
  have pld:(t.put #v[2].j).1.led=t.led:=by rw[SetTable.jM S.good.dum]
  have p2:(t.put #v[2].j).2=Cd t.place #v[2].j:=by rw[SetTable.jM S.good.dum]
  have pm:=(Sb (a:=(k,b)) (l₁:=xs.take (Cd t.place #v[2].j)) (l₂:=xs.drop (Cd t.place #v[2].j)));rw[Ie]at pm;have fl:(t.put #v[2].j).1.fill=t.place.size+1:=by
   unfold Na;rw[psz,S'.good.dum];rfl
  rw[ppl];simp only[if_true];refine Aa (D.byValue hkey ?_);simp only[if_true,p2];have els:=S'.len;have eln:=S.len;have hxl:=pm.length_eq;rw[Am]at hxl;refine Aa (Nl S.ho S.hd ?_ (by rw[els,hxl];unfold sizeLine;lia));by_cases full:(t.put #v[2].j).1.tooFull=true
  ·rw[full];simp only[Ic,Uu,if_true];have fd:∃g,Ds (SetTable.grown (es.size+1))=g+1/\SetTable.Round g/\es.size+1<=g/\g<=511/\(g=31/\es.size+1<=18∨g=127/\es.size+1<=76∨g=511/\es.size+1<=306):=by
    unfold Py at full;rw[fl,pmk]at full;have full:=of_decide_eq_true full;have sz:=S.size;rcases sm with ⟨e,h⟩|⟨e,h⟩|⟨e,h⟩|⟨e,h⟩<;>rw[e]at full
    ·rw[show es.size=4 by lia];exact⟨31,⋯,SetTable.aR1,⋯,⋯,⋯⟩
    ·rw[show es.size=18 by lia];exact⟨127,⋯,SetTable.aMr,⋯,⋯,⋯⟩
    ·rw[show es.size=76 by lia];exact⟨511,⋯,SetTable.aOf,⋯,⋯,⋯⟩
    ·lia
   obtain⟨g,eg,rg,g1,g2,g3⟩:=fd;refine Aa (xH S' (λh' sb x c hx=>D.keep hx S'.ho S'.hex sb) (by rw[eg];exact rg) (by rw[els,hxl,eg, <-eln];exact g1) (by rw[eg];unfold sizeLine;lia) λh' o' es' t' xs' sb px e1 e2 e3 S2=>?_);refine Ac ?_;refine hnew h h' xs' (Ny (Bg ..) sb) (px.trans pm) ⟨o',es',_,t',S2,.inr ?_,by rw[e3];exact ppl,by rw[e2];exact pld⟩;rw[e1,eg,S2.size,S2.len,px.length_eq,hxl, <-eln];exact g3
  ·have full:=Bool.eq_false_iff.mpr full;rw[full];simp only[Gs,Cf,if_false];refine Ac (hnew h _ _ (Bg ..) pm ⟨_,_,_,_,S',?_,ppl,pld⟩);unfold Py at full;rw[fl,pmk]at full;have full:=of_decide_eq_false full;have sz:=S.size;unfold SetTable.Small;rw[pmk,psz];rcases sm with ⟨e,h⟩|⟨e,h⟩|⟨e,h⟩|⟨e,h⟩<;>rw[e]at full⊢ <;>lia
end
def rE(n:Nat)(i:Int)(tk):hashByValue n (.int i tk)=pure true:=by cases n<;>rfl
def wQ(n:Nat){v:Value}(h:carriedByValue v=true):ofAClassStatement n v=pure false:=by
 cases v with
 |ref a=>cases h
 |_=>first|rfl|(unfold ofAClassStatement;rfl)
section
variable {prog:Program}{w:World}{K:Type} [DecidableEq K]{knd:KeyKind prog w K}{A:Around}{E:#v[7]}{s:Shared}
def ItemsAre.ints(hv:∀k v,knd.is k v=true->∃i tk,v=Dp i tk){x:List K}{vs:List Value}(hx:ItemsAre knd x vs):∀v∈vs,∃i tk,v=Dp i tk:=by
 induction hx with
 |nil=>intro v hv;simp at hv
 |@cons k v' ks vs h1 _ ih=>
  intro v hm;rcases List.mem_cons.mp hm with rfl|hm
  ·exact hv _ _ h1
  ·exact ih v hm
def pK(hv:∀k v,knd.is k v=true->∃i tk,v=Dp i tk){ks:List K}(hk:IsTupleKey knd s.heap ks a)(h:Q true s):#v[4] (hashByValue (n+1) (.ref a)) Q E s:=by
 have hT:=hk.typeIs;obtain⟨o,items,m,ho,_,hd,hi⟩:=hk;unfold hashByValue;refine Aa (Em hT F.slot_tuple_hash.lookup ?_);show wpAny _ _ (seqItems? (.ref a)>>=_) _ _ s;refine Aa (Cr ho hd ?_);refine Aa ?_;show wpAny _ _ (forIn items _ _) _ _ s;rw[<-Ek];refine Ed _ (λrest r s'=>r.1=none/\s'=s/\∀v∈rest,∃i tk,v=Dp i tk) _ ?_ ?_ _ _ ⟨rfl,rfl,hi.ints hv⟩
 ·rintro v rest r s' ⟨hr,rfl,hall⟩;obtain⟨i,tk,rfl⟩:=hall v Ah;rw[rE];refine Aa (Ac ?_)
  ac_rfl
  exact Ac ⟨rfl,rfl,λu hu'=>hall u (Af _ hu')⟩
 ·rintro⟨r1,r2⟩ s' ⟨hr,rfl,_⟩;simp only at hr;subst hr;exact Ac h
def pY(hv:∀k v,knd.is k v=true->∃i tk,v=Dp i tk){x:K×List K}(hk:bF knd s.heap x a)(h:Q true s):#v[4] (hashByValue 8 (.ref a)) Q E s:=by
 have hT:=hk.typeIs;obtain⟨o,v,b,m,ho,_,hd,h1,h2⟩:=hk;unfold hashByValue;refine Aa (Em hT F.slot_tuple_hash.lookup ?_);show wpAny _ _ (seqItems? (.ref a)>>=_) _ _ s;refine Aa (Cr ho hd ?_);refine Aa ?_;show wpAny _ _ (forIn _ _ _) _ _ s;rw[<-Ek];refine Ed _ (λrest r s'=>r.1=none/\s'=s/\∀u∈rest,u=v∨u=.ref b) _ ?_ ?_ _ _ ⟨rfl,rfl,λu hu=>by simpa using hu⟩
 ·rintro u rest r s' ⟨hr,rfl,hall⟩;rcases hall u Ah with rfl|rfl
  ·obtain⟨i,tk,rfl⟩:=hv _ _ h1;rw[rE];refine Aa (Ac ?_)
   ac_rfl
   exact Ac ⟨rfl,rfl,λu hu'=>hall u (Af _ hu')⟩
  ·refine Aa (pK hv h2 ?_)
   ac_rfl
   exact Ac ⟨rfl,rfl,λu hu'=>hall u (Af _ hu')⟩
 ·rintro⟨r1,r2⟩ s' ⟨hr,rfl,_⟩;simp only at hr;subst hr;exact Ac h
def sO{ks:List K}(hk:IsTupleKey knd s.heap ks a)(h:Q false s):#v[4] (ofAClassStatement (n+1) (.ref a)) Q E s:=by
 have hT:=hk.typeIs;obtain⟨o,items,m,ho,_,hd,hi⟩:=hk;unfold ofAClassStatement;refine Aa (Hj hT ?_);dsimp only;simp only[beq_self_eq_true,if_true];refine Aa (Ac ?_)
 ac_rfl
 refine Aa (Cr ho hd ?_);dsimp only;refine Aa ?_;rw[<-Ek];refine Ed _ (λrest r s'=>r.1=none/\s'=s/\∀v∈rest,carriedByValue v=true) _ ?_ ?_ _ _ ⟨rfl,rfl,hi.byValue⟩
 ·rintro v rest r s' ⟨hr,rfl,hall⟩;rw[wQ _ (hall v Ah)];refine Aa (Ac ?_)
  ac_rfl
  exact Ac ⟨rfl,rfl,λu hu'=>hall u (Af _ hu')⟩
 ·rintro⟨r1,r2⟩ s' ⟨hr,rfl,_⟩;simp only at hr;subst hr;exact Ac h
def uB{x:K×List K}(hk:bF knd s.heap x a)(h:Q false s):#v[4] (ofAClassStatement 8 (.ref a)) Q E s:=by
 have hT:=hk.typeIs;obtain⟨o,v,b,m,ho,_,hd,h1,h2⟩:=hk;unfold ofAClassStatement;refine Aa (Hj hT ?_);dsimp only;simp only[beq_self_eq_true,if_true];refine Aa (Ac ?_)
 ac_rfl
 refine Aa (Cr ho hd ?_);dsimp only;refine Aa ?_;rw[<-Ek];refine Ed _ (λrest r s'=>r.1=none/\s'=s/\∀u∈rest,u=v∨u=.ref b) _ ?_ ?_ _ _ ⟨rfl,rfl,λu hu=>by simpa using hu⟩
 ·rintro u rest r s' ⟨hr,rfl,hall⟩;rcases hall u Ah with rfl|rfl
  ·rw[wQ _ (knd.byValue _ _ h1)];refine Aa (Ac ?_)
   ac_rfl
   exact Ac ⟨rfl,rfl,λu hu'=>hall u (Af _ hu')⟩
  ·refine Aa (sO h2 ?_)
   ac_rfl
   exact Ac ⟨rfl,rfl,λu hu'=>hall u (Af _ hu')⟩
 ·rintro⟨r1,r2⟩ s' ⟨hr,rfl,_⟩;simp only at hr;subst hr;exact Ac h
def IsTupleKey.monoS{ks:List K}(x:IsTupleKey knd h ks a)(hs:∀b o,o.cls=.type "tuple"->h.get? b=some o->h'.get? b=some o):IsTupleKey knd h' ks a:=by
 obtain⟨o',items,n,ho',hc,hd',hi⟩:=x;exact⟨o',items,n,hs _ _ hc ho',hc,hd',hi⟩
def bF.monoS{x:K×List K}(hx:bF knd h x a)(hs:∀b o,o.cls=.type "tuple"->h.get? b=some o->h'.get? b=some o):bF knd h' x a:=by
 obtain⟨o',v,b,n,ho',hc,hd',h1,h2⟩:=hx;exact⟨o',v,b,n,hs _ _ hc ho',hc,hd',h1,h2.monoS hs⟩
def aLt(hv:∀k v,knd.is k v=true->∃i tk,v=Dp i tk):uK (bM knd) where
 mono:=λx hs=>bF.monoS x hs
 byValue:=λx h=>pY hv x h
 plain:=λx h=>uB x h
end
namespace F
def cX:Slot "set_iterator" "__next__" "set_iterator.__next__":=
 .of (owner:="set_iterator") (n:="__next__") (by rw[Pc,Lq];kernel_rfl) #v[1] #v[1] #v[1]
  (by first|exact .inl #v[1]|exact .inr #v[1]) (by rw[Pv];kernel_rfl)
def iZ:Slot "set_iterator" "__iter__" "set_iterator.__iter__":=
 .of (owner:="set_iterator") (n:="__iter__") (by rw[Pc,Lq];kernel_rfl) #v[1] #v[1] #v[1]
  (by first|exact .inl #v[1]|exact .inr #v[1]) (by rw[Pv];kernel_rfl)
def pD:entryFor table "set_iterator.__next__"=some Builtin.«set_iterator.__next__»:=Vs (by kernel_rfl)
def oZ:entryFor table "set_iterator.__iter__"=some Builtin.«dict_keyiterator.__iter__»:=
 entryFor_alias (id':="dict_keyiterator.__iter__") (by kernel_rfl) (by first|rfl|decide+kernel) #v[1] (by kernel_rfl)
def aAj:entryFor table "set.__iter__"=some Builtin.«frozenset.__iter__»:=
 entryFor_alias (id':="frozenset.__iter__") (by kernel_rfl) (by first|rfl|decide+kernel) #v[1] (by kernel_rfl)
def mD:Manifest.owners.lookup (String.ofList ['r','o','t','a','r','e','t','i','_','t','e','s'].reverse)=some Manifest.sig_set_iterator:=by kernel_rfl
def oE(a:Value):argsOk "set_iterator.__next__" ⟨[a],[]⟩:=by
 unfold argsOk;rw[signature?_of (id:="set_iterator.__next__") (n:=['_','_','t','x','e','n','_','_']) (o:=['r','o','t','a','r','e','t','i','_','t','e','s']) (by kernel_rfl) mD];kernel_rfl
def oA(a:Value):argsOk "set_iterator.__iter__" ⟨[a],[]⟩:=by
 unfold argsOk;rw[signature?_of (id:="set_iterator.__iter__") (n:=['_','_','r','e','t','i','_','_']) (o:=['r','o','t','a','r','e','t','i','_','t','e','s']) (by kernel_rfl) mD];kernel_rfl
end F
theorem fC{α:Type}:∀{l:List α}{n:Nat}(h:n<l.length),(l[n]::l.eraseIdx n).Perm l
 | [],_,h=>absurd h (Dk _)
 |a::l,0,_=>Gg _
 |a::l,n+1,h=>by
  have h':n<l.length:=Pl h;show(l[n]::a::l.eraseIdx n).Perm (a::l);exact(Ml _ _ _).trans ((fC (Pl h)).cons a)
def aAu(next:Nat->Nat)(xs:Array α):(pickOrder next xs).toList.Perm xs.toList:=by
 have go:∀(fuel k:Nat)(left:List α)(out:Array α),left.length=fuel->(Nn next fuel k left out).toList.Perm (out.toList++left):=by
  intro fuel;induction fuel with
  |zero=>
   intro k left out h;have:left=[]:=List.length_eq_zero_iff.mp h;subst this;simp[Nn]
  |succ fuel ih=>
   intro k left out h;have hlt:next k % left.length<left.length:=Ox _ ∅;rw[Nn,Ag hlt];dsimp only;refine(ih _ _ _ (by rw[List.length_eraseIdx_of_lt hlt];lia)).trans ?_;rw[Array.toList_push,Bu];refine Nt _ ?_;exact fC hlt
 exact go xs.size 0 xs.toList #[] (by simp)
section
variable {prog:Program}{w:World}{A:Around}{E:#v[7]}{s:Shared}
def gA(w:World)(S:Addr)(es:Array (Int×Value))(ep:Nat):List Value:=if w.params.followText "set-order"=true then(pickOrder (w.params.setOrder S ep) es).toList.map (·.2)else es.toList.map (·.2)
def jX(w:World)(S:Addr)(es:Array (Int×Value))(ep:Nat):(gA w S es ep).Perm (es.toList.map (·.2)):=by
 unfold gA;split
 ·exact(aAu _ _).map _
 ·exact Gg _
def aBa(w:World)(t:SetTable)(slot i:Nat):Prop:=w.params.followText "set-order"=true∨Cd t.place slot=i
def aGx(R:SetTable.uX xs)(h:i<xs.size):Cd xs (xs.getD i 0+1)=i+1:=by
 obtain⟨h1,h2,h3⟩:=SetTable.gY R (xs.getD i 0+1);rcases Mi (Cd xs (xs.getD i 0+1)) (i+1)with z|z|z
 ·have:=h3 i ∅ h
  lia
 ·exact z
 ·have:=h2 (i+1) z;have:=R i (i+1) ∅ ∅
  lia
def aBq{S:Addr}{o:Obj}{es:Array (Int×Value)}{ep:Nat}{t:SetTable}{slot i:Nat}{Q:Option (Value×Nat)->Shared->Prop}(ho:s.heap.get? S=some o)(hd:o.data=.set es ep t)(hf:t.fits es.size=true)(hr:SetTable.uX t.place)(hpl:t.plain=true)(hl:t.led= !w.params.followText "set-order")
  (hs:aBa w t slot i) (h1:∀v slot',(gA w S es ep)[i]? =some v->aBa w t slot' (i+1)->Q (some (v,slot')) s) (h2:es.size<=i->Q none s):#v[4] (setNext S slot i ep) Q E s:=by
 have psz:t.place.size=es.size:=by
  simp only[Mz,Ij,beq_iff_eq,decide_eq_true_eq]at hf;exact hf.1
 unfold setNext setsByText;refine Aa (Ei ho hd hf ?_);dsimp only;refine Aa (Aa (Ja (Ac ?_)));dsimp only[model];have olen:(gA w S es ep).length=es.size:=by rw[(jX w S es ep).length_eq,Ab,Aq]
 cases hb:w.params.followText "set-order"
 ·ac_rfl
  have hs:Cd t.place slot=i:=by
   rcases hs with z|z
   ·rw[hb]at z;cases z
   ·exact z
  show wpAny _ _ (if(!t.plain && decide (es.size>1))=true then _ else _) _ _ _;rw[hpl];simp only[Lx,Jl,Cf,if_false];show wpAny _ _ ((if(!t.led && !es.isEmpty)=true then _ else _)>>=_) _ _ _;rw[hl,hb];simp only[Ic,Lx,Jl,Cf,if_false];refine Aa (Ac ?_);rw[hs];have eo:(gA w S es ep)[i]? =(es[i]?).map (·.2):=by
   unfold gA;rw[hb];simp
  by_cases hi:i<es.size
  ·have hp:i<t.place.size:=by lia
   rw[Aw hi,Aw hp];refine Ac (h1 _ _ (by rw[eo,Aw hi];rfl) (.inr ?_));have:=aGx hr hp;simpa[Fd,hp]using this
  ·rw[Ke ∅];exact Ac (h2 ∅)
 ·simp only[if_true];rw[if_neg (by simp)];unfold setWalk setsByText;refine Aa (Aa (Ei ho hd hf ?_));dsimp only;refine Aa (Aa (Ja (Ac ?_)));dsimp only[model];rw[hb];simp only[if_true];refine Aa (Ja ?_);refine Ac ?_;dsimp only[model];have eo:(gA w S es ep)[i]? =((pickOrder (w.params.setOrder S ep) es)[i]?).map (·.2):=by
   unfold gA;rw[hb];simp
  cases hg:(pickOrder (w.params.setOrder S ep) es)[i]? with
  |none=>
   rw[hg]at eo;have:=List.getElem?_eq_none_iff.mp eo;exact Ac (h2 ∅)
  |some e=>
   rw[hg]at eo;exact Ac (h1 _ _ eo (.inl hb))
def pH(h:Heap)(I S:Addr)(slot i n ep:Nat):Prop:=∃o,h.get? I=some o/\o.cls=.type "set_iterator"/\o.data=.fields #[.int slot 0,.int i 0,.ref S,.int n 0,.int ep 0]
def pH.typeIs{I S:Addr}{slot i n ep:Nat}(h:pH s.heap I S slot i n ep):s.TypeIs (.ref I) "set_iterator":=let⟨o,ho,hc,_⟩:=h;⟨o,ho,hc⟩
variable {I S:Addr}{o:Obj}{es:Array (Int×Value)}{ep:Nat}{t:SetTable}{slot i:Nat}
def pI{Q:#v[14]->Shared->Prop}(hh:A.handled=none)(hit:pH s.heap I S slot i es.size ep)(ho:s.heap.get? S=some o)(hd:o.data=.set es ep t)(hf:t.fits es.size=true)(hr:SetTable.uX t.place)(hpl:t.plain=true)(hl:t.led= !w.params.followText "set-order")
  (hs:aBa w t slot i) (h1:∀v slot' h',(gA w S es ep)[i]? =some v->aBa w t slot' (i+1)->pH h' I S slot' (i+1) es.size ep->Cw I s.heap h'->Q (some v) {s with heap:=h'}) (h2:es.size<=i->∀h',Nh I s.heap h'->Q none {s with heap:=h'}):
  #v[4] (pyNext (.ref I)) Q E s:=by
 obtain⟨oi,hoi,hci,hdi⟩:=id hit;unfold pyNext;refine Aa (Hx (Ci (name:=Ej "__next__") hit.typeIs F.cX
  (Bm F.cX hit.typeIs F.pD ?_ (F.oE _))))
 unfold Builtin.«set_iterator.__next__»;refine Aa (m:=slotArgs "__next__" 0 _) (Ac ?_);refine Aa (Kb hoi hdi ?_);dsimp only;refine Aa (Tc ho hd hf ?_);rw[if_neg (by simp)];simp only[Dr];refine Aa (aBq ho hd hf hr hpl hl hs (λv slot' e ok=>?_) λhge=>?_)
 ·dsimp only;refine Aa (Fj hoi hdi (by simp) ?_);have hoi2:=Bj (Iu (·.setIfInBounds 0 (rawInt slot'))) hoi (Gf (Di hdi _));have hdi2:=Di hdi (·.setIfInBounds 0 (rawInt slot'));refine Aa (Fj hoi2 hdi2 (by simp) ?_);refine Ac ⟨_,rfl,Ac (h1 v slot' _ e ok ⟨_,Bj _ hoi2 (Gf (Di hdi2 _)),(Ia ..).trans ((Ia ..).trans hci),by rw[Di hdi2];simp[rawInt]⟩ (Ny (Bg ..) (Bg ..)))⟩
 ·dsimp only;refine Aa (Fj hoi hdi (by simp) ?_);show wpAny _ _ (newExc (.type "StopIteration") []>>=_) _ _ _;refine Aa ?_;simp only[newExc,newTuple];refine Aa (Bh ?_ (by size_fits));refine Aa (m:=firstArgMember _ _) (Ku (a:=Bq) (by first|rfl|(simp only[firstArgMember];rfl)) ?_);refine Bh ?_ (by size_fits);simp only[raiseNew];refine Aa (Mr ?_);rw[show A.in1.handled=none from hh];refine Aa (Ac (Pa ?_));refine Aa (Ec (T:="StopIteration") (b:=true) ⟨_,Al _ rfl,rfl⟩ Md ?_);exact Ac (h2 hge _ (((Bg ..).extBut.push _).push _))
def Walks.set(hh:A.handled=none)(hne:S≠I)(o:Obj)(hd:o.data=.set es ep t)(hf:t.fits es.size=true)(hr:SetTable.uX t.place)(hpl:t.plain=true)(hl:t.led= !w.params.followText "set-order"):
  Walks prog w A I [I,S] [I] es.size (λi v=>(gA w S es ep)[i]? =some v) (λi h=>(∃slot,pH h I S slot i es.size ep/\aBa w t slot i)/\h.get? S=some o) where
 sub:=λb hb=>by simp at hb;simp[hb]
 frame:=λ_ _ _ st hk=>by
  obtain⟨⟨slot,⟨oi,h1,h2⟩,h3⟩,h4⟩:=st;exact⟨⟨slot,⟨oi,hk I (by simp) _ h1,h2⟩,h3⟩,hk S (by simp) _ h4⟩
 item:=λi s Q E hi st hQ=>by
  obtain⟨⟨slot,h1,h3⟩,h4⟩:=st;refine pI hh h1 h4 hd hf hr hpl hl h3 (λv slot' h' e ok it' sb=>?_) λhge=>absurd hi ∅;exact hQ _ h' s.toks e ⟨⟨slot',it',ok⟩,(sb.2 S hne).trans h4⟩ λb o hb e=>sb.extBut b o (λh=>hb (by simp[h])) e
 done:=λs Q E st hQ=>by
  obtain⟨⟨slot,h1,h3⟩,h4⟩:=st;refine pI hh h1 h4 hd hf hr hpl hl h3 (λv slot' h' e ok it' sb=>?_) λhge h' he'=>hQ h' s.toks λb o hb e=>he' b o (λh=>hb (by simp[h])) e;have olen:(gA w S es ep).length=es.size:=by rw[(jX w S es ep).length_eq,Ab,Aq]
  rw[De ∅]at e;cases e
 self:=λ_ _ _ _ st hQ=>by
  obtain⟨⟨slot,h1,h3⟩,h4⟩:=st;refine Ki h1.typeIs F.iZ (Bm F.iZ h1.typeIs F.oZ ?_ (F.oA _));show wpAny _ _ (ret (.ref I)) _ _ _;exact Ac ⟨_,rfl,"set_iterator",_,h1.typeIs,F.cX.lookup,hQ⟩
end
namespace F
def aDz:isSubtype (.type "set") (.type "set")=pure true:=by rw[Pv];kernel_rfl
end F
section
variable {prog:Program}{w:World}{A:Around}{E:#v[7]}{s:Shared}{I S:Addr}{o:Obj}{es:Array (Int×Value)}{ep:Nat}{t:SetTable}
def wV{Q:#v[7]}(ho:s.heap.get? S=some o)(hex:o.ExactSet)(hd:o.data=.set es ep t)(hf:t.fits es.size=true)(hpl:t.plain=true)
  (hQ:Q (.ref #v[0]) {s with heap:=s.heap.push {cls:=.type "set_iterator",data:=.fields #[.int 0 0,.int 0 0,.ref S,.int es.size 0,.int ep 0]}}):#v[4] (pyIter (.ref S)) Q E s:=by
 have hT:s.TypeIs (.ref S) "set":=⟨o,ho,hex.1⟩;refine Ki hT Vh (Bm Vh hT F.aAj ?_ (F.args_set_iter_1 _));unfold Builtin.«frozenset.__iter__»;refine Aa (m:=Si "__iter__" _) (Ac ?_);unfold Sj;refine Aa (Aa (Tc ho hd hf (Ac ?_)));unfold setDrawn setsByText;refine Aa (Aa (Ei ho hd hf ?_));dsimp only;refine Aa (Aa (Ja (Ac ?_)));show wpAny _ _ (pure (!(model prog w).w.params.followText "set-order" && (!t.plain && decide (es.size>1)))) _ _ _;rw[hpl];simp only[Lx,Jl,Gs];refine Ac ?_
 ac_rfl
 refine Aa (Ac ?_);refine Aa (wpAny_setEpoch_of ho hd hf ?_);unfold newFields;refine Aa (Bh (Ac ⟨_,rfl,"set_iterator",_,⟨_,Al _ rfl,rfl⟩,F.cX.lookup,?_⟩));simpa[rawInt]using hQ
def nM{Q:List Value->Shared->Prop}(hh:A.handled=none)(ho:s.heap.get? S=some o)(hex:o.ExactSet)(hd:o.data=.set es ep t)(hf:t.fits es.size=true)(hr:SetTable.uX t.place)(hpl:t.plain=true)(hl:t.led= !w.params.followText "set-order")(hn:es.size<=sizeLine)
  (hQ:∀h' tk,#v[0]<h'.objs.size->(∀b o,s.heap.get? b=some o->h'.get? b=some o)->Q (gA w S es ep) {s with heap:=h',toks:=tk}):#v[4] (collect (.ref S)) Q E s:=by
 have hSlt:S<#v[0]:=Ap ho;unfold collect;refine Aa (Mc (Ca F.entry_proto_collect ?_));rw[Bi F.plain_proto_collect _];show wpAny _ A.in1 (newList []>>=λl=>again (.builtin "list.__iadd__" ⟨[l,.ref S],[]⟩)) _ _ s;refine Aa (Bh ?_);refine Ac ⟨Da Tt _,Ca F.entry_list_iadd ?_⟩;rw[Bi Tt _];have ho1:(s.heap.push {cls:=.type "list",data:=.seq ([]:List Value).toArray}).get? S=some o:=Ad _ ho;have hT1:Js {s with heap:=s.heap.push {cls:=.type "list",data:=.seq ([]:List Value).toArray}} (.ref S) "set":=⟨o,ho1,hex.1⟩;have hS₁:(s.heap.push {cls:=.type "list",data:=.seq ([]:List Value).toArray}).get? #v[0]=some {cls:=.type "list",data:=.seq ([]:List Value).toArray}:=Al _ rfl;have hne:#v[0]≠S:=Ey hSlt;have h1:Lz (.ref #v[0]) (.ref S)=false:=by simp[Lz,hne]
 show wpAny _ A.in1 (Fq (.ref #v[0]) (.ref S) (.ref #v[0])) _ _ _;unfold Fq;refine Aa (Hj hT1 ?_);rw[if_neg (by rw[h1];decide)];refine Aa (wV ho1 hex hd hf hpl ?_);have esz:(s.heap.push {cls:=.type "list",data:=.seq ([]:List Value).toArray}).objs.size=#v[0]+1:=Cc ..;rw[esz];generalize hH2:(s.heap.push {cls:=.type "list",data:=.seq ([]:List Value).toArray}).push {cls:=.type "set_iterator",data:=.fields #[.int 0 0,.int 0 0,.ref S,.int es.size 0,.int ep 0]}=H2;have keep2:∀b o,s.heap.get? b=some o->H2.get? b=some o:=λb o e=>by rw[<-hH2];exact Ad _ (Ad _ e)
 have ho2:H2.get? S=some o:=keep2 _ _ ho;have hL2:H2.get? #v[0]=some {cls:=.type "list",data:=.seq ([]:List Value).toArray}:=by rw[<-hH2];exact Ad _ hS₁
 have hI2:H2.get? (#v[0]+1)=some {cls:=.type "set_iterator",data:=.fields #[.int 0 0,.int 0 0,.ref S,.int es.size 0,.int ep 0]}:=by rw[<-hH2, <-esz];exact Al _ rfl
 have hT2:Js {s with heap:=H2} (.ref S) "set":=⟨o,ho2,hex.1⟩;refine Aa (Bs ?_);unfold Wo;refine Aa (Em hT2 F.slot_set_len.lookup ?_)
 (generalize hid:("set.__len__":String)=id0;(fail_if_success (clear hid id0));wp_delta;rw[show splitId id0=some ("set","__len__")from by subst hid;decide+kernel];subst hid)
 refine Aa (Ec (b:=true) hT2 F.aDz ?_)
 ac_rfl
 rw[if_pos #v[1]];refine Aa (Hj hT2 ?_);refine Ac ?_;rw[if_pos #v[1]];show wpAny _ A.in1 (rule "list.extend.makes-room">>=λ_=>Wn (.ref #v[0])>>=λ_=>
  again (.builtin "list.extend.loop" ⟨[.ref #v[0],.ref (#v[0]+1),.ref #v[0]],[]⟩)) _ _ _
 refine Aa (Hm ?_);refine Aa ?_;show wpAny _ A.in1 (updateSeq #v[0] (·.push .none)>>=λ_=>updateSeq #v[0] (·.pop)) _ _ _;refine Aa (Hu hL2 rfl ?_);have hS₂:=Bj (Dh (·.push Bq)) hL2 rfl;refine Hu hS₂ rfl ?_;have hS₃:=Bj (Dh (·.pop)) hS₂ rfl;have oth:∀b o,b≠#v[0]->H2.get? b=some o->((H2.update #v[0] (Dh (·.push Bq))).update #v[0] (Dh (·.pop))).get? b=some o:=
  λb o hb e=>(Cj _ _ (Cg hb)).trans ((Cj _ _ (Cg hb)).trans e)
 have hneI:S≠#v[0]+1:=Ar (Fl hSlt);have W:=(Walks.set (prog:=prog) (A:=A.in1) (I:=#v[0]+1) (S:=S) (by simp[hh]) hneI o hd hf hr hpl hl).toS;have hSf:#v[0]∉[#v[0]+1,S]:=by
  simp only[Ck,Fy,Bt,or_false,not_or];exact⟨Ar (Ew _),hne⟩
 refine Ac ⟨Da F.plain_extend_loop _,codeAny_extend_loopS W hn _ hSf _ es.size 0 _ _ _ rfl (Bd _)
  ⟨⟨0,⟨_,oth _ _ (Ey (Ew _)) hI2,rfl,rfl⟩,.inr ?_⟩,oth _ _ hne.symm ho2⟩ hS₃ (ItemsOf.nil _) λs' acc' c' hm hS' hacc=>?_⟩
 ·have:=(SetTable.gY hr 0).2.1;rcases Nat.eq_zero_or_pos (Cd t.place 0)with z|z
  ·exact z
  ·exact absurd (this 0 z) (Dk _)
 ·show wpAny _ A (load #v[0]>>=_) _ _ s';refine Aa (Nm hS' ?_);obtain⟨h',g',d',tk',os'⟩:=s';have eg:g'=s.gens:=hm.gens;have ed:d'=s.drawn:=hm.drawn;have eo:os'=s.os:=hm.os;subst eg;subst ed;subst eo;have ea:acc'.toList=gA w S es ep:=by
   apply Gi;intro j;have olen:(gA w S es ep).length=es.size:=by rw[(jX w S es ep).length_eq,Ab,Aq]
   by_cases hj:j<acc'.size
   ·rw[Bn,Aw hj];exact(hacc.2 j _ (Aw hj)).symm
   ·rw[De (by rw[Aq];lia),De (by rw[olen, <-hacc.1];lia)]
  refine Ac ?_;rw[ea];refine hQ h' tk' (Ap hS') λb o e=>?_;have hb:b<#v[0]:=Ap e;exact hm.heap b o (by simp only[Ck,Fy,Bt,or_false,not_or];exact⟨Ar hb,Ar (Fl hb)⟩) (oth b o (Ar hb) (keep2 b o e))
end
end PySem
namespace PySem.W
open PyProof.Rows
def KasT.Way{α:Type}(lt:Nat->Nat->Bool)(P:Nat->Prop):KasT α->(α->Prop)->Prop
 |.ret a,Q=>Q a
 |.ask i j k,Q=>P i/\P j/\(k (lt i j)).Way lt P Q
variable {lt:Nat->Nat->Bool}{P:Nat->Prop}
def KasT.way_bind{α β:Type}{f:α->KasT β}{Q:β->Prop}:∀(t:KasT α),t.Way lt P (λa=>(f a).Way lt P Q)->(t.bind f).Way lt P Q
 |.ret _,h=>h
 |.ask i j k,h=>⟨h.1,h.2.1,KasT.way_bind (k (lt i j)) h.2.2⟩
def KasT.way_mono{α:Type}{Q Q':α->Prop}(hq:∀a,Q a->Q' a):∀(t:KasT α),t.Way lt P Q->t.Way lt P Q'
 |.ret _,h=>hq _ h
 |.ask i j k,h=>⟨h.1,h.2.1,KasT.way_mono hq (k (lt i j)) h.2.2⟩
def KasT.way_wp{α:Type}{cmp:Nat->Nat->(Bool->Shared->Prop)->Shared->Prop}{s:Shared}(hc:∀i j C,P i->P j->C (lt i j) s->cmp i j C s){Q:α->Prop}{G:α->Shared->Prop}(hg:∀a,Q a->G a s):∀(t:KasT α),t.Way lt P Q->t.kasWp cmp G s
 |.ret _,h=>hg _ h
 |.ask i j k,h=>hc i j _ h.1 h.2.1 (KasT.way_wp hc hg (k (lt i j)) h.2.2)
structure qN(n:Nat)(lt:Nat->Nat->Bool):Prop where
 tot:∀i j,i<n->j<n->i≠j->lt i j=true∨lt j i=true
 asym:∀i j,lt i j=true->lt j i=false
 trans:∀i j k,lt i j=true->lt j k=true->lt i k=true
def vAt(p:Array Nat)(i:Nat):Nat:=p.getD i 0
def lZ(n:Nat)(p:Array Nat):Prop:=p.toList.Perm (Bk n)
variable {n:Nat}{p:Array Nat}
def lZ.size(h:lZ n p):p.size=n:=by have:=h.length_eq;rw[Br,Aq]at this;exact this
def jQ{p:Array Nat}{i:Nat}:vAt p i=(p[i]?).getD 0:=by
 unfold vAt Fd;by_cases h:i<p.size
 ·simp[h]
 ·simp[h]
def lZ.low(h:lZ n p)(hn:0<n)(i:Nat):vAt p i<n:=by
 rw[jQ];cases e:p[i]? with
 |none=>exact hn
 |some x=>
  have:x∈p.toList:=Ay (by rw[Bn];exact e);exact List.mem_range.mp (h.mem_iff.mp this)
def lZ.inj(h:lZ n p){i j:Nat}(hi:i<n)(hj:j<n)(e:i≠j):vAt p i≠vAt p j:=by
 have nd:p.toList.Nodup:=h.nodup_iff.mpr Gv;have si:i<p.toList.length:=by rw[Aq,h.size];exact hi
 have sj:j<p.toList.length:=by rw[Aq,h.size];exact hj
 intro z;have h1:vAt p i=p.toList[i]:=by rw[jQ, <-Bn,Ag si];rfl
 have h2:vAt p j=p.toList[j]:=by rw[jQ, <-Bn,Ag sj];rfl
 rw[h1,h2]at z;exact e ((Kd nd).mp z)
def lZ.perm{q:Array Nat}(h:lZ n p)(e:q.Perm p):lZ n q:=(Array.perm_iff_toList_perm.mp e).trans h
def nP(lt:Nat->Nat->Bool)(p:Array Nat)(k:Nat):Prop:=∀i j,i<j->j<k->lt (vAt p i) (vAt p j)=true
def aCa(lt:Nat->Nat->Bool)(p:Array Nat)(k:Nat):Prop:=∀i j,i<j->j<k->lt (vAt p j) (vAt p i)=true
def nP.more(S:qN n lt){k:Nat}(h:nP lt p k)(hk:1<=k)(e:lt (vAt p (k-1)) (vAt p k)=true):nP lt p (k+1):=λi j hi hj=>by
 by_cases z:j<k
 ·exact h i j hi z
 ·obtain rfl:j=k:=by lia
  by_cases y:i=j-1
  ·subst y;exact e
  ·exact S.trans _ _ _ (h i (j-1) ∅ ∅) e
def aCa.more(S:qN n lt){k:Nat}(h:aCa lt p k)(hk:1<=k)(e:lt (vAt p k) (vAt p (k-1))=true):aCa lt p (k+1):=λi j hi hj=>by
 by_cases z:j<k
 ·exact h i j hi z
 ·obtain rfl:j=k:=by lia
  by_cases y:i=j-1
  ·subst y;exact e
  ·exact S.trans _ _ _ e (h i (j-1) ∅ ∅)
theorem aDy(S:qN n lt)(hn:0<n)(T:lZ n p):∀(f k:Nat),1<=k->k+f=n->nP lt p k->(kas_asc p f k).Way lt (·<n) λm=>nP lt p m/\k<=m/\m<=n/\(m=n∨lt (vAt p m) (vAt p (m-1))=true)
 |0,k,h1,h2,h3=>⟨h3,Ak _,∅,.inl ∅⟩
 |f+1,k,h1,h2,h3=>by
  refine⟨T.low hn k,T.low hn (k-1),?_⟩;show KasT.Way lt (·<n) (if lt (vAt p k) (vAt p (k-1))=true then _ else _) _;by_cases c:lt (vAt p k) (vAt p (k-1))=true
  ·rw[if_pos c];exact⟨h3,Ak _,∅,.inr c⟩
  ·rw[if_neg c];have c':=(S.tot _ _ (T.low hn k) (T.low hn (k-1)) (T.inj ∅ ∅ ∅)).resolve_left c;exact KasT.way_mono (λm z=>⟨z.1,∅,z.2.2⟩) _ (aDy S hn T f (k+1) ∅ ∅ (h3.more S h1 c'))
theorem aGe(S:qN n lt)(hn:0<n)(T:lZ n p):∀(f k:Nat),1<=k->k+f=n->aCa lt p k->(kas_desc f p k 0).Way lt (·<n) λr=>r.1=p/\r.2.2=0/\aCa lt p r.2.1/\k<=r.2.1/\r.2.1<=n
 |0,k,h1,h2,h3=>⟨rfl,rfl,h3,Ak _,by show k<=n;lia⟩
 |f+1,k,h1,h2,h3=>by
  refine⟨T.low hn k,T.low hn (k-1),?_⟩;show KasT.Way lt (·<n) (if lt (vAt p k) (vAt p (k-1))=true then _ else _) _;by_cases c:lt (vAt p k) (vAt p (k-1))=true
  ·rw[if_pos c,if_neg ∅];exact KasT.way_mono (λm z=>⟨z.1,z.2.1,z.2.2.1,∅,z.2.2.2.2⟩) _ (aGe S hn T f (k+1) ∅ ∅ (h3.more S h1 c))
  ·rw[if_neg c];refine⟨T.low hn (k-1),T.low hn k,?_⟩;have c':=(S.tot _ _ (T.low hn k) (T.low hn (k-1)) (T.inj ∅ ∅ ∅)).resolve_left c;show KasT.Way lt (·<n) (if lt (vAt p (k-1)) (vAt p k)=true then _ else _) _;rw[if_pos c'];exact⟨rfl,rfl,h3,Ak _,by show k<=n;lia⟩
def aNe{m:Nat}(hm:m<=p.size)(i:Nat):vAt (kas_rev p 0 m) i=if i<m then vAt p (m-1-i)else vAt p i:=by
 rw[jQ,kas_rev,getElem?_mirror_all hm];by_cases h:i<m
 ·rw[if_pos ⟨Bd _,h⟩,if_pos h,jQ,Ji]
 ·rw[if_neg (λz=>h z.2),if_neg h,jQ]
def aJj(S:qN n lt)(hn:0<n)(T:lZ n p):(kas_count n p).Way lt (·<n) λr=>lZ n r.2/\nP lt r.2 r.1/\1<=r.1/\r.1<=n:=by
 refine KasT.way_bind _ (KasT.way_mono (λm z=>?_) _ (aDy S hn T (n-1) 1 (Ak _) ∅ λi j h1 h2=>by lia));obtain⟨z1,z2,z3,z4⟩:=z;by_cases e:m=n
 ·rw[if_pos (beq_iff_eq.mpr e)];exact⟨T,z1,z2,z3⟩
 ·rw[if_neg (λy=>e (beq_iff_eq.mp y))];have z4:=z4.resolve_left e;by_cases g:m>1
  ·rw[if_pos g];refine⟨T.low hn 0,T.low hn (m-1),?_⟩;have c:lt (p.getD 0 0) (p.getD (m-1) 0)=true:=z1 0 (m-1) ∅ ∅;rw[c];dsimp only;rw[if_pos rfl];exact⟨T,z1,z2,z3⟩
  ·rw[if_neg g];obtain rfl:m=1:=by lia
   refine KasT.way_bind _ (KasT.way_mono (λr y=>?_) _ (aGe S hn T (n-(1+1)) (1+1) ∅ ∅ λi j h1 h2=>?_))
   ·obtain⟨q,k,w⟩:=r;obtain⟨y1,y2,y3,y4,y5⟩:=y;have y1:q=p:=y1;have y2:w=0:=y2;subst y1 y2;show KasT.Way lt (·<n) (if 0>0 then _ else _) _;rw[if_neg ∅];have y3:aCa lt q k:=y3;have y4:2<=k:=y4;have y5:k<=n:=y5;have T':lZ n (kas_rev q 0 k):=T.perm (mirror_perm ..);have hs:k<=q.size:=by rw[T.size];exact y5
    refine KasT.way_bind _ (KasT.way_mono (λm' x=>?_) _ (aDy S hn T' (n-k) k ∅ ∅ λi j h1 h2=>?_))
    ·exact⟨T',x.1,by have:=x.2.1;show 1<=m';lia,x.2.2.1⟩
    ·rw[aNe hs,aNe hs,if_pos ∅,if_pos h2];exact y3 _ _ ∅ ∅
   ·obtain rfl:i=0:=by lia
    obtain rfl:j=1:=by lia
    exact z4
theorem xX(S:qN n lt)(hn:0<n)(T:lZ n p){k:Nat}(hk:k<n)(R:nP lt p k):∀(f l r:Nat),l<=r->r<=k->r-l<=f->(∀i,i<l->lt (vAt p i) (vAt p k)=true)->(∀i,r<=i->i<k->lt (vAt p k) (vAt p i)=true)->
  (kas_place p k f l r).Way lt (·<n) λm=>m<=k/\(∀i,i<m->lt (vAt p i) (vAt p k)=true)/\∀i,m<=i->i<k->lt (vAt p k) (vAt p i)=true
 |0,l,r,h1,h2,h3,a,b=>by
  obtain rfl:l=r:=by lia
  exact⟨h2,a,b⟩
 |f+1,l,r,h1,h2,h3,a,b=>by
  show KasT.Way lt (·<n) (if l≥r then _ else _) _;by_cases e:l≥r
  ·rw[if_pos e];obtain rfl:l=r:=by lia
   exact⟨h2,a,b⟩
  ·rw[if_neg e];refine⟨T.low hn k,T.low hn _,?_⟩;show KasT.Way lt (·<n) (if lt (vAt p k) (vAt p ((l+r) / 2))=true then _ else _) _;by_cases c:lt (vAt p k) (vAt p ((l+r) / 2))=true
   ·rw[if_pos c];refine xX S hn T hk R f l _ ∅ ∅ ∅ a λi g1 g2=>?_;by_cases y:i=(l+r) / 2
    ·subst y;exact c
    ·exact S.trans _ _ _ c (R _ i ∅ g2)
   ·rw[if_neg c];have c':=(S.tot _ _ (T.low hn k) (T.low hn ((l+r) / 2)) (T.inj hk ∅ ∅)).resolve_left c;refine xX S hn T hk R f _ r ∅ h2 ∅ (λi g=>?_) b;by_cases y:i=(l+r) / 2
    ·subst y;exact c'
    ·exact S.trans _ _ _ (R i _ ∅ ∅) c'
def aN3{k l:Nat}(hk:k<p.size)(hl:l<=k)(i:Nat):vAt (bubble p k (k-l)) i=if i=l then vAt p k else if l<i/\i<=k then vAt p (i-1)else vAt p i:=by
 rw[jQ,getElem?_bubble hk _ ∅,show k-(k-l)=l by lia];split
 ·rw[jQ]
 ·split<;>rw[jQ]
theorem aIn (S : qN n lt) (hn : 0 < n) : ∀ (f : Nat) (p : Array Nat) (k : Nat), lZ n p → k + f = n → nP lt p k → (kas_bin f p k).Way lt (· < n) fun q => lZ n q ∧ nP lt q n
  | 0, p, k, T, h, R => ⟨T, by obtain rfl : k = n := by lia
                               exact R⟩
  | f + 1, p, k, T, h, R => by
    refine KasT.way_bind _ (KasT.way_mono (fun l z => ?_) _ (xX S hn T (k := k) ∅ R k 0 k (Bd _) (Ak _) ∅ (fun i g => by lia) fun i g1 g2 => by lia))
    obtain ⟨z1, z2, z3⟩ := z
    have hs : k < p.size := by rw [T.size]; lia
    refine aIn S hn f _ (k + 1) (T.perm (bubble_perm ..)) ∅ fun i j h1 h2 => ?_
    rw [aN3 hs z1, aN3 hs z1]
    by_cases a1 : i = l
    · subst a1
      rw [if_pos rfl, if_neg ∅, if_pos ⟨h1, by lia⟩]
      exact z3 (j - 1) ∅ ∅
    · rw [if_neg a1]
      by_cases a2 : l < i ∧ i ≤ k
      · rw [if_pos a2, if_neg ∅, if_pos ⟨∅, by lia⟩]
        exact R _ _ ∅ ∅
      · rw [if_neg a2]
        by_cases b1 : j = l
        · rw [if_pos b1]
          exact z2 i ∅
        · rw [if_neg b1]
          by_cases b2 : l < j ∧ j ≤ k
          · rw [if_pos b2]
            by_cases e : i = j - 1
            · lia
            · exact R _ _ ∅ ∅
          · rw [if_neg b2]
            exact R _ _ h1 ∅
def aNs(S:qN n lt)(hn:0<n):(kas_sort n).Way lt (·<n) λq=>lZ n q/\nP lt q n:=by
 have T:lZ n (Ve (Bk n)):=Gg _;refine KasT.way_bind _ (KasT.way_mono (λr z=>?_) _ (aJj S hn T));obtain⟨m,q⟩:=r;obtain⟨z1,z2,z3,z4⟩:=z;have z1:lZ n q:=z1;have z2:nP lt q m:=z2;have z3:1<=m:=z3;have z4:m<=n:=z4;show KasT.Way lt (·<n) (if m<n then kas_bin (n-max m 1) q (max m 1)else _) _;by_cases e:m<n
 ·rw[if_pos e,show max m 1=m by lia];exact aIn S hn _ _ _ z1 ∅ z2
 ·rw[if_neg e];obtain rfl:m=n:=by lia
  exact⟨z1,z2⟩
end PySem.W
namespace PySem
variable {Q:#v[7]}{G:Array GenState->Array GenState->Prop}{items:Array Value}{R:Result->Shared->Prop}{P:Nat->Value->Prop}{tk:Nat->Tok}{l:Addr}{fp wr:List Addr}
open Sem (wp)
open PyProof.Rows (listItems_at)
open SeqAt
def aZu(A:Around)(s:Shared)(y x:Value)(b:Bool):Prop:=
 ∀(prog:Program)(w:World)(E:#v[7])(Q:#v[7]),Q (.bool b) s->#v[4] (richCompare .Lt y x) Q E s
def LtN(n:Nat)(s:Shared)(y x:Value)(b:Bool):Prop:=∀A:Around,A.units<=n->aZu A s y x b
def LtN.ints(n:Nat)(s:Shared)(a b:Int)(t u):LtN n s (.int a t) (.int b u) (decide (a<b)):=λA _ prog w E Q h=>Nf h
variable {s:Shared}{a b:Addr}{xs ys:Array Value}{n:Nat}
def gB:List Int->List Int->Bool
 | [],[]=>false
 | [],_::_=>true
 |_::_,[]=>false
 |x::xs,y::ys=>if x=y then gB xs ys else decide (x<y)
theorem wA:∀x,gB x x=false
 | []=>rfl
 |x::xs=>by rw[gB,if_pos rfl];exact wA xs
theorem aFz:∀x y,x≠y->gB x y=true∨gB y x=true
 | [],[],h=>absurd rfl h
 | [],_::_,_=> .inl rfl
 |_::_,[],_=> .inr rfl
 |x::xs,y::ys,h=>by
  unfold gB;by_cases e:x=y
  ·subst e;rw[if_pos rfl,if_pos rfl];exact aFz xs ys λz=>h (by rw[z])
  ·rw[if_neg e,if_neg (Cg e),decide_eq_true_iff,decide_eq_true_iff]
   lia
theorem uW:∀x y z,gB x y=true->gB y z=true->gB x z=true
 | [],[],_,h,_=>absurd h ⋯
 | [],_::_,[],_,h=>absurd h (by simp[gB])
 | [],_::_,_::_,_,_=>rfl
 |_::_,[],_,h,_=>absurd h (by simp[gB])
 |_::_,_::_,[],_,h=>absurd h (by simp[gB])
 |x::xs,y::ys,z::zs,h1,h2=>by
  unfold gB at h1 h2⊢;by_cases e1:x=y
  ·subst e1;rw[if_pos rfl]at h1;by_cases e2:x=z
   ·subst e2;rw[if_pos rfl]at h2⊢;exact uW xs ys zs h1 h2
   ·rw[if_neg e2]at h2⊢;exact h2
  ·rw[if_neg e1,decide_eq_true_iff]at h1;by_cases e2:y=z
   ·subst e2;rw[if_neg e1,decide_eq_true_iff];exact h1
   ·rw[if_neg e2,decide_eq_true_iff]at h2;rw[if_neg ∅,decide_eq_true_iff]
    lia
def aCq(x y:List Int)(h:gB x y=true):gB y x=false:=by
 cases e:gB y x with
 |false=>rfl
 |true=>
  have:=uW x y x h e;rw[wA]at this;cases this
variable {prog:Program}{w:World}
def LtN.tups{a b:Addr}{x y:List Int}(ha:IsTupleKey (intKind prog w) s.heap x a)(hb:IsTupleKey (intKind prog w) s.heap y b)(hn:n+4<cLine):LtN n s (.ref a) (.ref b) (gB x y):=by
 obtain⟨oa,ia,na,hoa,ca,da,ha⟩:=ha;obtain⟨ob,ib,nb,hob,cb,db,hb⟩:=hb;have Ta:s.TypeIs (.ref a) "tuple":=⟨oa,hoa,ca⟩;have Tb:s.TypeIs (.ref b) "tuple":=⟨ob,hob,cb⟩;intro A hA prog' w' E Q hQ;refine Pb (op:=.Lt) Ta Tb F.slot_tuple_lt (Ql (Sq F.slot_tuple_lt.plain F.entry_tuple_lt (F.slot_tuple_lt.check _ _ _ _ _ _ _ _ Ta (F.args_tuple_lt_2 _ _) ?_))) ∅;show wpAny _ _ (isInstance (.ref b) (.type "tuple")>>=_) _ _ s;refine Aa (Ec Tb Ir ?_)
 ac_rfl
 refine Aa (Hv hoa da ?_);refine Aa (Hv hob db ?_);refine Aa (Dn (Q:=λr s'=>s'=s/\(match r.1 with|some v=>v=.done (.ret (.bool (gB x y)))|none=>gB x y=decide (x.length<y.length))) ?_ (λr s' h=>?_) λ_ _ z=>z)
 ·clear hQ hoa hob da db ca cb Ta Tb;generalize ia.toList=us at ha⊢;generalize ib.toList=vs at hb⊢;induction ha generalizing y vs with
  |nil=>
   rw[List.zip_nil_left,Lc];refine Ac ⟨rfl,?_⟩;cases hb<;>rfl
  |@cons i u x us h1 t1 ih=>
   cases hb with
   |nil=>
    rw[List.zip_nil_right,Lc];exact Ac ⟨rfl,rfl⟩
   |@cons j v y vs h2 t2=>
    obtain⟨tu,rfl⟩:=Eb h1;obtain⟨tv,rfl⟩:=Eb h2;rw[Jg,Iz];refine Aa (Aa (Oe ?_));by_cases ij:i=j
    ·subst ij;rw[beq_self_eq_true]
     ac_rfl
     refine Ac ?_;dsimp only;have:=ih vs t2;have e1:gB (i::x) (i::y)=gB x y:=by rw[gB,if_pos rfl]
     have e2:decide ((i::x).length<(i::y).length)=decide (x.length<y.length):=by simp
     rw[e1,e2];exact this
    ·rw[beq_eq_false_iff_ne.mpr ij];have e1:gB (i::x) (j::y)=decide (i<j):=by rw[gB,if_neg ij]
     rw[e1];simp only[Ic,if_true];refine Aa (Hm (Aa (LtN.ints (n+3) s i j tu tv A.in1 (by show A.units+1<=n+3;lia) prog' w' _ _ ?_)));exact Aa (Ac (Ac (Ac ⟨rfl,rfl⟩)))
 ·obtain⟨rfl,h⟩:=h;obtain⟨r,u⟩:=r;cases r with
  |some v=>
   have h:v=_:=h;subst h;exact Ac ⟨(λz=>nomatch z),hQ⟩
  |none=>
   have h:gB x y=_:=h;rw[ha.length,hb.length,Aq,Aq]at h;refine Ac ⟨(λz=>nomatch z),?_⟩;rw[h]at hQ;exact hQ
section
variable {prog:Program}{w:World}{K:Type} [DecidableEq K]{knd:HeapKind prog w K}{A:Around}
structure Met(val:Nat->K)(adr:Nat->Addr)(i:Nat)(xs:List (K×Addr)):Prop where
 from':∀x∈xs,∃j,j<i/\x=(val j,adr j)
 all:∀j,j<i->∃x∈xs,x.1=val j
 len:xs.length<=i
def oG{I:Addr}{n:Nat}{St:Nat->Shared->Prop}
  (D:uK knd) (W:WalksS prog w A.in1 I fp wr G n P St) (S:Addr) (hSf:S∉fp) (hu:knd.room A.in1) (l:Bool)
  (val:Nat->K) (adr:Nat->Addr) (hval:∀i v,P i v->v=.ref (adr i)) (hn:∀i xs,i<n->Met val adr i xs->(xs.map (·.1)).Nodup->xs.length<300) (hnt:∀i s,St i s->∀b∈wr,∀o,s.heap.get? b=some o->o.cls≠.type "tuple"):
  ∀(k i:Nat)(s:Shared)(xs:List (K×Addr)),n-i=k->i<=n->St i s->(∀j,j<n->knd.is s.heap (val j) (adr j))->
   lH knd s S l xs->Met val adr i xs->
   (∀s' xs',Moved (S::wr) G s s'->lH knd s' S l xs'->Met val adr n xs'->(∀b o,o.cls=.type "tuple"->s.heap.get? b=some o->s'.heap.get? b=some o)->R (.ok (.ret .none)) s')->
   codeAny (model prog w) A (.builtin "set.update.loop" ⟨[.ref S,.ref I],[]⟩) R s:=by
 have hSw:S∉wr:=λh=>hSf (W.sub _ h);have hsub:∀b∈wr,b∈S::wr:=λb hb=>Af _ hb;intro k;induction k with
 |zero=>
  intro i s xs hk hi hst hkey hS hm0 hR;have hin:i=n:=by lia
  subst hin;refine Ca Eh ?_;rw[Bi Bw _];show wpAny _ A.in1 (pyNext (.ref I)>>=_) _ _ s;refine Aa (W.done s _ _ hst λs' hm=>?_);have ht:∀b o,o.cls=.type "tuple"->s.heap.get? b=some o->s'.heap.get? b=some o:=λb o hc e=>hm.heap b o (λhb=>hnt _ _ hst b hb o e hc) e;show wpAny _ A.in1 (ret Bq) _ _ s';exact Ac (hR s' xs (hm.mono hsub) (hS.at D (λo e=>hm.heap S o hSw e) ht) hm0 ht)
 |succ k ih=>
  intro i s xs hk hi hst hkey hS hm0 hR;have hlt:i<n:=by lia
  refine Ca Eh ?_;rw[Bi Bw _];show wpAny _ A.in1 (pyNext (.ref I)>>=_) _ _ s;refine Aa (W.item i s _ _ hlt hst λv s' hP hst' hm=>?_);obtain rfl:=hval i v hP;have ht:∀b o,o.cls=.type "tuple"->s.heap.get? b=some o->s'.heap.get? b=some o:=λb o hc e=>hm.heap b o (λhb=>hnt _ _ hst b hb o e hc) e;have hS':=hS.at D (λo e=>hm.heap S o hSw e) ht;have hk':∀j,j<n->knd.is s'.heap (val j) (adr j):=λj hj=>D.mono (hkey j hj) ht;show wpAny _ A.in1 (holding [Aj (adr i)] (setAdd S (.ref (adr i)))>>=_) _ _ s';refine Aa (Bs ?_);unfold setAdd;refine Bs ?_;refine Aa (knd.pyHash (k:=val i) hu (hk' i hlt) ?_);have hS2:lH knd {s' with toks:=s'.toks+knd.draws (val i)} S l xs:=hS'.at D (λ_ e=>e) λ_ _ _ e=>e;refine oX D hS2 (hn i xs hlt hm0 (by obtain⟨_,_,_,_,z,_⟩:=hS2;exact z.nd)) hu (hk' i hlt) (λhold=>?_) (λhnew h' xs' hsb pm S3=>?_)
  ·refine Ac ⟨Da Bw _,ih (i+1) _ xs ∅ hlt (W.frame _ s' _ _ hst' (Df _ _) λb hb o e=>e) hk' hS2 ⟨λx hx=>?_,λj hj=>?_,by have:=hm0.len;lia⟩ λs'' xs'' hm'' S'' M'' ht''=>?_⟩
   ·obtain⟨j,h1,h2⟩:=hm0.from' x hx;exact⟨j,∅,h2⟩
   ·by_cases e:j=i
    ·subst e;exact hold
    ·exact hm0.all j ∅
   ·exact hR s'' xs'' (Mx W.gtrans ((hm.mono hsub).then_heap (Df _ _) λb o hb e=>e) hm'') S'' M'' λb o hc e=>ht'' b o hc (ht b o hc e)
  ·have hSt:∀b o,o.cls=.type "tuple"->s'.heap.get? b=some o->h'.get? b=some o:=λb o hc e=>by
    have ne:b≠S:=by
     rintro rfl;obtain⟨o2,_,_,_,z,_⟩:=hS';rw[z.ho]at e;cases e;rw[z.hex.1]at hc;exact absurd hc ⋯
    rw[hsb.2 b ne];exact e
   refine Ac ⟨Da Bw _,ih (i+1) _ xs' ∅ hlt (W.frame _ s' _ _ hst' (Df _ _) λb hb o e=>?_) (λj hj=>D.mono (hk' j hj) hSt) S3 ⟨λx hx=>?_,λj hj=>?_,by have:=hm0.len;rw[pm.length_eq,Am];lia⟩ λs'' xs'' hm'' S'' M'' ht''=>?_⟩
   ·rw[hsb.2 b (λh:b=S=>hSf (by rw[<-h];exact hb))];exact e
   ·rcases List.mem_cons.mp (pm.mem_iff.mp hx)with e|m
    ·exact⟨i,∅,e⟩
    ·obtain⟨j,h1,h2⟩:=hm0.from' x m;exact⟨j,∅,h2⟩
   ·by_cases e:j=i
    ·subst e;exact⟨_,pm.mem_iff.mpr Ah,rfl⟩
    ·obtain⟨x,hx,ex⟩:=hm0.all j ∅;exact⟨x,pm.mem_iff.mpr (Af _ hx),ex⟩
   ·refine hR s'' xs'' (Mx W.gtrans ((hm.mono hsub).then_heap (Df _ _) λb o hb e=>?_) hm'') S'' M'' λb o hc e=>ht'' b o hc (hSt b o hc (ht b o hc e));rw[hsb.2 b (λh:b=S=>hb (by rw[h];exact Ah))];exact e
end
variable {A:Around}{E:#v[7]}
def aBu(a:Value){Q₁:#v[7]}
  (h:Q₁ (.ref #v[0]) {s with heap:=s.heap.push {cls:=.type "set",dict:=none,data:=.set #[] 0 (.fresh 0 0 (!w.params.followText "set-order"))}}):
  codeAny (model prog w) A (.call (.builtin "set.__new__") ⟨[.type "set",a],[]⟩) (wants Q₁ E) s:=by
 refine Xa ?_;show wpAny _ A.in1 (do checkBuiltinCall "set.__new__" ⟨[.type "set",a],[]⟩;again (.builtin "set.__new__" ⟨[.type "set",a],[]⟩)) _ _ s;refine Aa (Ku (F.newCall_set_1 a) (Ac ⟨Da Vi _,Ca F.entry_set_new ?_⟩));rw[Bi Vi _];unfold Builtin.«set.__new__» Sk;have hsub:=sub_set_self;obtain⟨hp,g,d,tk,os⟩:=s;dsimp only
 wp_walk
 refine Ja (Ac ?_);dsimp only;simp only[newObj];refine Aa (wpAny_alloc (Ac ?_));exact Ac h
section
variable {prog:Program}{w:World}{K:Type} [DecidableEq K]{knd:HeapKind prog w K}{A:Around}{E:#v[7]}{s:Shared}
def lH.fresh(s:Shared){a:Addr}(l:Bool)(h:s.heap.get? a=some {cls:=.type "set",dict:=none,data:=.set #[] 0 (.fresh 0 0 l)}):lH knd s a l []:=
 ⟨_, #[],0,_,⟨h,⟨rfl,rfl,rfl⟩,rfl,rfl,⟨rfl,λi k h1 h2=>absurd h2 (Dk _),λj hj=>(nomatch hj),Bd _,SetTable.aWi⟩,rfl,λx hx=>(nomatch hx),Ib,λi j x h1 h2=>(nomatch h2)⟩,.inl ⟨rfl,Bd _⟩,rfl,rfl⟩
def aVl(prog:Program)(w:World)(n:Nat)(P:Nat->Value->Prop)(u:Nat)(s:Shared)(S:Addr)(led:Bool)(Z:Shared->Prop):Prop:=
 ∀{A:Around}{R:Result->Shared->Prop}{I:Addr}{fp wr:List Addr}{G:Array GenState->Array GenState->Prop}{St:Nat->Shared->Prop}(s1:Shared),WalksS prog w A.in1 I fp wr G n P St->S∉fp->A.in1.units<=u+8->
  (∀i s,St i s->∀b∈wr,∀o,s.heap.get? b=some o->o.cls≠.type "tuple")->St 0 s1->(∀b o,s.heap.get? b=some o->s1.heap.get? b=some o)->s1.heap.get? S=some {cls:=.type "set",dict:=none,data:=.set #[] 0 (.fresh 0 0 led)}->
  (∀s',Moved (S::wr) G s1 s'->Z s'->R (.ok (.ret .none)) s')->codeAny (model prog w) A (.builtin "set.update.loop" ⟨[.ref S,.ref I],[]⟩) R s1
def wK(Z:Shared->Prop)(hh:A.handled=none)(hl:s.heap.IsList l items)
  (L:aVl prog w items.size (λi v=>items[i]? =some v) A.units s #v[0] (!w.params.followText "set-order") Z)
  (h:∀(h':Heap)(tk:Nat),Z {s with heap:=h',toks:=tk}->(∀b o,b<#v[0]->s.heap.get? b=some o->h'.get? b=some o)->Q (.ref #v[0]) {s with heap:=h',toks:=tk}):
  #v[4] (call (.type "set") [.ref l]) Q E s:=by
 obtain⟨c,tl,hmro⟩:=F.called_set.mro;have hmade:=F.called_set.made;have hsub:=F.called_set.sub;refine Ql (Xa ?_);show wpAny _ _ (callAny (.type "set") _) _ _ _;refine Ac ⟨Code.quiet_builtin _ #v[1],Ca F.entry_type_call ?_⟩;rw[Around.under_plain (weight_type_call_type "set" [.ref l] []) rfl];have h1:=F.called_set.notType;have h2:=F.called_set.canCreate;have hct:=F.typeCall_set_1 (.ref l)
 repeat (any_goals (first|assumption|wp_step))
 generalize hled:(!w.params.followText "set-order")=led at L;refine Ho (aBu (.ref l) (E:=E) (Q₁:=λobj s₁=>obj=.ref #v[0]/\s₁={s with heap:=s.heap.push {cls:=.type "set",dict:=none,data:=.set #[] 0 (.fresh 0 0 led)}}) ⟨rfl,by rw[hled]⟩) λr s₁ hr=>?_;cases r with
 |error e=>exact hr
 |ok fl=>
  cases fl with
  |ret obj=>
   obtain⟨rfl,rfl⟩:=hr;have hS:(s.heap.push {cls:=.type "set",dict:=none,data:=.set #[] 0 (.fresh 0 0 led)}).get? #v[0]=some {cls:=.type "set",dict:=none,data:=.set #[] 0 (.fresh 0 0 led)}:=Al _ rfl;have hT:Js {s with heap:=s.heap.push {cls:=.type "set",dict:=none,data:=.set #[] 0 (.fresh 0 0 led)}} (.ref #v[0]) "set":=⟨_,hS,rfl⟩;have hli:=F.called_set.init.lookup;have hbi:=F.called_set.init.bind (.ref #v[0])
   repeat (any_goals (first|assumption|wp_step))
   refine Ho (Sq (R:=wants (λr s₂=>r=.none/\∃h' tk,s₂={s with heap:=h',toks:=tk}/\Z {s with heap:=h',toks:=tk}/\
     (∀b o,b<#v[0]->s.heap.get? b=some o->h'.get? b=some o)) E) F.called_set.init.plain F.entry_set_init (check_set_init_1 hT ?_)) λr₂ s₂ hr₂=>?_
   ·obtain⟨ol,hol,hcl,nl,hdl⟩:=hl;obtain⟨ocls,odict,odata,oslots⟩:=ol;simp only at hcl hdl;subst hcl;subst hdl;have hol':(s.heap.push {cls:=.type "set",dict:=none,data:=.set #[] 0 (.fresh 0 0 led)}).get? l=some {cls:=.type "list",dict:=odict,data:=.seq items nl,slots:=oslots}:=Ad _ hol;have hsls:=F.sub_list_set;have hslf:=F.sub_list_frozenset;have hne:(Jo "list"==Jo "dict")=false:=by decide
    have hl1:(s.heap.push {cls:=.type "set",dict:=none,data:=.set #[] 0 (.fresh 0 0 led)}).IsList l items:=⟨_,hol',rfl,nl,rfl⟩;unfold Builtin.«set.__init__» noKeywords Sh;generalize hPI:pyIter=PI
    wp_walk
    subst hPI;refine Gu hl1 ?_;refine Aa (Mc ?_);have hlS:l<#v[0]:=Ap hol;have hh3:A.in1.in1.in1.handled=none:=by simp[hh]
    have hneI:l≠(s.heap.push {cls:=.type "set",dict:=none,data:=.set #[] 0 (.fresh 0 0 led)}).objs.size:=by
     rw[Cc];exact Ar (Fl hlS)
    have hSf:#v[0]∉[(s.heap.push {cls:=.type "set",dict:=none,data:=.set #[] 0 (.fresh 0 0 led)}).objs.size,l]:=by
     rw[Cc];simp only[Ck,Fy,Bt,or_false,not_or];exact⟨Ar (Ew _),Ey hlS⟩
    have keep2:∀b o,s.heap.get? b=some o->((s.heap.push {cls:=.type "set",dict:=none,data:=.set #[] 0 (.fresh 0 0 led)}).push {cls:=.type "list_iterator",data:=.fields #[.ref l,.int 0 0]}).get? b=some o:=λb o e=>Ad _ (Ad _ e);refine L _ ((Ly hh3 _ l hneI items).toS) hSf (by simp[Around.in1]) ?hnt ⟨⟨_,Al _ rfl,rfl,rfl⟩,(hl1.push _)⟩ keep2 (Ad _ hS) ?hR
    case hnt=>
     rintro i s2 ⟨⟨o2,g1,g2,_⟩,_⟩ b hb o e hc;have hb:=List.mem_singleton.mp hb;subst hb;rw[g1]at e;cases e;rw[g2]at hc;exact absurd hc ⋯
    case hR=>
     intro s' hm hS';obtain⟨h',g',d',tk',os'⟩:=s';have eg:g'=s.gens:=hm.gens;have ed:d'=s.drawn:=hm.drawn;have eo:os'=s.os:=hm.os;subst eg;subst ed;subst eo;show wpAny _ _ _ _ _ _;refine Ac ?_;show wpAny _ _ (ret Bq) _ _ _;refine Ac ⟨rfl,h',tk',rfl,hS',λb o hb e=>?_⟩;have hb1:b≠#v[0]:=Ar hb;have hb2:b≠(s.heap.push {cls:=.type "set",dict:=none,data:=.set #[] 0 (.fresh 0 0 led)}).objs.size:=by
      rw[Cc];exact Ar (Fl hb)
     exact hm.heap b o (by simp only[Ck,Fy,Bt,or_false,not_or];exact⟨hb1,hb2⟩) (keep2 b o e)
   ·cases r₂ with
    |error e=>exact hr₂
    |ok fl₂=>
     cases fl₂ with
     |ret r=>
      obtain⟨rfl,h',tk,rfl,hS',hk'⟩:=hr₂
      repeat (any_goals (first|assumption|wp_step))
      exact h _ _ hS' hk'
     |_=>exact hr₂.elim
  |_=>exact hr.elim
def aA8{val:Nat->K}{adr:Nat->Addr}(D:uK knd)(hu:∀A':Around,A'.units<=A.units+8->knd.room A')
  (hh:A.handled=none) (hl:s.heap.IsList l items) (hi:∀(i:Nat)(v:Value),items[i]? =some v->v=Aj (adr i)) (hk:∀j,j<items.size->knd.is s.heap (val j) (adr j)) (hb:∀i xs,i<items.size->Met val adr i xs->(xs.map (·.1)).Nodup->xs.length<300)
  (h:∀(h':Heap)(tk:Nat)(xs:List (K×Addr)),lH knd {s with heap:=h',toks:=tk} #v[0] (!w.params.followText "set-order") xs->Met val adr items.size xs->
   (∀b o,b<#v[0]->s.heap.get? b=some o->h'.get? b=some o)->Q (.ref #v[0]) {s with heap:=h',toks:=tk}):
  #v[4] (call (.type "set") [.ref l]) Q E s:=
 wK (λs'=>∃xs,lH knd s' #v[0] (!w.params.followText "set-order") xs/\Met val adr items.size xs) hh hl
  (λs1 W hSf hA hnt st kp hS hR=>oG D W #v[0] hSf (hu _ hA) _ val adr hi hb hnt (items.size-0) 0 s1 [] ∅ (Bd _) st (λj hj=>D.mono (hk j hj) λb o _ e=>kp b o e) (lH.fresh _ _ hS) ⟨λx hx=>(nomatch hx),λj hj=>absurd hj (Dk _),Bd _⟩ λs' xs' hm S M _=>hR s' hm ⟨xs',S,M⟩)
  λh' tk ⟨xs,S,M⟩ kp=>h h' tk xs S M kp
end
open PyProof.Rows PySem.W
structure yI{prog:Program}{w:World}{α:Type} [DecidableEq α](knd:HeapKind prog w α)(ok:α->Prop)(lt:α->α->Bool):Prop where
 set:uK knd
 tot:∀x y,x≠y->lt x y=true∨lt y x=true
 asym:∀x y,lt x y=true->lt y x=false
 trans:∀x y z,lt x y=true->lt y z=true->lt x z=true
 first:∀{h:Heap}{k:α}{a:Addr},ok k->knd.is h k a->∃o items n i tk,h.get? a=some o/\o.cls=.type "tuple"/\o.data=.seq items n/\items[0]? =some (Dp i tk)
 cmp:∀{A:Around}{E:#v[7]}{b:Bool}{s:Shared}{x y:α}{p q:Addr}{Q:Bool->Shared->Prop},A.units+10<cLine->knd.is s.heap x p->knd.is s.heap y q->Q (lt x y) s->#v[4] (keyLt' (tuples' b) (.ref p) (.ref q)) Q E s
section
variable {prog:Program}{w:World}{A:Around}{E:#v[7]}{s:Shared}{α:Type} [DecidableEq α] [Inhabited α]{knd:HeapKind prog w α}{ok:α->Prop}{lt:α->α->Bool}
def uM(knd:HeapKind prog w α)(ok:α->Prop)(h:Heap)(xs:List (α×Addr)):Prop:=∀x∈xs,ok x.1/\knd.is h x.1 x.2
def uM.mono(O:yI knd ok lt){h h':Heap}{xs:List (α×Addr)}(T:uM knd ok h xs)(hs:∀b o,o.cls=.type "tuple"->h.get? b=some o->h'.get? b=some o):uM knd ok h' xs:=λx hx=>⟨(T x hx).1,O.set.mono (T x hx).2 hs⟩
def uM.kat(O:yI knd ok lt){h:Heap}:∀{xs:List (α×Addr)},uM knd ok h xs->∃fs:List Value,fs.length=xs.length/\(∀v∈fs,∃i tk,v=Dp i tk)/\KatTups h (xs.map λx=>Aj x.2) fs
 | [],_=>⟨[],rfl,λv hv=>(nomatch hv),KatTups.nil⟩
 |x::xs,T=>by
  obtain⟨fs,f1,f2,f3⟩:=uM.kat O (xs:=xs) λy hy=>T y (Af _ hy);obtain⟨o,items,n,i,tk,ho,hc,hd,hf⟩:=O.first (T x Ah).1 (T x Ah).2;refine⟨.int i tk::fs,by rw[Am,Am,f1],λv hv=>?_,KatTups.cons ho hc hd hf f3⟩;rcases List.mem_cons.mp hv with rfl|hv
  ·exact⟨_,_,rfl⟩
  ·exact f2 v hv
def aCz{α:Type}{xs:List α}{p:List Nat}(hp:p.Perm (Bk xs.length)):(p.filterMap λi:Nat=>xs[i]?).Perm xs:=by
 have:=hp.filterMap λi:Nat=>xs[i]?;rw[rD]at this;exact this
def aSy(prog:Program)(w:World)(A:Around)(E:#v[7])(lt:α->α->Bool)(xs:List (α×Addr))(s:Shared):Prop:=∀b,#v[4] ((sortRuns').run (SortSt.mk' (tuples' b) ((xs.map λx=>Aj x.2).toArray.zip (xs.map λx=>Aj x.2).toArray) #[] 7 none)) (λr s'=>s'=s/\∃p:Array Nat,p.size=xs.length/\arrOf r.2=p.map (kas_item ((xs.map λx=>Aj x.2).toArray.zip (xs.map λx=>Aj x.2).toArray))/\failedOf r.2=none/\lZ xs.length p/\nP (λi j=>lt (xs.getD i (default,0)).1 (xs.getD j (default,0)).1) p xs.length) E s
def aR2(O:yI knd ok lt)(hu:A.units+20<cLine){xs:List (α×Addr)}(T:uM knd ok s.heap xs){b:Bool}{i j:Nat}{C:Bool->Shared->Prop}(hi:i<xs.length)(hj:j<xs.length)(hC:C (lt (xs.getD i (default,0)).1 (xs.getD j (default,0)).1) s):kas_ask prog w A (tuples' b) (xs.map λx=>Aj x.2) i j C s:=by
 have keyd:∀i,i<xs.length->xs[i]? =some (xs.getD i (default,0))/\(xs.map λx=>Aj x.2).getD i Bq=.ref (xs.getD i (default,0)).2:=λi hi=>by simp[Kr,hi]
 obtain⟨a1,a2⟩:=keyd i hi;obtain⟨b1,b2⟩:=keyd j hj;show wpAny _ _ (keyLt' _ ((xs.map λx=>Aj x.2).getD i Bq) ((xs.map λx=>Aj x.2).getD j Bq)) _ _ _;rw[a2,b2];exact O.cmp ∅ (T _ (Ay a1)).2 (T _ (Ay b1)).2 hC
def aDo(O:yI knd ok lt){a:Addr}{xs:List (α×Addr)}{n:Nat}{P:Fin->Shared->Prop}(ho:s.heap.get? a=some (seqObj "list" (xs.map λx=>Aj x.2).toArray n))
  (T:uM knd ok s.heap xs) (hz:xs.length<=10000) (run:∀s1:Shared,uM knd ok s1.heap xs->2<=xs.length->aSy prog w A E lt xs s1)
  (h:∀ys:List (α×Addr),ys.Perm xs->ys.Pairwise (λx y=>lt x.1 y.1=true)->P (.done (.ret .none)) {s with heap:=sortedHeap s.heap a (xs.map λx=>Aj x.2) (ys.map λx=>Aj x.2).toArray}):
  #v[4] (Builtin.«list.sort» ⟨[.ref a],[]⟩) P E s:=by
 rw[list_sort_plain];have ha:a<#v[0]:=Ap ho;generalize hvs:(xs.map λx=>Aj x.2)=vs at ho h;have vl:vs.length=xs.length:=by rw[<-hvs,Ab]
 refine Aa (listItems_at ho rfl ?_);refine Aa (Qu ho rfl ?_ (by rw[Ai,Co];lia) (Bd _));obtain⟨e1,ho1⟩:∃e1,(s.heap.update a (Dh λ_=> #[])).get? a=some (seqObj "list" #[] e1):=⟨_,get?_update_seq ho (λ_=> #[])⟩;refine Aa (Te ho1 rfl ?_);refine Aa (wpAny_newTuple ?_ (by show vs.length<=_;rw[Co];lia));refine Aa (Mq ?_ (Bd _));refine Bs ?_;have kp:∀b o,b≠a->s.heap.get? b=some o->(((s.heap.update a (Dh λ_=> #[])).push (seqObj "tuple" vs.toArray 0)).push (seqObj "list" #[] 0)).get? b=some o:=λb o hb e=>
  Ad _ (Ad _ ((Cj _ _ (Cg hb)).trans e))
 have ho6:(((s.heap.update a (Dh λ_=> #[])).push (seqObj "tuple" vs.toArray 0)).push (seqObj "list" #[] 0)).get? a=some (seqObj "list" #[] e1):=Ad _ (Ad _ ho1);show #v[4] _ P E {s with heap:=((s.heap.update a (Dh λ_=> #[])).push (seqObj "tuple" vs.toArray 0)).push (seqObj "list" #[] 0)};dsimp only;generalize hH:((s.heap.update a (Dh λ_=> #[])).push (seqObj "tuple" vs.toArray 0)).push (seqObj "list" #[] 0)=H at ho6 kp;have T6:uM knd ok H xs:=T.mono O λb o hc e=>kp b o (λz=>by subst z;rw[ho]at e;cases e;exact absurd (show Jo "list"=Jo "tuple" from hc) ⋯) e;have fin:∀out:Array Value,sortedHeap s.heap a vs out=H.update a (Dh λ_=>out):=λout=>by rw[<-hH];rfl
 by_cases h2:vs.toArray.size<2
 ·rw[if_pos h2,if_pos h2];refine Aa (Ac ?_);rw[StateT.run_pure];refine Aa (Ac ?_);dsimp only;refine Aa (Te ho6 rfl ?_);have ev:(pairsOf vs).map (·.2)=vs.toArray:=by
   apply Array.toList_inj.mp;rw[Array.toList_map,pairsOf_toList];exact List.map_snd_zip (Ak _)
  have hz:((pairsOf vs).map (·.2)).size<=sizeLine+1:=by rw[ev,Ai,Co];lia
  refine Aa (Qu ho6 rfl ?_ (Bd _) hz);simp only[bne_self_eq_false,Cf,if_false];refine Ac ?_;have q:=h xs (Gg _) (by
   rw[Ai,vl]at h2;match xs,h2 with
   | [],_=>exact .nil
   | [x],_=>exact Hg _ _)
  rw[fin,hvs]at q;have q':P (.done (.ret .none)) {s with heap:=H.update a (Dh λ_=>(pairsOf vs).map (·.2))}:=by rw[ev];exact q
  exact q'
 ·rw[if_neg h2,if_neg h2];rw[Ai]at h2;obtain⟨fs,f1,f2,f3⟩:=uM.kat O T6;rw[hvs]at f3;refine Aa (kat_kind (T:=Jo "int") f3 ∅ (λv hv=>?_) rfl ?_)
  ·obtain⟨i,tk,rfl⟩:=f2 v hv;exact Looks.of_pure rfl
  ·have keyd:∀i,i<xs.length->xs[i]? =some (xs.getD i (default,0))/\vs.getD i Bq=.ref (xs.getD i (default,0)).2:=λi hi=>by
    rw[<-hvs];simp[Kr,hi]
   have rn:=run {s with heap:=H} T6 ∅;unfold aSy at rn;rw[hvs]at rn;refine Aa (Dn (rn _) ?_ λ_ _ e=>e);rintro⟨⟨⟩,st'⟩ s' ⟨rfl,p,hp,har,hf,hT,hR⟩;dsimp only;have hout:=kat_snds rfl har;have pm:p.toList.Perm (Bk xs.length):=hT;have ey:(p.toList.map λi=>vs.getD i Bq)=(p.toList.filterMap λi:Nat=>xs[i]?).map λx=>Aj x.2:=by
    rw[Ra];have:∀l:List Nat,(∀i∈l,i<xs.length)->(l.map λi=>vs.getD i Bq)=l.filterMap λi:Nat=>(xs[i]?).map λx=>Aj x.2:=by
     intro l;induction l with
     |nil=>intro _;rfl
     |cons i l ih=>
      intro hl;obtain⟨a1,a2⟩:=keyd i (hl i Ah);rw[Bo,Gy,a1,ih λj hj=>hl j (Af _ hj),a2];rfl
    exact this _ λi hi=>List.mem_range.mp (pm.mem_iff.mp hi)
   have hsz:(Ve (p.toList.map λi=>vs.getD i Bq)).size<=sizeLine+1:=by rw[Ai,Ab,Aq,hp,Co];lia
   refine Aa (Te ho6 rfl ?_);rw[hout];refine Aa (Qu ho6 rfl ?_ (Bd _) hsz);rw[hf];simp only[bne_self_eq_false,Cf,if_false];refine Ac ?_;have q:=h (p.toList.filterMap λi:Nat=>xs[i]?) (aCz pm) (by
    rw[Oc];intro i j hi hj hij;have pl:p.toList.length=xs.length:=by rw[pm.length_eq,Br]
    have fl:=(aCz pm).length_eq;have gt:∀r,(hr:r<(p.toList.filterMap λi:Nat=>xs[i]?).length)->(p.toList.filterMap λi:Nat=>xs[i]?)[r]=xs.getD (vAt p r) (default,0):=λr hr=>by
     have hr':r<p.toList.length:=by lia
     have e1:=filterMap_get (f:=λi:Nat=>xs[i]?) (l:=p.toList) (λi hi=>⟨_,Ag (List.mem_range.mp (pm.mem_iff.mp hi))⟩) r;rw[Ag hr,Ag hr']at e1;have e2:vAt p r=p.toList[r]:=by rw[jQ, <-Bn,Ag hr'];rfl
     rw[e2];have lt:p.toList[r]<xs.length:=List.mem_range.mp (pm.mem_iff.mp (Eu hr'));have e3:(some p.toList[r]).bind (λi:Nat=>xs[i]?)=some (xs.getD p.toList[r] (default,0)):=(keyd _ lt).1;rw[e3]at e1;exact Bl e1
    rw[gt i hi,gt j hj];exact hR i j hij ∅)
   rw[fin, <-ey]at q;exact q
def tG(O:yI knd ok lt)(hu:A.units+20<cLine){a:Addr}{xs:List (α×Addr)}{n:Nat}{P:Fin->Shared->Prop}(ho:s.heap.get? a=some (seqObj "list" (xs.map λx=>Aj x.2).toArray n))
  (T:uM knd ok s.heap xs) (nd:(xs.map (·.1)).Nodup) (h64:xs.length<64)
  (h:∀ys:List (α×Addr),ys.Perm xs->ys.Pairwise (λx y=>lt x.1 y.1=true)->P (.done (.ret .none)) {s with heap:=sortedHeap s.heap a (xs.map λx=>Aj x.2) (ys.map λx=>Aj x.2).toArray}):
  #v[4] (Builtin.«list.sort» ⟨[.ref a],[]⟩) P E s:=by
 refine aDo O ho T ∅ (λs1 T1 h2 b=>?_) h;have S:qN xs.length λi j=>lt (xs.getD i (default,0)).1 (xs.getD j (default,0)).1:=by
  refine⟨λi j hi hj ne=>O.tot _ _ λz=>ne ?_,λi j=>O.asym _ _,λi j k=>O.trans _ _ _⟩;have li:i<(xs.map (·.1)).length:=by rw[Ab];exact hi
  have lj:j<(xs.map (·.1)).length:=by rw[Ab];exact hj
  refine(Kd (h₀:=li) (h₁:=lj) nd).mp ?_;simpa[Kr,hi,hj]using z
 have wy:=aNs S ∅;have vl:(xs.map λx=>Aj x.2).length=xs.length:=Ab ..;refine kat_run (Q:=λst' s'=>s'=s1/\∃p:Array Nat,p.size=xs.length/\arrOf st'=p.map (kas_item ((xs.map λx=>Aj x.2).toArray.zip (xs.map λx=>Aj x.2).toArray))/\failedOf st'=none/\lZ xs.length p/\nP (λi j=>lt (xs.getD i (default,0)).1 (xs.getD j (default,0)).1) p xs.length) (G:=λp s'=>s'=s1/\lZ xs.length p/\nP (λi j=>lt (xs.getD i (default,0)).1 (xs.getD j (default,0)).1) p xs.length) rfl ∅ ∅ (λp st' s' a1 a2 a3 a4=>⟨a4.1,p,a1.trans vl,a2,a3,a4.2⟩) ?_;rw[vl];exact KasT.way_wp (lt:=λi j=>lt (xs.getD i (default,0)).1 (xs.getD j (default,0)).1) (P:=(·<xs.length)) (λi j C hi hj hC=>aR2 O hu T1 hi hj hC) (λp hp=>⟨rfl,hp⟩) _ wy
def aG0(O:yI knd ok lt)(hu:A.units+30<cLine){S:Addr}{xs:List (α×Addr)}(hh:A.handled=none)(I:lH knd s S (!w.params.followText "set-order") xs)(ne:∀x∈xs,ok x.1)(h64:xs.length<64)
  (h:∀(h':Heap)(tk:Nat)(l:Addr)(e:Nat)(ys:List (α×Addr)),ys.Perm xs->ys.Pairwise (λx y=>lt x.1 y.1=true)->#v[0]<=l->h'.get? l=some (seqObj "list" (ys.map λx=>Aj x.2).toArray e)->
   (∀b o,s.heap.get? b=some o->h'.get? b=some o)->Q (.ref l) {s with heap:=h',toks:=tk}):
  #v[4] (call (.builtin "sorted") [.ref S]) Q E s:=by
 obtain⟨o,es,ep,t,I,sm,pl,ld⟩:=I;refine Jh Tf Ru Rv (Rx _) ?_;unfold Builtin.«sorted»;refine Aa (m:=checkCount "sorted" 1 1 _) (Ac ?_);have esz:es.size<64:=by rw[I.len];exact h64
 refine Aa (nM (by simpa using hh) I.ho I.hex I.hd I.fits I.good.rise pl ld (by rw[Co];lia) λh1 tk1 s1 k1=>?_);have op:=jX w S es ep;have eo:es.toList.map (·.2)=xs.map λx=>Aj x.2:=by rw[I.he,Az];rfl
 rw[eo]at op;obtain⟨zs,pz,ez⟩:∃zs:List (α×Addr),zs.Perm xs/\gA w S es ep=zs.map λx=>Aj x.2:=by
  have:∀{l:List Value}{xs:List (α×Addr)},l.Perm (xs.map λx=>Aj x.2)->∃zs:List (α×Addr),zs.Perm xs/\l=zs.map λx=>Aj x.2:=λ{l xs} hp=>by
   generalize hm:(xs.map λx=>Aj x.2)=m at hp;induction hp generalizing xs with
   |nil=>exact⟨xs,Gg _,hm.symm⟩
   |cons a p ih=>
    match xs,hm with
    |x::xs,hm=>
     obtain⟨e1,e2⟩:=By hm;obtain⟨zs,z1,z2⟩:=ih e2;exact⟨x::zs,z1.cons x,by rw[z2, <-e1];rfl⟩
   |swap a b l=>
    match xs,hm with
    |x::y::xs,hm=>
     obtain⟨e1,e2⟩:=By hm;obtain⟨e2,e3⟩:=By e2;exact⟨y::x::xs,Ml _ _ _,by rw[<-e1, <-e2, <-e3];rfl⟩
   |trans p1 p2 ih1 ih2=>
    obtain⟨zs,z1,z2⟩:=ih2 hm;obtain⟨us,u1,u2⟩:=ih1 z2.symm;exact⟨us,u1.trans z1,u2⟩
  exact this op
 rw[ez];have zl:zs.length=xs.length:=pz.length_eq;refine Aa (Mq ?_ (by rw[Ab,Co];lia));have hoL:(h1.push (seqObj "list" (zs.map λx=>Aj x.2).toArray 0)).get? h1.objs.size=some (seqObj "list" (zs.map λx=>Aj x.2).toArray 0):=Al _ rfl;have T1:uM knd ok (h1.push (seqObj "list" (zs.map λx=>Aj x.2).toArray 0)) zs:=λx hx=>⟨ne x (pz.mem_iff.mp hx),O.set.mono (I.keys x (pz.mem_iff.mp hx)) λb o _ e=>Ad _ (k1 b o e)⟩;refine Aa (Bs (Bm slot_list_sort ⟨_,hoL,rfl⟩ entry_list_sort (tG O (by first|lia|(show A.units+1+20<cLine;lia)|(show A.units+2+20<cLine;lia)|(show A.units+3+20<cLine;lia)) hoL T1 (by rw[(pz.map (·.1)).nodup_iff];exact I.nd) ∅ λys py hy=>⟨_,rfl,?_⟩) (Pw _)));refine Ac ⟨_,rfl,?_⟩;obtain⟨e,he⟩:=Qs (out:=(ys.map λx=>Aj x.2).toArray) hoL;refine h _ tk1 _ e ys (py.trans pz) hy (Ez s1) he λb o q=>?_;have hb:b<h1.objs.size:=Ap (k1 b o q);rw[Pu (Ar hb) (by rw[Cc];exact Fl hb)];exact Ad _ (k1 b o q)
end
def gU(x y:Int×List Int):Bool:=if x.1=y.1 then gB x.2 y.2 else decide (x.1<y.1)
def aIq(hv:∀k v,(intKind prog w).is k v=true->∃i tk,v=Dp i tk):yI (bM (intKind prog w)) (λ_=>True) gU where
 set:=aLt hv
 tot:=λx y ne=>by
  unfold gU;by_cases e:x.1=y.1
  ·rw[if_pos e,if_pos e.symm];exact aFz _ _ λz=>ne (Ow e z)
  ·rw[if_neg e,if_neg (Cg e),decide_eq_true_iff,decide_eq_true_iff]
   lia
 asym:=λx y h=>by
  unfold gU at h⊢;by_cases e:x.1=y.1
  ·rw[if_pos e]at h;rw[if_pos e.symm];exact aCq _ _ h
  ·rw[if_neg e,decide_eq_true_iff]at h;rw[if_neg (Cg e),decide_eq_false_iff_not]
   lia
 trans:=λx y z h1 h2=>by
  unfold gU at h1 h2⊢;by_cases e1:x.1=y.1
  ·rw[if_pos e1]at h1;by_cases e2:y.1=z.1
   ·rw[if_pos e2]at h2;rw[if_pos (e1.trans e2)];exact uW _ _ _ h1 h2
   ·rw[if_neg e2,decide_eq_true_iff]at h2;rw[if_neg ∅,decide_eq_true_iff]
    lia
  ·rw[if_neg e1,decide_eq_true_iff]at h1;by_cases e2:y.1=z.1
   ·rw[if_neg ∅,decide_eq_true_iff]
    lia
   ·rw[if_neg e2,decide_eq_true_iff]at h2;rw[if_neg ∅,decide_eq_true_iff]
    lia
 first:=λ_ hk=>by
  obtain⟨o,v,b,n,ho,hc,hd,h1,_⟩:=hk;obtain⟨tk,rfl⟩:=Eb h1;exact⟨o,_,n,_,tk,ho,hc,hd,rfl⟩
 cmp:=λ{A E b s x y p q Q} hu hx hy h=>by
  obtain⟨ox,v,px,nx,h1,h2,h3,h4,h5⟩:=hx;obtain⟨oy,v',py,ny,g1,g2,g3,g4,g5⟩:=hy;obtain⟨tu,rfl⟩:=Eb h4;obtain⟨tv,rfl⟩:=Eb g4;refine kat_lt h1 h3 g1 g3 ?_;show KatLex prog w A b _ Q [(_,_),(_,_)] 0 s;refine kat_cons (Oe ?_);unfold gU at h;by_cases e:x.1=y.1
  ·rw[if_pos e]at h;rw[beq_iff_eq.mpr e];refine kat_yes (kat_cons ((tupleKind (intKind prog w)).eqBool (show A.units<cLine by lia) h5 g5 ?_));by_cases e2:x.2=y.2
   ·rw[decide_eq_true e2];refine kat_yes (kat_nil ?_);rw[e2,wA]at h;exact h
   ·rw[decide_eq_false e2];refine kat_no ?_;rw[show(b && (0+1==0))=false by cases b<;>rfl];exact kat_one _ _ (LtN.tups (n:=A.units) h5 g5 ∅ A (Ak _) prog w _ _ h)
  ·rw[if_neg e]at h;rw[beq_eq_false_iff_ne.mpr e];refine kat_no ?_;rw[show(b && (0==0))=b by cases b<;>rfl];cases b with
   |true=>exact oneLt_int h
   |false=>exact kat_one _ _ (Nf (Q:=PySem.W.BoolBack Q) h)
def aBo(l:Bool)(zs:List Nat):SetTable:={mask:=7,place:=zs.toArray,dummies:= #[],finger:=0,led:=l,moves:=0,plain:=true}
def jV(zs:List Nat)(tk:Nat->Tok):Array (Int×Value):=(zs.map λz:Nat=>((z:Int),Dp (z:Int) (tk z))).toArray
def zs1(x:Nat):Bool->List Nat
 |false=>[]
 |true=>[x]
def aZj{l:Bool}{x:Nat}{t:Tok}(hx:x∈[1,2,3]):layNew (aBo l []) (jV [] tk) (x:Int) (.int x t)=(jV [x] (λ_=>t),aBo l [x],false,false):=by
 simp only[Ck,Bt,or_false]at hx;rcases hx with rfl|rfl|rfl<;>cases l<;>kernel_rfl
variable {x:Nat}
def aGk(s:Shared)(a:Addr)(l:Bool)(x:Nat)(b:Bool):Prop:=∃o ep tk,s.heap.get? a=some o/\o.ExactSet/\o.data=.set (jV (zs1 x b) tk) ep (aBo l (zs1 x b))
def aSs(b:Bool)(tk:Nat->Tok):(jV (zs1 x b) tk).size<=1:=by cases b<;>simp[jV,zs1]
def aNg{l b:Bool}(hx:x∈[1,2,3]):(aBo l (zs1 x b)).fits (jV (zs1 x b) tk).size=true:=by
 simp only[Ck,Bt,or_false]at hx;cases b<;>rcases hx with rfl|rfl|rfl<;>rfl
def aLn(hx:x∈[1,2,3]):(intKind prog w).hash (x:Int)=(x:Int):=by
 simp only[Ck,Bt,or_false]at hx;rcases hx with rfl|rfl|rfl<;>rfl
def aT5{b:Bool}(hx:x∈[1,2,3]):ElemsOf (intKind prog w) (jV (zs1 x b) tk).toList:=by
 intro e he;obtain⟨z,hm,rfl⟩:=List.mem_map.mp (show e∈(zs1 x b).map _ from he);obtain rfl:z=x:=by
  cases b
  ·cases hm
  ·exact List.mem_singleton.mp hm
 exact⟨⟨(z:Int),Qm _ _ _ _,(aLn hx).symm⟩,rfl⟩
def aBr{a:Addr}{l b:Bool}{t:Tok}{Q:Bool->Shared->Prop}(hx:x∈[1,2,3])(S:aGk s a l x b)(h:∀(b:Bool) h',Cw a s.heap h'->aGk {s with heap:=h'} a l x true->Q b {s with heap:=h'}):
  #v[4] (setAddHashed a (.int x t) (x:Int)) Q E s:=by
 obtain⟨o,ep,tk,ho,hex,hd⟩:=S;have hel:=aT5 (prog:=prog) (w:=w) (b:=b) (tk:=tk) hx;have hsz:=aSs (x:=x) b tk;unfold setAddHashed setAddHashedIn;refine Bs (Aa (Ei ho hd (aNg hx) ?_));dsimp only;rw[byScan_of (knd:=intKind prog w) rfl (by unfold scanBound;lia) hel];simp only[↓reduceIte];unfold setAddByScan;refine Aa ?_;refine Aa (Hm ?_);have hkey:(intKind prog w).is (x:Int) (.int x t)=true:=Qm _ _ _ _;have e1:#v[4] (setScan a (.int x t) (x:Int) true (jV (zs1 x b) tk)) (λr s'=>s'=s/\r=(match (jV (zs1 x b) tk).toList.findIdx? (λe=>(intKind prog w).is (x:Int) e.2)with|some j=> .found (0+j)|none=> .absent)) E s:=by
  have:=wpAny_setScan_of (knd:=intKind prog w) (adding:=true) (A:=A) (E:=E) (Q:=λr s'=>s'=s/\r=(match (jV (zs1 x b) tk).toList.findIdx? (λe=>(intKind prog w).is (x:Int) e.2)with|some j=> .found (0+j)|none=> .absent)) hkey ho hd (aNg hx) hel ⟨rfl,rfl⟩;rw[aLn hx]at this;exact this
 refine Aa (Dn e1 (λr s' hr=>?_) λ_ _ z=>z);obtain⟨rfl,rfl⟩:=hr;cases b with
 |true=>
  have e:(jV (zs1 x true) tk).toList.findIdx? (λe=>(intKind prog w).is (x:Int) e.2)=some 0:=by
   show List.findIdx? _ [((x:Int),Dp (x:Int) (tk x))]=some 0;rw[List.findIdx?_cons,if_pos (Qm _ _ _ _)]
  rw[e];dsimp only;exact Ac (Ac (h false s'.heap (Wj a s'.heap) ⟨o,ep,tk,ho,hex,hd⟩))
 |false=>
  have e:(jV (zs1 x false) tk).toList.findIdx? (λe=>(intKind prog w).is (x:Int) e.2)=none:=rfl;rw[e];dsimp only;rw[show layNew (aBo l (zs1 x false)) (jV (zs1 x false) tk) (x:Int) (.int x t)=_ from aZj hx];dsimp only;refine Aa (Ac ?_);rw[if_pos (show(aBo l [x]).plain=true from rfl)];refine Aa ?_;rw[hashByValue_scannable 8 (show(Dp x t).scannable=true from rfl)];refine Ac ?_;rw[if_pos (show plainKind (Dp x t)=true from rfl)];refine Aa (Nl ho hd ?_ (by rw[Co];show(1:Nat)<=_;decide));rw[show(!false && (aBo l [x]).tooFull)=false from rfl]
  ac_rfl
  refine Ac (Ac ?_);have hg:=Bj (Hz (jV [x] λ_=>t) (aBo l [x])) ho (by rw[Lm _ _ hd];rfl);rw[Lm _ _ hd]at hg;exact h true _ (Bg s'.heap a (Hz _ _)) ⟨_,_,λ_=>t,hg,hex,rfl⟩
def oK{I:Addr}{n:Nat}{St:Nat->Shared->Prop}
  (W:WalksS prog w A.in1 I fp wr G n P St) (S:Addr) (hSf:S∉fp) (l:Bool)
  (hval:∀i v,P i v->∃t,v=.int x t) (h3:x∈[1,2,3]):
  ∀(k i:Nat)(s:Shared),n-i=k->i<=n->St i s->aGk s S l x (decide (0<i))->
   (∀s',Moved (S::wr) G s s'->aGk s' S l x (decide (0<n))->R (.ok (.ret .none)) s')->
   codeAny (model prog w) A (.builtin "set.update.loop" ⟨[.ref S,.ref I],[]⟩) R s:=by
 have hSw:S∉wr:=λh=>hSf (W.sub _ h);have hsub:∀b∈wr,b∈S::wr:=λb hb=>Af _ hb;intro k;induction k with
 |zero=>
  intro i s hk hi hst hS hR;have hin:i=n:=by lia
  subst hin;refine Ca Eh ?_;rw[Bi Bw _];show wpAny _ A.in1 (pyNext (.ref I)>>=_) _ _ s;refine Aa (W.done s _ _ hst λs' hm=>?_);show wpAny _ A.in1 (ret Bq) _ _ s';exact Ac (hR s' (hm.mono hsub) (by
   obtain⟨o,ep,tk,ho,rest⟩:=hS;exact⟨o,ep,tk,hm.heap S _ hSw ho,rest⟩))
 |succ k ih=>
  intro i s hk hi hst hS hR;have hlt:i<n:=by lia
  refine Ca Eh ?_;rw[Bi Bw _];show wpAny _ A.in1 (pyNext (.ref I)>>=_) _ _ s;refine Aa (W.item i s _ _ hlt hst λv s' hP hst' hm=>?_);obtain⟨t,rfl⟩:=hval i v hP;have hS':aGk {s' with toks:=s'.toks+1} S l x (decide (0<i)):=by
   obtain⟨o,ep,tk,ho,rest⟩:=hS;exact⟨o,ep,tk,hm.heap S _ hSw ho,rest⟩
  show wpAny _ A.in1 (holding [Dp x t] (setAdd S (.int x t))>>=_) _ _ s';refine Aa (Bs ?_);unfold setAdd;refine Bs ?_;refine Aa ((intKind prog w).pyHash (k:=(x:Int)) (Qm _ _ _ _) ?_);rw[aLn h3];refine aBr (s:={s' with toks:=s'.toks+1}) h3 hS' λb h' hsb hS2=>?_;refine Ac ⟨Da Bw _,ih (i+1) _ ∅ hlt (W.frame _ s' _ _ hst' (Ha _) λb hb o e=>?_) (by rw[decide_eq_true (Mo i)];exact hS2) λs'' hm'' hS''=>?_⟩
  ·rw[hsb.2 b (λh:b=S=>hSf (by rw[<-h];exact hb))];exact e
  ·refine hR s'' (Mx W.gtrans ((hm.mono hsub).then_heap (Ha _) λb o hb e=>?_) hm'') hS'';rw[hsb.2 b (λh:b=S=>hb (by rw[h];exact Ah))];exact e
def aAn(hh:A.handled=none)(hl:s.heap.IsList l items)(hi:∀(i:Nat)(v:Value),items[i]? =some v->∃t,v=.int x t)(h3:x∈[1,2,3])
  (h:∀(h':Heap)(tk:Nat),aGk {s with heap:=h',toks:=tk} #v[0] (!w.params.followText "set-order") x (decide (0<items.size))->(∀b o,b<#v[0]->s.heap.get? b=some o->h'.get? b=some o)->Q (.ref #v[0]) {s with heap:=h',toks:=tk}):
  #v[4] (call (.type "set") [.ref l]) Q E s:=
 wK (λs'=>aGk s' #v[0] (!w.params.followText "set-order") x (decide (0<items.size))) hh hl
  (λs1 W hSf hA hnt st kp hS hR=>oK W #v[0] hSf _ hi h3 (items.size-0) 0 s1 ∅ (Bd _) st ⟨_,0,λ_=>0,hS,⟨rfl,rfl,rfl⟩,rfl⟩ λs' hm S=>hR s' hm S)
  λh' tk S kp=>h h' tk S kp
def rR(h:Heap)(d:Addr)(es:Array DictEntry)(ep:Nat):Prop:=∃o,h.get? d=some o/\o.ExactDict/\o.data=.dict es ep
def rR.at_{h h':Heap}{d:Addr}{es:Array DictEntry}{ep:Nat}(x:rR h d es ep)(e:∀o,h.get? d=some o->h'.get? d=some o):rR h' d es ep:=let⟨o,ho,r⟩:=x;⟨o,e _ ho,r⟩
def rR.lt{h:Heap}{d:Addr}{es:Array DictEntry}{ep:Nat}(x:rR h d es ep):d<h.objs.size:=let⟨_,ho,_⟩:=x;Ap ho
variable {d it:Addr}{es:Array DictEntry}{ep i:Nat}
def rR.ty(x:rR s.heap d es ep):s.TypeIs (.ref d) "dict":=let⟨o,ho,c,_⟩:=x;⟨o,ho,c.1⟩
def aM8(lo:(d==sysModules)=false)(x:rR s.heap d es ep)
  (q:Q (.ref #v[0]) {s with heap:=s.heap.push {cls:=.type "dict_keyiterator",data:=.fields #[.ref d,.int 0 0,.int es.size 0,.int ep 0]}}):#v[4] (pyIter (.ref d)) Q E s:=by
 obtain⟨o,ho,c,dd⟩:=id x;refine Ki x.ty Um (Bm Um x.ty F.entry_dict_iter ?_ (F.args_dict_iter_1 _));unfold Builtin.«dict.__iter__» Ww;refine Aa (Aa (Gn x.ty (Ac ?_)));show wpAny _ _ (Hd d>>=_) _ _ s;unfold Hd;rw[if_neg (by rw[lo];exact Ao)];refine Aa (Ac (Aa (Cy ho dd (Aa (Gp ho dd ?_)))));refine Aa (Bh (Ac ⟨_,rfl,"dict_keyiterator",_,⟨_,Al _ rfl,rfl⟩,F.slot_dict_keyiterator_next.lookup,?_⟩));simpa[rawInt]using q
def aNc{Q:#v[14]->Shared->Prop}(y:s.heap.IsKeyIter it d i es.size ep)(x:rR s.heap d es ep)(hi:i<es.size)
  (q:∀g,g.IsKeyIter it d (i+1) es.size ep->Cw it s.heap g->Q (some es[i].key) {s with heap:=g}):#v[4] (pyNext (.ref it)) Q E s:=by
 obtain⟨o,ho,hc,hd⟩:=id y
 obtain⟨od,h1,_,h2⟩:=x
 have own:Ea "dict_keyiterator"=false:=by decide
 unfold pyNext
 refine Aa (Hx (Ci (name:=Ej "__next__") y.typeIs Gd (Bm Gd y.typeIs Nz ?_ (Ni _))))
 refine Aa (Ac (Aa (Aa ?_)))
 first|refine Aa (Gb y.typeIs (Ac ?_))|refine Aa (Hl y.typeIs (Ac ?_))
 refine Aa (Kb ho hd ?_)
 simp only[own,Cf,if_false]
 show wpAny _ _ (if(Aj d==Bq)=true then _ else _) _ _ s
 rw[if_neg (show¬((Aj d==Bq)=true)from Ao)]
 refine Aa (Ac (Aa (Cy h1 h2 ?_)))
 rw[if_neg (by simp)]
 refine Aa (Ac (Aa (Gp h1 h2 ?_)))
 rw[if_neg (by simp)]
 refine Ac ?_
 simp only[show¬((i:Int)<0)from by lia,if_false,Dr,Aw hi]
 refine Aa ?_
 first|refine Aa (Gb y.typeIs (Ac ?_))|refine Aa (Hl y.typeIs (Ac ?_))
 refine Aa (Rr y.typeIs ?_)
 show wpAny _ _ (setField (.ref it) 1 (rawInt ((i:Int)+1))>>=_) _ _ s
 refine Aa (Fj ho hd (by simp) ?_)
 have y':(s.heap.update it (Iu (·.setIfInBounds 1 (rawInt ((i:Int)+1))))).IsKeyIter it d (i+1) es.size ep:=
  ⟨_,Bj _ ho (Gf (Di hd _)),(Ia ..).trans hc,by rw[Di hd];simp[rawInt]⟩
 refine Aa (Bs (Aa (Rr (s:={s with heap:=s.heap.update it (Iu (·.setIfInBounds 1 (rawInt ((i:Int)+1))))}) y'.typeIs ?_)))
 show wpAny _ _ (pure es[i].key) _ _ _
 exact Ac (Ac ⟨_,rfl,Ac (q _ y' (Bg ..))⟩)
def aPv{Q:#v[14]->Shared->Prop}(hh:A.handled=none)(y:s.heap.IsKeyIter it d es.size es.size ep)(x:rR s.heap d es ep)(q:∀g,Nh it s.heap g->Q none {s with heap:=g}):#v[4] (pyNext (.ref it)) Q E s:=by
 obtain⟨o,ho,hc,hd⟩:=id y
 obtain⟨od,h1,_,h2⟩:=x
 have own:Ea "dict_keyiterator"=false:=by decide
 unfold pyNext
 refine Aa (Hx (Ci (name:=Ej "__next__") y.typeIs Gd (Bm Gd y.typeIs Nz ?_ (Ni _))))
 refine Aa (Ac (Aa (Aa ?_)))
 first|refine Aa (Gb y.typeIs (Ac ?_))|refine Aa (Hl y.typeIs (Ac ?_))
 refine Aa (Kb ho hd ?_)
 simp only[own,Cf,if_false]
 show wpAny _ _ (if(Aj d==Bq)=true then _ else _) _ _ s
 rw[if_neg (show¬((Aj d==Bq)=true)from Ao)]
 refine Aa (Ac (Aa (Cy h1 h2 ?_)))
 rw[if_neg (by simp)]
 refine Aa (Ac (Aa (Gp h1 h2 ?_)))
 rw[if_neg (by simp)]
 refine Ac ?_
 simp only[show¬((es.size:Int)<0)from by lia,if_false,Dr,Ke (Ak _)]
 refine Aa ?_
 first|refine Aa (Gb y.typeIs (Ac ?_))|refine Aa (Hl y.typeIs (Ac ?_))
 show wpAny _ _ (setField (.ref it) 0 .none>>=_) _ _ s
 refine Aa (Fj ho hd (by simp) ?_)
 show wpAny _ _ (newExc (.type "StopIteration") []>>=_) _ _ _
 simp only[newExc,newTuple]
 refine Aa (Aa (Bh ?_ (by size_fits)))
 refine Aa (m:=firstArgMember _ _) (Ku (a:=Bq) (by first|rfl|(simp only[firstArgMember];rfl)) ?_)
 refine Bh ?_ (by size_fits)
 simp only[raiseNew]
 refine Aa (Mr ?_)
 rw[show A.in1.handled=none from hh]
 refine Aa (Ac (Pa ?_))
 refine Aa (Ec (T:="StopIteration") (b:=true) ⟨_,Al _ rfl,rfl⟩ Md ?_)
 exact Ac (q _ (((Bg ..).extBut.push _).push _))
def aJ1(hh:A.handled=none)(I d:Addr)(ne:d≠I)(es:Array DictEntry)(ep:Nat):Walks prog w A I [I,d] [I] es.size (λi v=>∃e,es[i]? =some e/\v=e.key) (λi h=>h.IsKeyIter I d i es.size ep/\rR h d es ep) where
 sub:=λb hb=>by simp at hb;simp[hb]
 frame:=λ_ _ _ st hk=>⟨st.1.at λo e=>hk I (by simp) o e,st.2.at_ λo e=>hk d (by simp) o e⟩
 item:=λi s Q E hi st hQ=>aNc st.1 st.2 hi λg y' sb=>hQ _ g s.toks ⟨_,Aw hi,rfl⟩ ⟨y',st.2.at_ λo e=>sb.extBut d o ne e⟩ λb o hb e=>sb.extBut b o (λh=>hb (by simp[h])) e
 done:=λs Q E st hQ=>aPv hh st.1 st.2 λg he=>hQ g s.toks λb o hb e=>he b o (λh=>hb (by simp[h])) e
 self:=λ_ _ _ _ st hQ=>wpAny_pyIter_keyiter st.1 hQ
def aQs(lo:(d==sysModules)=false):Mw prog w "dict" d d es.size (λi v=>∃e,es[i]? =some e/\v=e.key) (λh=>rR h d es ep) where
 type:=λ_ hm=>hm.ty
 there:=λ_ hm=>⟨hm.lt,hm.lt⟩
 keep:=λ_ _ hm hk=>hm.at_ λo e=>hk d (.inl rfl) o e
 notList:=by decide
 notTuple:=by decide
 hint:=λ_ _ _ _ hm hq=>PySem.W.kdl_hint_dict hm.ty hq
 iter:=λ_ _ hh hm=>⟨_,_,(λ_ _ hq=>aM8 lo hm hq),aJ1 hh _ d (Ar hm.lt) es ep,⟨⟨_,Al _ rfl,rfl,rfl⟩,hm.at_ λ_ e=>Ad _ e⟩⟩
variable {d it r:Addr}
def aKp(hv:s.heap.IsValuesView r d)(x:rR s.heap d es ep)
  (q:Q (.ref #v[0]) {s with heap:=s.heap.push {cls:=.type "dict_valueiterator",data:=.fields #[.ref d,.int 0 0,.int es.size 0,.int ep 0]}}):#v[4] (pyIter (.ref r)) Q E s:=by
 obtain⟨o,ho,c,dd⟩:=id x;obtain⟨ov,h1,h2,h3⟩:=id hv;refine Ki hv.typeIs Qk (Bm Qk hv.typeIs F.entry_dict_values_iter ?_ (F.args_dict_values_iter_1 _));unfold Builtin.«dict_values.__iter__»;refine Aa (Ac (Aa ?_));unfold Rp;refine Aa (Dx h1 h3 (x:=.ref d) rfl (Ac (Aa ?_)));unfold Ro;refine Aa (Cy ho dd (Aa (Gp ho dd ?_)));simp only[show Ea "dict_valueiterator"=false by decide,Cf,if_false];refine Bh (Ac ⟨_,rfl,"dict_valueiterator",_,⟨_,Al _ rfl,rfl⟩,F.slot_dict_valueiterator_next.lookup,?_⟩);simpa[rawInt]using q
def aJc{Q:#v[14]->Shared->Prop}(y:s.heap.IsValIter it d i es.size ep)(x:rR s.heap d es ep)(hi:i<es.size)
  (q:∀g,g.IsValIter it d (i+1) es.size ep->Cw it s.heap g->Q (some es[i].val) {s with heap:=g}):#v[4] (pyNext (.ref it)) Q E s:=by
 obtain⟨o,ho,hc,hd⟩:=id y
 obtain⟨od,h1,_,h2⟩:=x
 have own:Ea "dict_valueiterator"=false:=by decide
 unfold pyNext
 refine Aa (Hx (Ci (name:=Ej "__next__") y.typeIs Ft (Bm Ft y.typeIs My ?_ (Mp _))))
 refine Aa (Ac (Aa (Aa ?_)))
 first|refine Aa (Ga y.typeIs (Ac ?_))|refine Aa (Hk y.typeIs (Ac ?_))
 refine Aa (Kb ho hd ?_)
 simp only[own,Cf,if_false]
 show wpAny _ _ (if(Aj d==Bq)=true then _ else _) _ _ s
 rw[if_neg (show¬((Aj d==Bq)=true)from Ao)]
 refine Aa (Ac (Aa (Cy h1 h2 ?_)))
 rw[if_neg (by simp)]
 refine Aa (Ac (Aa (Gp h1 h2 ?_)))
 rw[if_neg (by simp)]
 refine Ac ?_
 simp only[show¬((i:Int)<0)from by lia,if_false,Dr,Aw hi]
 refine Aa ?_
 first|refine Aa (Ga y.typeIs (Ac ?_))|refine Aa (Hk y.typeIs (Ac ?_))
 refine Aa (Lk y.typeIs ?_)
 show wpAny _ _ (setField (.ref it) 1 (rawInt ((i:Int)+1))>>=_) _ _ s
 refine Aa (Fj ho hd (by simp) ?_)
 have y':(s.heap.update it (Iu (·.setIfInBounds 1 (rawInt ((i:Int)+1))))).IsValIter it d (i+1) es.size ep:=
  ⟨_,Bj _ ho (Gf (Di hd _)),(Ia ..).trans hc,by rw[Di hd];simp[rawInt]⟩
 refine Aa (Bs (Aa (Lk (s:={s with heap:=s.heap.update it (Iu (·.setIfInBounds 1 (rawInt ((i:Int)+1))))}) y'.typeIs ?_)))
 rw[if_neg #v[1]]
 refine Aa (Lk (s:={s with heap:=s.heap.update it (Iu (·.setIfInBounds 1 (rawInt ((i:Int)+1))))}) y'.typeIs ?_)
 show wpAny _ _ (pure es[i].val) _ _ _
 exact Ac (Ac ⟨_,rfl,Ac (q _ y' (Bg ..))⟩)
def aLy{Q:#v[14]->Shared->Prop}(hh:A.handled=none)(y:s.heap.IsValIter it d es.size es.size ep)(x:rR s.heap d es ep)(q:∀g,Nh it s.heap g->Q none {s with heap:=g}):#v[4] (pyNext (.ref it)) Q E s:=by
 obtain⟨o,ho,hc,hd⟩:=id y
 obtain⟨od,h1,_,h2⟩:=x
 have own:Ea "dict_valueiterator"=false:=by decide
 unfold pyNext
 refine Aa (Hx (Ci (name:=Ej "__next__") y.typeIs Ft (Bm Ft y.typeIs My ?_ (Mp _))))
 refine Aa (Ac (Aa (Aa ?_)))
 first|refine Aa (Ga y.typeIs (Ac ?_))|refine Aa (Hk y.typeIs (Ac ?_))
 refine Aa (Kb ho hd ?_)
 simp only[own,Cf,if_false]
 show wpAny _ _ (if(Aj d==Bq)=true then _ else _) _ _ s
 rw[if_neg (show¬((Aj d==Bq)=true)from Ao)]
 refine Aa (Ac (Aa (Cy h1 h2 ?_)))
 rw[if_neg (by simp)]
 refine Aa (Ac (Aa (Gp h1 h2 ?_)))
 rw[if_neg (by simp)]
 refine Ac ?_
 simp only[show¬((es.size:Int)<0)from by lia,if_false,Dr,Ke (Ak _)]
 refine Aa ?_
 first|refine Aa (Ga y.typeIs (Ac ?_))|refine Aa (Hk y.typeIs (Ac ?_))
 show wpAny _ _ (setField (.ref it) 0 .none>>=_) _ _ s
 refine Aa (Fj ho hd (by simp) ?_)
 show wpAny _ _ (newExc (.type "StopIteration") []>>=_) _ _ _
 simp only[newExc,newTuple]
 refine Aa (Aa (Bh ?_ (by size_fits)))
 refine Aa (m:=firstArgMember _ _) (Ku (a:=Bq) (by first|rfl|(simp only[firstArgMember];rfl)) ?_)
 refine Bh ?_ (by size_fits)
 simp only[raiseNew]
 refine Aa (Mr ?_)
 rw[show A.in1.handled=none from hh]
 refine Aa (Ac (Pa ?_))
 refine Aa (Ec (T:="StopIteration") (b:=true) ⟨_,Al _ rfl,rfl⟩ Md ?_)
 exact Ac (q _ (((Bg ..).extBut.push _).push _))
def aH9(hh:A.handled=none)(I d:Addr)(ne:d≠I)(es:Array DictEntry)(ep:Nat):Walks prog w A I [I,d] [I] es.size (λi v=>∃e,es[i]? =some e/\v=e.val) (λi h=>h.IsValIter I d i es.size ep/\rR h d es ep) where
 sub:=λb hb=>by simp at hb;simp[hb]
 frame:=λ_ _ _ st hk=>⟨st.1.at λo e=>hk I (by simp) o e,st.2.at_ λo e=>hk d (by simp) o e⟩
 item:=λi s Q E hi st hQ=>aJc st.1 st.2 hi λg y' sb=>hQ _ g s.toks ⟨_,Aw hi,rfl⟩ ⟨y',st.2.at_ λo e=>sb.extBut d o ne e⟩ λb o hb e=>sb.extBut b o (λh=>hb (by simp[h])) e
 done:=λs Q E st hQ=>aLy hh st.1 st.2 λg he=>hQ g s.toks λb o hb e=>he b o (λh=>hb (by simp[h])) e
 self:=λ_ _ _ _ st hQ=>wpAny_pyIter_valiter st.1 hQ
def aMx:Mw prog w "dict_values" r d es.size (λi v=>∃e,es[i]? =some e/\v=e.val) (λh=>h.IsValuesView r d/\rR h d es ep) where
 type:=λ_ hm=>hm.1.typeIs
 there:=λ_ hm=>⟨let⟨_,ho,_⟩:=hm.1;Ap ho,hm.2.lt⟩
 keep:=λ_ _ hm hk=>⟨let⟨o,ho,x⟩:=hm.1;⟨o,hk r (.inl rfl) o ho,x⟩,hm.2.at_ λo e=>hk d (.inr rfl) o e⟩
 notList:=by decide
 notTuple:=by decide
 hint:=λ_ _ _ _ hm hq=>PySem.W.kdl_hint_values hm.1.typeIs hq
 iter:=λ_ _ hh hm=>⟨_,_,(λ_ _ hq=>aKp hm.1 hm.2 hq),aH9 hh _ d (Ar hm.2.lt) es ep,⟨⟨_,Al _ rfl,rfl,rfl⟩,hm.2.at_ λ_ e=>Ad _ e⟩⟩
def uU{prog:Program}{w:World}{A:Around}{E:#v[7]}{s:Shared}{a:Addr}{o:Obj}{xs:Array Value}{k:Nat}{name:Str}{Q:#v[14]->Shared->Prop}
  (hx:s.heap.get? a=some o) (hc:o.cls=.type "list") (hdat:o.data=.seq xs k) (hd:o.dict=none) (hmiss:typeLookup (.type "list") name=pure none) (hname:(["__module__","__name__","__qualname__","__doc__","__annotations__"]:List Str).contains name=false) (hA:A.handled=none)
  (h:∀h' tk e,Heap.NewExcOf s.heap h' e "AttributeError"->Q none {s with heap:=h',toks:=tk}) (hsz:name.length+100<=sizeLine:=by size_fits):
  #v[4] (getAttr? (.ref a) name) Q E s:=by
 obtain⟨c,dct,dat,sl⟩:=o;simp only at hc hdat hd;subst hc hdat hd;obtain⟨hp,g,d,tk,os⟩:=s;have hT:∀tk',(⟨hp,g,d,tk',os⟩:Shared).TypeIs (.ref a) "list":=λ_=>⟨_,hx,rfl⟩;have f1:=sub_AttributeError;have f3:=F.slot_list_getattribute.lookup;have f4:=F.slot_list_getattribute.bind (.ref a);have f5:=am_list_getattr_none;unfold getAttr? getAttrBy? getAttrBy
 repeat (any_goals (first|assumption|exact hT _|((with_reducible show wpAny _ _ (call (Ti "list.__getattribute__") _ _) _ _ _);refine Uz F.slot_list_getattribute (hT _) am_entry_list_getattribute (F.args_list_getattribute_2 _ _) (meets_getattribute_miss_list a xs k sl name _ hmiss hname hsz) ⟨hx,hA,λh' tk' e hx'=>?_⟩)|wp_step))
 obtain⟨t',u',he⟩:=hx'.there;show wpAny _ _ (getattributeRaised _ _ _ _ _ _ _) _ _ _;unfold getattributeRaised
 repeat (any_goals (first|assumption|wp_step))
 exact h _ _ _ hx'.of
namespace F
def iJ:entryFor table "dict.update.loop"=some Builtin.«dict.update.loop»:=Vs (by kernel_rfl)
def cY:plainId "dict.update.loop"=true:=by decide+kernel
def aBg:typeLookup (.type "list") "keys"=pure none:=by rw[Pc,Lq];kernel_rfl
end F
section
variable {prog:Program}{w:World}{K:Type} [DecidableEq K]{knd:HeapKind prog w K}
def aGd(xs:List (K×Addr×Value))(k:K)(a:Addr)(v:Value):(storedH xs k a v).length<=xs.length+1:=by
 unfold storedH;split
 ·rw[Ab];lia
 ·rw[An];exact Ak _
def aE5{xs:List (K×Addr×Value)}{k:K}{a:Addr}{v:Value}{x:K×Addr×Value}(h:x∈storedH xs k a v):(∃y∈xs,x.1=y.1/\x.2.1=y.2.1)∨(x.1=k/\x.2.1=a):=by
 unfold storedH at h;split at h
 ·obtain⟨y,hy,rfl⟩:=List.mem_map.mp h;refine .inl ⟨y,hy,?_⟩;unfold putAt;split<;>exact⟨rfl,rfl⟩
 ·rcases List.mem_append.mp h with h|h
  ·exact .inl ⟨x,h,rfl,rfl⟩
  ·simp only[Fy]at h;subst h;exact .inr ⟨rfl,rfl⟩
def pA(L:List (K×Addr×Value)):List (K×Addr×Value):=L.foldl (λxs x=>storedH xs x.1 x.2.1 x.2.2) []
def qO(L:List (K×Addr×Value))(x:K×Addr×Value):pA (L++[x])=storedH (pA L) x.1 x.2.1 x.2.2:=by unfold pA;rw[List.foldl_append];rfl
theorem aCr:∀(n:Nat)(L:List (K×Addr×Value)),L.length=n->(pA L).length<=n
 |0,L,h=>by rw[List.length_eq_zero_iff.mp h];exact Ak _
 |n+1,L,h=>by
  obtain⟨M,x,rfl⟩:∃M x,L=M++[x]:=⟨L.dropLast,L.getLast (by intro z;rw[z]at h;cases h),(Ip _).symm⟩;rw[An,Cq]at h;rw[qO];have:=aCr n M ∅;have:=aGd (pA M) x.1 x.2.1 x.2.2
  lia
theorem aEq{h:Heap}:∀(n:Nat)(L:List (K×Addr×Value)),L.length=n->(∀x∈L,knd.is h x.1 x.2.1)->∀x∈pA L,knd.is h x.1 x.2.1
 |0,L,e,_,x,hx=>by rw[List.length_eq_zero_iff.mp e]at hx;exact nomatch hx
 |n+1,L,e,hL,x,hx=>by
  obtain⟨M,y,rfl⟩:∃M x,L=M++[x]:=⟨L.dropLast,L.getLast (by intro z;rw[z]at e;cases e),(Ip _).symm⟩;rw[An,Cq]at e;rw[qO]at hx;rcases aE5 hx with ⟨z,hz,e1,e2⟩|⟨e1,e2⟩
  ·rw[e1,e2];exact aEq n M ∅ (λu hu=>hL u (Il _ hu)) z hz
  ·rw[e1,e2];exact hL y (Bc _ (List.mem_singleton.mpr rfl))
def Heap.DObj(h:Heap)(knd:HeapKind prog w K)(d:Addr)(xs:List (K×Addr×Value)):Prop:=∃o es ep,h.get? d=some o/\o.ExactDict/\o.data=.dict es ep/\es.toList=xs.map (entryOfKey knd)/\(xs.map (·.1)).Nodup
def Heap.TwoAt(h:Heap)(p:Addr)(x y:Value):Prop:=∃o n,h.get? p=some o/\o.cls=.type "tuple"/\o.data=.seq #[x,y] n
variable {A:Around}{R:Result->Shared->Prop}{I:Addr}{fp wr:List Addr}{G:Array GenState->Array GenState->Prop}{n:Nat}{P:Nat->Value->Prop}{St:Nat->Shared->Prop}
def nF(W:WalksS prog w A.in1 I fp wr G n P St)(d:Addr)(hSf:d∉fp){h₀:Heap}(hd₀:h₀.get? d=none)(hw₀:∀b∈wr,h₀.get? b=none)(hro:knd.room A.in1)
  (mono:∀h' x a,knd.is h₀ x a->(∀b o,h₀.get? b=some o->h'.get? b=some o)->knd.is h' x a)
  (L:List (K×Addr×Value)) (hL:L.length=n) (hn:n<=sizeLine) (hk:∀x∈L,knd.is h₀ x.1 x.2.1) (hv:∀i v,P i v->∃x p,L[i]? =some x/\v=.ref p/\h₀.TwoAt p (.ref x.2.1) x.2.2):
  ∀(k i:Nat)(s:Shared)(ti:Tok),n-i=k->i<=n->St i s->(∀b o,h₀.get? b=some o->s.heap.get? b=some o)->s.heap.DObj knd d (pA (L.take i))->
   (∀s',Moved (d::wr) G s s'->s'.heap.DObj knd d (pA L)->R (.ok (.ret .none)) s')->
   codeAny (model prog w) A (.builtin "dict.update.loop" ⟨[.ref d,.ref I,.int (i:Int) ti,.none],[]⟩) R s:=by
 have hdw:d∉wr:=λh=>hSf (W.sub _ h);have hsub:∀b∈wr,b∈d::wr:=λb hb=>Af _ hb;intro k;induction k with
 |zero=>
  intro i s ti hki hi hst hold hS hR;have hin:i=n:=by lia
  subst hin;refine Ca F.iJ ?_;rw[Bi F.cY _];show wpAny _ A.in1 (pyNext (.ref I)>>=_) _ _ s;refine Aa (W.done s _ _ hst λs' hm=>?_);show wpAny _ A.in1 (Wx d []>>=λ_=>ret Bq) _ _ s';refine Aa (Ac (Ac (hR s' (hm.mono hsub) ?_)));obtain⟨o,es,ep,ho,rest⟩:=hS;rw[Fu (Qf hL)]at rest;exact⟨o,es,ep,hm.heap d _ hdw ho,rest⟩
 |succ k ih=>
  intro i s ti hki hi hst hold hS hR;have hlt:i<n:=by lia
  refine Ca F.iJ ?_;rw[Bi F.cY _];show wpAny _ A.in1 (pyNext (.ref I)>>=_) _ _ s;refine Aa (W.item i s _ _ hlt hst λv s' hP hst' hm=>?_);obtain⟨x,p,hx,rfl,ot,m,hot,hct,hdt⟩:=hv i v hP;have hold':∀b o,h₀.get? b=some o->s'.heap.get? b=some o:=λb o e=>hm.heap b o (λz=>by rw[hw₀ b z]at e;cases e) (hold b o e);have hot':=hold' _ _ hot;have hT:s'.TypeIs (.ref p) "tuple":=⟨ot,hot',hct⟩;have mx:x∈L:=Ay hx;show wpAny _ A.in1 (holding [Aj p] _>>=_) _ _ s';refine Aa (Bs ?_);refine Aa (Mb ?_);unfold Wr;refine Aa (Hj hT ?_);rw[if_pos ⋯];refine Aa (Cr hot' hdt (Ac ?_));show wpAny _ A.in1 (holding [Aj x.2.1,x.2.2] (dictSet d (.ref x.2.1) x.2.2)) _ _ s';refine Bs ?_;have hi':(L.take i).length=i:=by rw[Bp];lia
  have hS':s'.heap.DictOfH knd d (pA (L.take i)):=by
   obtain⟨o,es,ep,ho,h1,h2,h3,h4⟩:=hS;refine⟨o,es,ep,hm.heap d _ hdw ho,h1,h2,h3,λy hy=>mono _ _ _ ?_ hold',h4⟩;exact aEq i (L.take i) hi' (λu hu=>hk u (Cv hu)) y hy
  have ls:=aCr i (L.take i) hi';refine wpAny_dictSet_heap (hsz:=by lia) hro (mono _ _ _ (hk x mx) hold') hS' λh' hd' hsb=>?_;have et:pA (L.take (i+1))=storedH (pA (L.take i)) x.1 x.2.1 x.2.2:=by
   rw[Tq,hx];exact qO _ _
  have nd:∀b o,h₀.get? b=some o->b≠d:=λb o e z=>by rw[z,hd₀]at e;cases e
  refine Ac ⟨Da F.cY _,ih (i+1) _ _ ∅ hlt (W.frame _ s' _ _ hst' (Df _ _) λb hb o e=>?_) (λb o e=>(hsb.2 b (nd b o e)).trans (hold' b o e)) ?_ λs'' hm'' hS''=>?_⟩
  ·rw[hsb.2 b (λh:b=d=>hSf (by rw[<-h];exact hb))];exact e
  ·rw[et];obtain⟨o,es,ep,h1,h2,h3,h4,_,h5⟩:=hd';exact⟨o,es,ep,h1,h2,h3,h4,h5⟩
  ·refine hR s'' (Mx W.gtrans ((hm.mono hsub).then_heap (Df _ _) λb o hb e=>?_) hm'') hS'';rw[hsb.2 b (λh:b=d=>hb (by rw[h];exact Ah))];exact e
end
section
variable {prog:Program}{w:World}{K:Type} [DecidableEq K]{knd:HeapKind prog w K}{A:Around}{E:#v[7]}{s:Shared}
def yX{k:Nat}(hh:A.handled=none)(hl:s.heap.get? l=some {cls:=.type "list",data:=.seq items k})(hro:knd.room A.in1.in1)
  (mono:∀h' x a,knd.is s.heap x a->(∀b o,s.heap.get? b=some o->h'.get? b=some o)->knd.is h' x a)
  (L:List (K×Addr×Value)) (hL:L.length=items.size) (hn:items.size<=sizeLine) (hk:∀x∈L,knd.is s.heap x.1 x.2.1) (hv:∀(i:Nat)(v:Value),items[i]? =some v->∃x p,L[i]? =some x/\v=.ref p/\s.heap.TwoAt p (.ref x.2.1) x.2.2)
  (h:∀h' tk,h'.DObj knd #v[0] (pA L)->(∀b o,s.heap.get? b=some o->h'.get? b=some o)->Q (.ref #v[0]) {s with heap:=h',toks:=tk}):
  #v[4] (call (.type "dict") [.ref l]) Q E s:=by
 refine callType_codes (Q₁:=λobj s₁=>obj=.ref #v[0]/\s₁={s with heap:=s.heap.push #v[8]}) Uo (Rn _) Tu (Vq _ ⟨rfl,rfl⟩) ?_;rintro obj s₁ ⟨rfl,rfl⟩;have hnew:(s.heap.push #v[8]).DictOfH knd #v[0] []:=Ot s.heap;have hl':(s.heap.push #v[8]).get? l=some {cls:=.type "list",data:=.seq items k}:=Ad _ hl;have hT:Js {s with heap:=s.heap.push #v[8]} (.ref l) "list":=⟨_,hl',rfl⟩;refine⟨hnew.typeIs,Sx _ _,?_⟩;unfold Builtin.«dict.__init__»;refine Aa ?_;unfold Ma;refine Aa (Gn hnew.typeIs ?_);show wpAny _ _ (pure (#v[0],[Aj l])) _ _ _;refine Ac ?_;show wpAny _ _ (Gk "dict.__init__" #v[0] (.ref l) [] .none) _ _ _;unfold Gk;refine Aa (Hj hT ?_);rw[if_pos ⋯];refine Aa (uU hl' rfl rfl rfl F.aBg ⋯ hh λh1 tk e hx=>?_);have k1:∀b o,(s.heap.push #v[8]).get? b=some o->h1.get? b=some o:=hx.keeps;simp only[Option.isNone_none,if_true];refine Aa (Hm ?_);have hl1:h1.IsList l items:=⟨_,k1 _ _ hl',rfl,k,rfl⟩;refine Aa (Gu hl1 ?_);have hld:l<#v[0]:=Ap hl;have hd1:h1.get? #v[0]=some #v[8]:=k1 _ _ (Al _ rfl);have hds:#v[0]<h1.objs.size:=Ap hd1;have hls:l<h1.objs.size:=Jj hld hds;refine Aa (Ac (Ac ⟨Da F.cY _,?_⟩));have hh3:A.in1.in1.handled=none:=by simp[hh]
 have hneI:l≠h1.objs.size:=Ar hls;have hSf:#v[0]∉[h1.objs.size,l]:=by
  simp only[Ck,Bt,or_false,not_or];exact⟨Ar hds,Ey hld⟩
 refine nF (knd:=knd) (h₀:=s.heap) ((Ly hh3 _ l hneI items).toS) #v[0] hSf (La (Ak _)) (λb hb=>?_) hro mono L hL hn hk hv (items.size-0) 0 _ _ rfl (Bd _)
  ⟨⟨_,Al _ rfl,rfl,rfl⟩,(hl1.push _)⟩ (λb o e=>Ad _ (k1 _ _ (Ad _ e))) ?_ λs' hm hS'=>?_
 ·rw[List.mem_singleton.mp hb];exact La (Ez hds)
 ·exact⟨_, #[],0,Ad _ hd1,⟨rfl,rfl,rfl⟩,rfl,rfl,Ib⟩
 ·obtain⟨h',g',d',tk',os'⟩:=s';have eg:g'=s.gens:=hm.gens;have ed:d'=s.drawn:=hm.drawn;have eo:os'=s.os:=hm.os;subst eg;subst ed;subst eo;refine⟨rfl,h h' tk' hS' λb o e=>?_⟩;have hb:b<#v[0]:=Ap e;exact hm.heap b o (by simp only[Ck,Bt,or_false,not_or];exact⟨Ar hb,Ar (Jj hb hds)⟩) (Ad _ (k1 _ _ (Ad _ e)))
end
def aV5(x:Int×List Int):Int:=reduceHash (Cp [hashInt x.1,reduceHash (Cp (x.2.map hashInt))])
end PySem
namespace L2
variable {pos:Pos}{scope:Scope}{a:Expr}{cl:List (Str×Addr)}{k:Nat}{i:Nat}{elt iter tg:Expr}{g:TG}{p:Addr}{te:TE}{wi:TI}{v:V}{E:#v[7]}{ps:List Str}{xs:List V}{P:Program}{tc:TT}{RR:Value->Addr->Result->Shared->Prop}{w:World}{cis:List Expr}{fp:List Addr}{icap:#v[12]}{cs:List (Str×Addr)}{rest:List Expr}{R:List Value->Shared->Prop}{C:Addr}{r:List V->Hp->VK->Prop}{y:V}{vs:List V}{tn:Nat->Heap->Prop}{Q:VK}{pos':Pos}{Nc:List Str}{t:TE}{S T:Addr->Prop}{f:Int->Int->V}{Cs:Addr->Prop}{body:List Stmt}
open PySem PySem.Spec PyProof.Rows
theorem fZ{env:Env}(hk:env.scope.kind=.function):∀{names:List (Str×NameKind)}{x:Str},names.lookup x=some .free->env.kindOf x=some .cell->
  (names.map λ(n,k)=>if(k==Dd && env.scope.kind== .function && env.kindOf n==some .cell)then(n,Dj)else(n,k)).lookup x=some .cell
 | [],_,h,_=>by simp at h
 |(n,k)::r,x,h,hc=>by
  have ih:=@fZ env hk r x;show Fm x ((if(k==Dd && env.scope.kind== .function && env.kindOf n==some .cell)=true then(n,Dj)else(n,k))::_)=_;cases hx:x==n with
  |true=>
   have e:x=n:=eq_of_beq hx;subst e;simp only[Be,hx]at h;cases h;rw[if_pos (by rw[hk,hc];rfl)];simp[Be]
  |false=>
   simp only[Be,hx]at h;by_cases hcc:(k==Dd && env.scope.kind== .function && env.kindOf n==some .cell)=true
   ·rw[if_pos hcc];simp only[Be,hx];exact ih h hc
   ·rw[if_neg hcc];simp only[Be,hx];exact ih h hc
theorem mW{env:Env}:∀{names:List (Str×NameKind)}{x:Str},((names.map λ(n,k)=>if(k==Dd && env.scope.kind== .function && env.kindOf n==some .cell)then(n,Dj)else(n,k)).lookup x=some .cell∨
  (names.map λ(n,k)=>if(k==Dd && env.scope.kind== .function && env.kindOf n==some .cell)then(n,Dj)else(n,k)).lookup x=some .free)->names.lookup x=some .free∨names.lookup x=some .cell
 | [],_,h=>by simp at h
 |(n,k)::r,x,h=>by
  have ih:=@mW env r x
  replace h:Fm x ((if(k==Dd && env.scope.kind== .function && env.kindOf n==some .cell)=true then(n,Dj)else(n,k))::_)=_∨Fm x ((if(k==Dd && env.scope.kind== .function && env.kindOf n==some .cell)=true then(n,Dj)else(n,k))::_)=_:=h
  cases hx:x==n with
  |true=>
   simp only[Be,hx];by_cases hcc:(k==Dd && env.scope.kind== .function && env.kindOf n==some .cell)=true
   ·have:k=.free:=by
     have:=(Ij _ _▸(Ij _ _▸hcc).1).1;exact eq_of_beq this
    exact .inl (by rw[this])
   ·rw[if_neg hcc]at h;simp only[Be,hx]at h;rcases h with h|h
    ·exact .inr h
    ·exact .inl h
  |false=>
   simp only[Be,hx];by_cases hcc:(k==Dd && env.scope.kind== .function && env.kindOf n==some .cell)=true
   ·rw[if_pos hcc]at h;simp only[Be,hx]at h;exact ih h
   ·rw[if_neg hcc]at h;simp only[Be,hx]at h;exact ih h
def dF{a b c:Nat}(h1:a<b)(h2:b<=c):a≠c:=Ar (Bb h1 h2)
abbrev aY(X:Cx)(Nc:List Str)(scope:Scope)(cl:List (Str×Addr))(C:Addr)(s2:Shared)(H2:Hp)(fp:List Addr):Cx:=
 {prog:=X.prog,w:=X.w,K:=X.K,mg:=X.mg,base:=X.base,A:=X.A,N:=Nc,s₀:=s2,H₀:=H2,env:=compEnvC scope cl C X.env,outer:=X.stack,stack:=X.stack,ex:=fp,fn:=λ_=>false,calm:=X.calm,pn:=[],xe:=λ_ _=>False}
abbrev bV(own:List Str)(cap:#v[12]):List Str:=own++cap.map (·.1)
def nY(no:Nat)(cap:#v[12])(σ:St):St:=Jk no none++cap.map λp=>(σ[p.2]?).join
structure cR(X:Cx)(scope:Scope)(cap:#v[12])(cl:List (Str×Addr)):Prop where
 clos:closureFor scope X.env=pure cl
 kind:scope.kind=.function
 nocell:∀y∈scope.names,y.2≠.cell
 names:∀y∈scope.names,y.2=.local->scope.names.lookup y.1=some .local
 sub:∀x c,cl.lookup x=some c->X.env.cells.lookup x=some c
 has:∀x,scope.names.lookup x=some .free->∃c,cl.lookup x=some c
 cap:∀p∈cap,X.N[p.2]? =some p.1/\scope.names.lookup p.1=some .free/\X.env.scope.names.lookup p.1=some .cell
def aX4(J:It)(D:Addr)(g:TG)(te:TE)(Q:VK)(σ:St)(H:Hp):Prop:=∃W:Nat->Nat->St->Hp->Prop,
 (∃m,W 0 m σ H)/\∀i m σc H2,W i m σc H2->
  (J.stop i H2/\Q (.ref D) H2)∨(J.go i H2/\∀x H3,J.yld i H2 x H3->g x σc H3 λσ4 H4=>te σ4 H4 λy H5=>∃ys,H5 D=some (.lst ys)/\ys.length<sizeLine/\∃m',m'<m/\W (i+1) m' σ4 (upd H5 D (.lst (ys++[y]))))
def aBi(no:Nat)(cap:#v[12])(wi:TI)(g:TG)(te:TE):TE:=λσ H Q=>wi σ H λJ H1=>∀D,H1 D=none->aX4 J D g te Q (nY no cap σ) (upd H1 D (.lst []))
variable {X:Cx}{pins:#v[9]}{σ:St}{s2:Shared}{H2:Hp}
def aUv(J:It)(D:Addr)(g:TG)(tc:TT)(te:TE)(Q:VK)(σ:St)(H:Hp):Prop:=∃W:Nat->Nat->St->Hp->Prop,
 (∃m,W 0 m σ H)/\∀i m σc H2,W i m σc H2->
  (J.stop i H2/\Q (.ref D) H2)∨(J.go i H2/\∀x H3,J.yld i H2 x H3->g x σc H3 λσ4 H4=>tc σ4 H4 λok H4'=>if ok=true then te σ4 H4' λy H5=>∃ys,H5 D=some (.lst ys)/\ys.length<sizeLine/\∃m',m'<m/\W (i+1) m' σ4 (upd H5 D (.lst (ys++[y])))else∃m',m'<m/\W (i+1) m' σ4 H4')
def rA(no:Nat)(cap:#v[12])(wi:TI)(g:TG)(tc:TT)(te:TE):TE:=λσ H Q=>wi σ H λJ H1=>∀D,H1 D=none->aUv J D g tc te Q (nY no cap σ) (upd H1 D (.lst []))
def aK1{no:Nat}{cap:#v[12]}{own:List Str}(hno:own.length=no){x:Str}(h1:(bV own cap)[i]? =some x)(h2:(nY no cap σ)[i]? =some (some v)):
  ∃p∈cap,p.1=x/\σ[p.2]? =some (some v):=by
 subst hno;unfold nY at h2;by_cases hi:i<own.length
 ·rw[Ef (by simpa using hi),Eo]at h2;rw[if_pos hi]at h2;cases h2
 ·rw[Dz (by simpa using hi)]at h2;unfold bV at h1;rw[Dz (by simpa using hi)]at h1;rw[Ex,As]at h2;rw[As]at h1;cases e:cap[i-own.length]? with
  |none=>rw[e]at h1;cases h1
  |some p=>
   rw[e]at h1 h2;refine⟨p,Ay e,Bl h1,?_⟩;have q:(σ[p.2]?).join=some v:=Bl h2;cases e2:σ[p.2]? with
   |none=>rw[e2]at q;cases q
   |some o=>rw[e2]at q;exact congrArg some q
def aBe(scope:Scope):Prop:=∀y∈scope.names,y.2≠.cell
theorem rB:∀{names:List (Str×NameKind)}{n:Nat},(∀y∈names,y.2≠.cell)->cellsFrom n names []=[]
 | [],_,_=>rfl
 |(y,k)::r,n,h=>by
  unfold cellsFrom;rw[if_neg (λz=>h _ Ah (eq_of_beq z))];exact rB λz hz=>h z (Af _ hz)
def aAq{n:Nat}(h:aBe scope):cellsFrom n scope.names []=[]:=rB h
structure mJ(X:Cx)(scope:Scope)(cap:#v[12])(cl:List (Str×Addr)):Prop where
 clos:closureFor scope X.env=pure cl
 kind:scope.kind=.function
 names:∀y∈scope.names,y.2=.local->scope.names.lookup y.1=some .local
 sub:∀x c,cl.lookup x=some c->X.env.cells.lookup x=some c
 has:∀x,scope.names.lookup x=some .free->∃c,cl.lookup x=some c
 capn:∀p∈cap,¬(p.1,Dj)∈scope.names
 cap:∀p∈cap,X.N[p.2]? =some p.1/\scope.names.lookup p.1=some .free/\X.env.scope.names.lookup p.1=some .cell
def cD(X:Cx)(scope:Scope)(cs:List (Str×Addr)):Prop:=∀x,(scope.names.lookup x=some .cell∨(scope.names.lookup x=some .free/\X.env.scope.names.lookup x=some .cell))->∃c,cs.lookup x=some c
abbrev bA(X:Cx)(Nc:List Str)(scope:Scope)(cs:List (Str×Addr))(C:Addr)(s2:Shared)(H2:Hp)(fp:List Addr):Cx:=
 {prog:=X.prog,w:=X.w,K:=X.K,mg:=X.mg,base:=X.base,A:=X.A,N:=Nc,s₀:=s2,H₀:=H2,env:={compEnvC scope [] C X.env with cells:=cs},outer:=X.stack,stack:=X.stack,ex:=fp,fn:=λx=>decide (scope.names.lookup x=some .cell),calm:=X.calm,pn:=[],xe:=λ_ _=>False}
theorem jU:∀(names:List (Str×NameKind))(n:Nat)(acc:List (Str×Addr)),cellsFrom n names acc=cellsFrom n names []++acc
 | [],_,_=>rfl
 |(y,k)::r,n,acc=>by
  unfold cellsFrom;split
  ·rw[jU r (n+1) ((y,n)::acc),jU r (n+1) [(y,n)],Bu];rfl
  ·exact jU r n acc
theorem mC:∀(names:List (Str×NameKind))(n:Nat)(acc:List (Str×Addr)){x:Str}{c:Addr},(x,c)∈cellsFrom n names acc->(x,Dj)∈names∨(x,c)∈acc
 | [],_,_,_,_,h=> .inr h
 |(y,k)::r,n,acc,x,c,h=>by
  unfold cellsFrom at h;split at h
  ·rename_i hk;rcases mC r _ _ h with z|z
   ·exact .inl (Af _ z)
   ·rcases List.mem_cons.mp z with e|z
    ·cases e;rw[show k=.cell from eq_of_beq hk];exact .inl Ah
    ·exact .inr z
  ·rcases mC r _ _ h with z|z
   ·exact .inl (Af _ z)
   ·exact .inr z
def aBp{names:List (Str×NameKind)}{n:Nat}{x:Str}{c:Addr}(h:(x,c)∈cellsFrom n names []):(x,Dj)∈names:=(mC names n [] h).elim id λz=>nomatch z
variable {α:Type}{A B:List (Str×α)}{x:Str}{c:α}
def nZ:(A++B).lookup x=(A.lookup x).or (B.lookup x):=List.lookup_append ..
def aHo(h:(A++B).lookup x=some c):A.lookup x=some c∨(A.lookup x=none/\B.lookup x=some c):=by
 rw[nZ]at h;cases q:A.lookup x with
 |none=>rw[q]at h;exact .inr ⟨rfl,h⟩
 |some d=>rw[q]at h;exact .inl h
def lV(h:A.lookup x=some c):(A++B).lookup x=some c:=by rw[nZ,h];rfl
def vO(h:A.lookup x=none)(h':B.lookup x=some c):(A++B).lookup x=some c:=by rw[nZ,h];exact h'
def vI(h:B.lookup x=some c):∃d,(A++B).lookup x=some d:=by
 cases q:A.lookup x with
 |none=>exact⟨c,vO q h⟩
 |some d=>exact⟨d,lV q⟩
def aH3{M:Model}{A:Around}{s:Shared}{globals:Addr}{qual:Str}{env0:Env}{Q:Env->Shared->Prop}(_hk:scope.kind=.function)
  (h:Q {scope:=scope,locals:=#v[0],globals:=globals,cells:=cellsFrom (#v[0]+1) scope.names cl,qual:=qual,func:=none,code:=env0.code,frame:=env0.frame,builtins:=env0.builtins}
   {s with heap:=pushCells (s.heap.push #v[8]) scope.names}):
  wpAny M A (newFunctionEnv scope globals cl [] qual none .none (some env0)) Q E s:=by
 simp only[newFunctionEnv,Qc,if_true];refine Aa (wpAny_alloc (Aa (wpAny_layCells _ (λnm kd cs=>by cases hq:kd==Dj<;>simp[hq]) _ _ _ _ ?_)));have e:({s with heap:=s.heap.push #v[8]}:Shared).heap.objs.size=#v[0]+1:=Cc ..;rw[e];exact Aa (Ac (Ac h))
section
variable {prog:Program}{w:World}{A:Around}{R:Result->Shared->Prop}{s:Shared}
def PTs(X:Cx)(cis:List Expr)(t:TT):Prop:=
 ∀(pins:#v[9])(s:Shared)(σ:St)(H:Hp)(Q:Bool->Hp->Prop),#v[5]->t σ H Q->#v[6] (forIn cis true λc r=>if r=true then do let ok<-isTrue c X.env (eval c X.env);pure (Gw ok)else pure (Gw r)) (TP X pins σ Q) X.xe s
def aD6{X:Cx}{c:Expr}{t:TT}(h:PT X c t):PTs X [c] t:=λpins s σ H Q I q=>wpAny_tests_one (h pins s σ H Q I q)
def aRg:TT:=λ_ H Q=>Q true H
def aEg{X:Cx}:PTs X [] aRg:=λpins s σ H Q I q=>wpAny_tests_nil ⟨H,I,q⟩
def aBn{elt target iter:Expr}{it acc:Value}{env:Env}(I:Nat->Shared->Prop)
  (turn:∀n s,I n s->#v[4] (pyNext it) (λr s₁=>match r with
   |none=>R (.ok .next) s₁
   |some v=>#v[4] (letOwnedTupleGo target it v) (λ_ s₁'=>#v[4] (assign target env v) (λ_ s₂=>#v[4] (forIn cis true λc r=>if r=true then do let ok<-isTrue c env (eval c env);pure (Gw ok)else pure (Gw r)) (λok s₂'=>if ok=true then #v[4] (eval elt env) (λx s₃=>
     #v[4] (call (.builtin "list.append") [acc,x]) (λ_ s₄=>∃m,m<n/\I m s₄) (λ_ _=>False) s₃) (λ_ _=>False) s₂' else∃m,m<n/\I m s₂') (λ_ _=>False) s₂) (λ_ _=>False) s₁') (λ_ _=>False) s₁) (λ_ _=>False) s)
  (n:Nat) (h:I n s):
  codeAny (model prog w) A (.compLoop (.ListComp elt [⟨target,iter,cis,0⟩] scope pos) 0 it acc env) R s:=by
 refine codeAny_loop rfl I (λn s hI=>?_) n h;show wpAny _ _ ((compTurn (.ListComp elt [⟨target,iter,cis,0⟩] scope pos) 0 it acc env).onRaise (λx=>do noteFrame x env;theTreesLotGoes x)) _ _ s;refine wpAny_noted ?_;rw[compTurn_list];refine Aa (Je (Aa (Dn (turn n s hI) (λr s₁ h₁=>?_) λ_ _ h'=>h'.elim)));cases r with
 |none=>exact Ac h₁
 |some v=>
  refine Aa (Dn h₁ (λ_ s₁' h₁'=>?_) λ_ _ h'=>h'.elim);refine Aa (Dn h₁' (λ_ s₂ h₂=>?_) λ_ _ h'=>h'.elim);refine Aa (Dn h₂ (λokb s₃ h₃=>?_) λ_ _ h'=>h'.elim);cases okb with
  |false=>exact Ac ⟨rfl,h₃⟩
  |true=>exact Aa (Aa (Dn h₃ (λx s₄ h₄=>Aa (Dn h₄ (λ_ s₅ h₅=>Ac (Ac ⟨rfl,h₅⟩)) λ_ _ h'=>h'.elim)) λ_ _ h'=>h'.elim))
end
def rY{own:List Str}{cap:#v[12]}{J:It}{it:Addr}
    (S:mJ X scope cap cl) (hc:X.calm=true) (I:Inv X pins σ H2 s2) (T:Turn X.prog X.w X.K tg J fp it tn) (st:tn 0 s2.heap) (hf:∀b∈fp,aC5 X pins H2 b)
    (hg:∀cs,cD X scope cs->(aBe scope->cs=cl)->∀C s2 H2 fp,PG (bA X (bV own cap) scope cs C s2 H2 fp) tg g) (htc:∀cs,cD X scope cs->(aBe scope->cs=cl)->∀C s2 H2 fp,PTs (bA X (bV own cap) scope cs C s2 H2 fp) cis tc) (he:∀cs,cD X scope cs->(aBe scope->cs=cl)->∀C s2 H2 fp,PE (bA X (bV own cap) scope cs C s2 H2 fp) elt te)
    (W:Nat->Nat->St->Hp->Prop) (w0:∃m,W 0 m (nY own.length cap σ) (upd H2 s2.heap.objs.size (.lst [])))
    (turn:∀i m σc H3,W i m σc H3->(J.stop i H3/\Q (.ref s2.heap.objs.size) H3)∨(J.go i H3/\∀x H4,J.yld i H3 x H4->g x σc H4 λσ5 H5=>tc σ5 H5 λok H5'=>if ok=true then te σ5 H5' λy H6=>∃ys,H6 s2.heap.objs.size=some (.lst ys)/\ys.length<sizeLine/\∃m',m'<m/\W (i+1) m' σ5 (upd H6 s2.heap.objs.size (.lst (ys++[y])))else∃m',m'<m/\W (i+1) m' σ5 H5'))
    (hRR:∀C H' s' m,s2.heap.objs.size<=C->s'.heap.Ns C m->H' C=none->Inv X pins σ H' s'->(∀h',Cw C s'.heap h'->Inv X pins σ H' {s' with heap:=h'})->Q (.ref s2.heap.objs.size) H'->RR (.ref s2.heap.objs.size) C (.ok .next) s')
 :
    #v[6] (newList []) (λacc s₃=>#v[6] (newFunctionEnv scope X.env.globals cl [] X.env.qual none .none (some X.env)) (λcenv s₄=>
      codeAny (model X.prog X.w) X.A (.compStart #v[15] 0 (.ref it) acc {cenv with scope:=relabel scope X.env}) (RR acc cenv.locals) s₄) E s₃) E s2:=by
  refine Bh (aH3 S.kind ?_);dsimp only;generalize hH2:s2.heap.push {cls:=.type "list",dict:=none,data:=.seq ([]:List Value).toArray}=G2;have hC:G2.objs.size=s2.heap.objs.size+1:=by rw[<-hH2,Cc]
  have hDC:s2.heap.objs.size≠G2.objs.size:=by rw[hC];exact Ar (Ew _)
  have hCle:s2.heap.objs.size<=G2.objs.size:=by rw[hC];exact Ha _
  have below:∀b,b<s2.heap.objs.size->b≠G2.objs.size/\b≠s2.heap.objs.size:=λb hb=>⟨by rw[hC];exact Ar (Fl hb),Ar hb⟩;have hG1:(G2.push #v[8]).objs.size=G2.objs.size+1:=Cc ..;have okA:=cellsFrom_ok scope.names (G2.push #v[8]) (G2.objs.size+1) [] ⟨λ_ _ z=>(nomatch z),Nu⟩ (by rw[hG1];exact Ak _);rw[hG1]at okA;have app:cellsFrom (G2.objs.size+1) scope.names cl=cellsFrom (G2.objs.size+1) scope.names []++cl:=jU _ _ _;have kept:∀b o,G2.get? b=some o->(pushCells (G2.push #v[8]) scope.names).get? b=some o:=λb o e=>Wz _ _ b o (Ad _ e);have hns₁:(pushCells (G2.push #v[8]) scope.names).Ns G2.objs.size (λ_=>none):=(Heap.Ns.new G2 (.type "dict")).keeps (Wz _ _);have old:∀b o,s2.heap.get? b=some o->(pushCells (G2.push #v[8]) scope.names).get? b=some o:=λb o e=>kept b o (hH2▸Ad _ e);have hacc:(pushCells (G2.push #v[8]) scope.names).get? s2.heap.objs.size=some {cls:=.type "list",dict:=none,data:=.seq ([]:List Value).toArray}:=kept _ _ (hH2▸Al _ rfl);have newc:∀x c,(cellsFrom (G2.objs.size+1) scope.names []).lookup x=some c->(pushCells (G2.push #v[8]) scope.names).IsCell c none/\G2.objs.size+1<=c:=λx c e=>okA.empty x c (Cb e);have newinj:∀x y c,(cellsFrom (G2.objs.size+1) scope.names []).lookup x=some c->(cellsFrom (G2.objs.size+1) scope.names []).lookup y=some c->x=y:=λx y c e1 e2=>name_of_addr okA.apart (Cb e1) (Cb e2);have ownc:∀x,scope.names.lookup x=some .cell->∃c,(cellsFrom (G2.objs.size+1) scope.names []).lookup x=some c:=λx hx=>Option.isSome_iff_exists.mp (Jw scope.names _ [] (.inl hx));generalize hh₁:pushCells (G2.push #v[8]) scope.names=h₁ at hns₁ old hacc newc⊢;generalize hcA:cellsFrom (G2.objs.size+1) scope.names []=cA at app newc newinj ownc;generalize hcs:cellsFrom (G2.objs.size+1) scope.names cl=cs at app⊢;subst app;have both:∀x c,(cA++cl).lookup x=some c->(cA.lookup x=some c∨(cA.lookup x=none/\cl.lookup x=some c)):=λx c e=>aHo e;have hfps:∀b∈fp,b<s2.heap.objs.size:=λb hb=>by
    obtain⟨o,e,_⟩:=T.obj _ _ st b hb;exact Ap e
  have hfree:∀b,s2.heap.objs.size<=b->H2 b=none:=λb hb=>I.hok.fresh hb;have old2:∀x c,cl.lookup x=some c->c<s2.heap.objs.size:=λx c e=>by
    obtain⟨v,o,ho,_⟩:=I.cell x c (S.sub x c e);exact Ap ho
  have clash:∀c,G2.objs.size+1<=c->c<s2.heap.objs.size->False:=λc h1 h2=>Dw _ (Bb h2 (Ba hCle (Mj h1)));have ceq:aBe scope->cA++cl=cl:=λn=>by rw[<-hcA,aAq n];rfl
  have cfor:cD X scope (cA++cl):=λx hx=>by
    rcases hx with h|⟨h,_⟩
    · obtain⟨c,e⟩:=ownc x h
      exact⟨c,lV e⟩
    · obtain⟨c,e⟩:=S.has x h
      exact vI e
  generalize hX:bA X (bV own cap) scope (cA++cl) G2.objs.size s2 H2 fp=X';have hOk:X'.Ok:=by
    subst hX;refine⟨I.ok.mod,S.kind,I.ok.glob,I.ok.blt,hCle,λx y c e1 e2=>?_,λx hx=>?_,λx c z e=>?_,I.ok.hd,I.ok.frames,.inl rfl,
      λb hb=>⟨(below b (hfps b hb)).1,λx c e=>?_⟩,I.bs,Ba I.ok.bsz I.sz,λb o e hb=>?_,λb hb z=>?_,I.stack,I.stkFree⟩
    · rcases both x c e1 with a1|⟨_,a1⟩
      · rcases both y c e2 with a2|⟨_,a2⟩
        · exact newinj x y c a1 a2
        · exact(clash c (newc x c a1).2 (old2 y c a2)).elim
      · rcases both y c e2 with a2|⟨_,a2⟩
        · exact(clash c (newc y c a2).2 (old2 x c a1)).elim
        · exact I.ok.inj x y c (S.sub x c a1) (S.sub y c a2)
    · rcases mW (env:=X.env) (names:=scope.names) (x:=x) hx with h|h
      · obtain⟨c,e⟩:=S.has x h
        exact vI e
      · obtain⟨c,e⟩:=ownc x h
        exact⟨c,lV e⟩
    · obtain⟨c',e'⟩:=ownc x (of_decide_eq_true z)
      have q:(cA++cl).lookup x=some c':=lV e';have q2:some c'=some c:=q.symm.trans e;cases q2;exact Ba hCle (Ba (Ha _) (newc x c e').2)
    · rcases both x c e with a1|⟨_,a1⟩
      · exactλz=>clash c (newc x c a1).2 (z.symm▸hfps b hb)
      · exact(hf b hb).2.2.2.2.1 x c (S.sub x c a1)
    · rcases (hf b hb).2.2.2.1 with z|z
      · exact I.ok.noex b o e z
      · exact absurd (Bb (Ap e) (Ba I.ok.bsz z)) (Dw _)
    · rcases List.mem_cons.mp (I.stkSub b z)with z|z
      · exact(hf b hb).2.1 z
      · exact(hf b hb).2.2.1 z
  have hI0:Inv X' [] (nY own.length cap σ) (upd H2 s2.heap.objs.size (.lst [])) {s2 with heap:=h₁}:=by
    subst hX;refine⟨hOk,rfl,I.bare,Un.laid old (Ak _) (hfree _ (Ak _)),⟨_,hns₁,λi x v e1 e2 e3=>?_⟩,λx c e=>?_,?_,λx c e=>?_,λp hp=>absurd (show p∈([]:#v[9])from hp) (by simp),?_,?_⟩
    · obtain⟨p,hp,rfl,hσ⟩:=aK1 rfl e1 e2
      obtain⟨c1,c2,c3⟩:=S.cap p hp;obtain⟨m,hn,hl⟩:=I.loc;obtain⟨u,r,l⟩:=hl p.2 p.1 v c1 hσ (.inr (.inl c3));refine⟨u,r,.inr ⟨.inl (fZ I.ok.kind c2 c3),?_⟩⟩;obtain⟨c,hcl⟩:=S.has _ c2;have nA:cA.lookup p.1=none:=by
        cases q:cA.lookup p.1 with
        |none=>rfl
        |some c0=>
          have z:=Cb q;rw[<-hcA]at z;exact absurd (aBp z) (S.capn p hp)
      refine⟨c,vO nA hcl,?_⟩;rcases l with ⟨k,_⟩|⟨_,c',e,z⟩
      · have k':X.env.scope.names.lookup p.1=some .local:=k
        rw[c3]at k';cases k'
      · have:=S.sub _ _ hcl
        rw[e]at this;cases this;obtain⟨o,ho,hd⟩:=z;exact⟨o,old _ _ ho,hd⟩
    · rcases both x c e with a1|⟨_,a1⟩
      · exact⟨none,(newc x c a1).1⟩
      · obtain⟨v,o,ho,hd⟩:=I.cell x c (S.sub x c a1)
        exact⟨v,o,old _ _ ho,hd⟩
    · show upd H2 s2.heap.objs.size (.lst []) G2.objs.size=none
      rw[aO (Cg hDC)];exact hfree _ hCle
    · rcases both x c e with a1|⟨_,a1⟩
      · have h1:=(newc x c a1).2
        have h2:s2.heap.objs.size<=c:=Ba hCle (Mj h1);have h3:c≠s2.heap.objs.size:=λz=>by
          rw[z]at h1;exact hDC (Tp hCle (Mj h1))
        rw[aO h3];exact hfree c h2
      · have e':=S.sub x c a1
        obtain⟨v,o,ho,hd⟩:=I.cell x c e';rw[aO (below c (Ap ho)).2];exact I.freeC x c e'
    · exact I.hok.laid old (Ak _) ⟨Bd _,[],_,.nil,hacc⟩
    · show(nY own.length cap σ).length=(bV own cap).length
      unfold nY bV;simp
  have hP:X'.prog=X.prog:=by subst hX;rfl
  have hw:X'.w=X.w:=by subst hX;rfl
  have hK:X'.K=X.K:=by subst hX;rfl
  have hA:X'.A=X.A:=by subst hX;rfl
  have hcalm:X'.calm=true:=by subst hX;exact hc
  have hxe:X'.xe=λ_ _=>False:=by subst hX;rfl
  have henv:X'.env={compEnvC scope cl G2.objs.size X.env with cells:=cA++cl}:=by subst hX;rfl
  have hbase:∀{σ' H' s'},Inv X' [] σ' H' s'->Un (frs X.stack) fp H2 H' s2.heap s'.heap/\s'.os=s2.os:=λ{σ' H' s'} J=>by subst hX;exact⟨J.base,J.os⟩
  have hg':PG X' tg g:=by subst hX;exact hg _ cfor ceq _ _ _ _
  have he':PE X' elt te:=by subst hX;exact he _ cfor ceq _ _ _ _
  have htc':PTs X' cis tc:=by subst hX;exact htc _ cfor ceq _ _ _ _
  have stat:∀{H':Hp},(∀b∈fp,H' b=none)->∀b∈fp,aC5 X' [] H' b:=λ{H'} hn b hb=>by
    subst hX;refine⟨hn b hb,(below b (hfps b hb)).1,λz=>?_,.inl hb,λx c e=>?_,λp hp=>absurd (show p∈([]:#v[9])from hp) (by simp)⟩;rcases List.mem_cons.mp (I.stkSub b z)with z|z
    · exact(hf b hb).2.1 z
    · exact(hf b hb).2.2.1 z
    rcases both x c e with a1|⟨_,a1⟩
    · exactλz=>clash c (newc x c a1).2 (z.symm▸hfps b hb)
    · exact(hf b hb).2.2.2.2.1 x c (S.sub x c a1)
  have back:∀{σ' H' s'},Inv X' [] σ' H' s'->Q (.ref s2.heap.objs.size) H'->RR (.ref s2.heap.objs.size) G2.objs.size (.ok .next) s':=λ{σ' H' s'} J q=>by
    obtain⟨u,ho⟩:=hbase J;have hcf:∀b∈fp,(b∈X.ex∨X.s₀.heap.objs.size<=b)/\b≠X.env.locals/\(∀x c,X.env.cells.lookup x=some c->c≠b)/\∀p∈X.pn++pins,p.1≠b:=λb hb=>by
      obtain⟨f0,f1,f2,f3,f4,f5⟩:=hf b hb;exact⟨f3,f1,f4,f5⟩
    have hCn:H' G2.objs.size=none:=by have:=J.free;rw[henv]at this;exact this
    have hok':HOk X.prog X.w H' s'.heap:=by have:=J.hok;rw[hP,hw]at this;exact this
    obtain⟨m,hm,_⟩:=J.loc;rw[henv]at hm;refine hRR _ H' s' m hCle hm hCn (I.call' ho u hok' J.bare hcf) (λh' hs=>?_) q;have kn:∀b o,s2.heap.get? b=some o->h'.get? b=s'.heap.get? b:=λb o e=>hs.2 b (below b (Ap e)).1;refine I.call' (s':={s' with heap:=h'}) ho ⟨λb o e n hb hx=>(kn b o e).trans (u.keep b o e n hb hx),λb o e n hb hx=>?_,u.free,λb o e hx=>?_,u.tups,u.frzs,u.tbls⟩ (λb ob e=>?_) J.bare hcf
    · obtain⟨sl,e1⟩:=u.slot b o e n hb hx
      exact⟨sl,(kn b o e).trans e1⟩
    · obtain⟨o',e1⟩:=u.there b o e hx
      exact⟨o',(kn b o e).trans e1⟩
    · refine(hok' b ob e).stay (λc w' hc q=>(hs.2 c ?_).trans q) (λ_ q=>q) λ_ _ q=>q
      rintro rfl;rcases hc with rfl|hc
      · rw[hCn]at e;cases e
      · rw[hCn]at hc;cases hc
  have loop:∀s₃:Shared,s₃={s2 with heap:=h₁}->
      codeAny (model X.prog X.w) X.A (.compLoop #v[15] 0 (.ref it) (.ref s2.heap.objs.size) {compEnvC scope cl G2.objs.size X.env with cells:=cA++cl})
        (RR (.ref s2.heap.objs.size) G2.objs.size) s₃:=by
    rintro s₃ rfl;obtain⟨m0,w0⟩:=w0;refine aBn (λn s'=>∃i σ' H',Inv X' [] σ' H' s'/\tn i s'.heap/\(∀b∈fp,H' b=none)/\W i n σ' H') ?_ m0
      ⟨0,_,_,hI0,T.keep _ _ _ st λb hb o e=>old b o e,λb hb=>?_,w0⟩
    · rintro n s3 ⟨i,σ3,H3,I3,st3,fr3,w3⟩
      rcases turn i n σ3 H3 w3 with ⟨stop,qn⟩|⟨go,step⟩
      · have d:=T.done X' hP hw hK hcalm i [] s3 σ3 H3 (λ_ _=>False) I3 (stat fr3) st3 stop
        rw[hA]at d;refine thn d λr s4 ⟨hr,I4⟩=>?_;subst hr;exact back I4 qn
      · have d:=T.item X' hP hw hK hcalm i [] s3 σ3 H3 (λ_ _=>False) I3 (stat fr3) st3 go
        rw[hA]at d;refine thn d λr s4 ⟨u,hr,h4⟩=>?_;subst hr;refine thn h4 λ_ s5 ⟨x,H5,I5,r5,y5,st5,fr5⟩=>?_;have I5':=I5.pinned (stat fr5) (T.obj _ _ st5);have d2:=hg' _ s5 σ3 H5 x u _ I5' r5 (step x H5 y5);rw[hP,hw,hA,hxe,henv]at d2;refine thn d2 λ_ s6 ⟨σ6,H6,I6,q6⟩=>?_;have dt:=htc' _ s6 σ6 H6 _ I6 q6;rw[hP,hw,hA,hxe,henv]at dt;refine thn dt λokb s6' ⟨H6',I6',q6'⟩=>?_;cases okb with
        |false=>
          obtain⟨m',hm,w7⟩:=q6';refine⟨m',hm,i+1,σ6,H6',I6'.unpinned,T.keep _ _ _ st5 λb hb o e=>(I6'.pin (b,o) (Bc _ (Bc _ (jP hb e)))).1,λb hb=>?_,w7⟩;obtain⟨o,e,d⟩:=T.obj _ _ st5 b hb;exact(I6'.pin (b,o) (Bc _ (Bc _ (jP hb e)))).2.1
        |true=>
        have d3:=he' _ s6' σ6 H6' _ I6' q6';rw[hP,hw,hA,hxe,henv]at d3;refine thn d3 λy7 s7 ⟨v7,H7,I7,r7,ys,e7,l7,m',hm,w7⟩=>?_;have d4:=aCs (X:=X') _ s7 σ6 H7 (.ref s2.heap.objs.size) [v7] (.ref s2.heap.objs.size) [y7] (λ_ H8=>W (i+1) m' σ6 H8) I7 rfl (.cons r7 .nil) ⟨_,ys,v7,rfl,rfl,e7,l7,w7⟩;rw[hP,hw,hA,hxe]at d4;refine thn d4 λ_ s8 ⟨v8,H8,I8,_,w8⟩=>?_;refine⟨m',hm,i+1,σ6,H8,I8.unpinned,T.keep _ _ _ st5 λb hb o e=>(I8.pin (b,o) (Bc _ (Bc _ (jP hb e)))).1,λb hb=>?_,w8⟩;obtain⟨o,e,d⟩:=T.obj _ _ st5 b hb;exact(I8.pin (b,o) (Bc _ (Bc _ (jP hb e)))).2.1
    · rw[aO (below b (hfps b hb)).2]
      exact(hf b hb).1
  exact codeAny_compStart_list (loop _ rfl) (T.self _ 0 _ _ _ (T.keep _ _ _ st λb hb o e=>old b o e) (loop _ rfl))
def cR.noC{cap:#v[12]}(S:cR X scope cap cl):mJ X scope cap cl:=⟨S.clos,S.kind,S.names,S.sub,S.has,λp _ h=>S.nocell _ h rfl,S.cap⟩
def cR.cx{cap:#v[12]}(S:cR X scope cap cl)(Nc:List Str)(C:Addr)(s2:Shared)(H2:Hp)(fp:List Addr):bA X Nc scope cl C s2 H2 fp=aY X Nc scope cl C s2 H2 fp:=by
 have e:(λx=>decide (scope.names.lookup x=some Dj))=λ_=>false:=funext λx=>decide_eq_false λh=>S.nocell _ (Cb h) rfl;unfold bA aY;rw[e];rfl
def yF{own:List Str}{cap:#v[12]}{J:It}{it:Addr}
    (S:cR X scope cap cl) (hc:X.calm=true) (I:Inv X pins σ H2 s2) (T:Turn X.prog X.w X.K tg J fp it tn) (st:tn 0 s2.heap) (hf:∀b∈fp,aC5 X pins H2 b)
    (hg:∀C s2 H2 fp,PG #v[3] tg g) (htc:∀C s2 H2 fp,PTs #v[3] cis tc) (he:∀C s2 H2 fp,PE #v[3] elt te)
    (W:Nat->Nat->St->Hp->Prop) (w0:∃m,W 0 m (nY own.length cap σ) (upd H2 s2.heap.objs.size (.lst [])))
    (turn:∀i m σc H3,W i m σc H3->(J.stop i H3/\Q (.ref s2.heap.objs.size) H3)∨(J.go i H3/\∀x H4,J.yld i H3 x H4->g x σc H4 λσ5 H5=>tc σ5 H5 λok H5'=>if ok=true then te σ5 H5' λy H6=>∃ys,H6 s2.heap.objs.size=some (.lst ys)/\ys.length<sizeLine/\∃m',m'<m/\W (i+1) m' σ5 (upd H6 s2.heap.objs.size (.lst (ys++[y])))else∃m',m'<m/\W (i+1) m' σ5 H5'))
    (hRR:∀C H' s' m,s2.heap.objs.size<=C->s'.heap.Ns C m->H' C=none->Inv X pins σ H' s'->(∀h',Cw C s'.heap h'->Inv X pins σ H' {s' with heap:=h'})->Q (.ref s2.heap.objs.size) H'->RR (.ref s2.heap.objs.size) C (.ok .next) s')
 :
    #v[6] (newList []) (λacc s₃=>#v[6] (newFunctionEnv scope X.env.globals cl [] X.env.qual none .none (some X.env)) (λcenv s₄=>
      codeAny (model X.prog X.w) X.A (.compStart #v[15] 0 (.ref it) acc {cenv with scope:=relabel scope X.env}) (RR acc cenv.locals) s₄) E s₃) E s2:=
  rY S.noC hc I T st hf (λcs _ e C s2 H2 fp=>by rw[e S.nocell,S.cx];exact hg C s2 H2 fp) (λcs _ e C s2 H2 fp=>by rw[e S.nocell,S.cx];exact htc C s2 H2 fp) (λcs _ e C s2 H2 fp=>by rw[e S.nocell,S.cx];exact he C s2 H2 fp) W w0 turn hRR
def aE9{own:List Str}{cap:#v[12]}
  (S:cR X scope cap cl) (hc:X.calm=true) (hi:PI X tg iter wi)
  (hg:∀C s2 H2 fp,PG #v[3] tg g) (htc:∀C s2 H2 fp,PTs #v[3] cis tc) (he:∀C s2 H2 fp,PE #v[3] elt te)
  (hs:FS X iter):PE X #v[15] (rA own.length cap wi g tc te):=by
 intro pins s σ H Q I h;rw[eval_ListComp];refine Hn (use:=none) rfl hs S.clos S.kind S.names (thn (hi pins s σ H _ I h) λv s1 h1=>thn h1 λitv s2 h2=>?_);obtain⟨it,fp,tn,J,H2,e,I2,T,st2,f2,rd⟩:=h2;subst e;obtain⟨W,w0,turn⟩:=rd _ (I2.hok.fresh (Ak _));exact yF (RR:=λacc C=>compPost (model X.prog X.w) X.A X.xe none (EP X pins σ Q) acc C) S hc I2 T st2 f2 hg htc he W w0 turn
  λC H' s' m _ hm _ _ hback q=>⟨m,hm,λh' hs'=>⟨.ref s2.heap.objs.size,H',hback h' hs',rfl,q⟩⟩
def yN{x:Str}{own:List Str}{cap:#v[12]}{pos spos py:Pos}
  (hN:X.N.Nodup) (hi':X.N[i]? =some x) (hx:Loc X.env.scope x) (S:cR X scope cap cl) (hc:X.calm=true) (hi:PI X tg iter wi)
  (hg:∀C s2 H2 fp,PG #v[3] tg g) (htc:∀C s2 H2 fp,PTs #v[3] cis tc) (he:∀C s2 H2 fp,PE #v[3] elt te)
  (hsw:swapsWith #v[15] (some (.Name x py)) spos.line X.env=pure true)
  (hs:FS X iter) (hf:FL X x):
  PS X (.Assign [.Name x py] #v[15] spos) (aDk (rA own.length cap wi g tc te) (mU i)):=by
 intro pins s σ H D I h;rw[Lo _ _ _ _ hsw];refine Aa (Je (Aa ?_));show wpAny _ X.A (do let _<-comprehension #v[15] scope X.env _ (newList []) false (eval iter X.env) (some (assign (.Name x py) X.env))) _ _ s;refine Aa (Dn (Hn (use:=some (assign (.Name x py) X.env)) (Q:=λ_ s'=>SP X pins D .next s') rfl hs S.clos S.kind S.names
  (thn (hi pins s σ H _ I h) λv s1 h1=>thn h1 λitv s2 h2=>?_)) (λ_ s' hq=>Ac (Ac hq)) λ_ _ e=>e)
 obtain⟨it,fp,tn,J,H2,e,I2,T,st2,f2,rd⟩:=h2;subst e;obtain⟨W,w0,turn⟩:=rd _ (I2.hok.fresh (Ak _));refine yF (Q:=λx H1=>mU i x σ H1 D.nx) (RR:=λacc C=>compPost (model X.prog X.w) X.A X.xe (some (assign (.Name x py) X.env)) (λ_ s'=>SP X pins D .next s') acc C) S hc I2 T st2 f2 hg htc he W w0 turn
  λC H' s' m hCle hm hCn I' hback q=>?_
 refine Kj (tR (v:=.ref s2.heap.objs.size) I' hN hi' hx rfl (λs'' I'' ⟨a,hsa,ha⟩=>?_) hf);have hCa:C≠a:=by
  rcases ha with z|z
  ·rw[z];exact Cg (dF I2.lt hCle)
  ·obtain⟨v,q'⟩:=I2.cell x a z;exact Cg (dF q'.lt hCle)
 refine⟨m,hm.sameBut hsa hCa,λh' hs'=>⟨_,H',?_,q⟩⟩;have hC0:X.s₀.heap.objs.size<=C:=Ba I2.sz hCle;have hnp:∀p∈X.pn++pins,p.1≠C:=λp hp=>dF (Ap (I2.pin p hp).1) hCle;have hcl:∀y c,X.env.cells.lookup y=some c->c≠C:=λy c e=>by
  obtain⟨v,q'⟩:=I2.cell y c e;exact dF q'.lt hCle
 have hL:C≠X.env.locals:=Cg (dF I2.lt hCle);exact I''.turned (t':=s''.toks) (it:=C) (λb o hb e=>(hs'.2 b hb).trans e) hCn hL (.inr hC0) hcl hnp
def aIf{own:List Str}{cap:#v[12]}
  (S:cR X scope cap cl) (hc:X.calm=true) (hi:PI X tg iter wi)
  (hg:∀C s2 H2 fp,PG #v[3] tg g) (he:∀C s2 H2 fp,PE #v[3] elt te)
  (hs:FS X iter:=by intro _;rfl):PE X #v[11] (aBi own.length cap wi g te):=
 aE9 (tc:=aRg) S hc hi hg (λ_ _ _ _=>aEg) he hs
def aHk{x:Str}{own:List Str}{cap:#v[12]}{pos spos py:Pos}
  (hN:X.N.Nodup) (hi':X.N[i]? =some x) (hx:Loc X.env.scope x) (S:cR X scope cap cl) (hc:X.calm=true) (hi:PI X tg iter wi)
  (hg:∀C s2 H2 fp,PG #v[3] tg g) (he:∀C s2 H2 fp,PE #v[3] elt te)
  (hsw:swapsWith #v[11] (some (.Name x py)) spos.line X.env=pure true:=by rfl)
  (hs:FS X iter:=by intro _;rfl) (hf:FL X x:=by trivial):
  PS X (.Assign [.Name x py] #v[11] spos) (aDk (aBi own.length cap wi g te) (mU i)):=
 yN (tc:=aRg) hN hi' hx S hc hi hg (λ_ _ _ _=>aEg) he hsw hs hf
def aGa{elt iter tg ci:Expr}{own:List Str}{cap:#v[12]}
  (S:cR X scope cap cl) (hc:X.calm=true) (hi:PI X tg iter wi)
  (hg:∀C s2 H2 fp,PG #v[3] tg g) (htc:∀C s2 H2 fp,PT #v[3] ci tc) (he:∀C s2 H2 fp,PE #v[3] elt te)
  (hs:FS X iter:=by intro _;rfl):PE X #v[10] (rA own.length cap wi g tc te):=
 aE9 S hc hi hg (λ_ _ _ _=>aD6 (htc _ _ _ _)) he hs
def aE2{x:Str}{elt iter tg ci:Expr}{own:List Str}{cap:#v[12]}{pos spos py:Pos}
  (hN:X.N.Nodup) (hi':X.N[i]? =some x) (hx:Loc X.env.scope x) (S:cR X scope cap cl) (hc:X.calm=true) (hi:PI X tg iter wi)
  (hg:∀C s2 H2 fp,PG #v[3] tg g) (htc:∀C s2 H2 fp,PT #v[3] ci tc) (he:∀C s2 H2 fp,PE #v[3] elt te)
  (hsw:swapsWith #v[10] (some (.Name x py)) spos.line X.env=pure true:=by rfl)
  (hs:FS X iter:=by intro _;rfl) (hf:FL X x:=by trivial):
  PS X (.Assign [.Name x py] #v[10] spos) (aDk (rA own.length cap wi g tc te) (mU i)):=
 yN hN hi' hx S hc hi hg (λ_ _ _ _=>aD6 (htc _ _ _ _)) he hsw hs hf
def Ite(K:Ae)(a:Addr):It:=
 ⟨λi H=>∃xs x,SqL K H a xs/\xs[i]? =some x,λi H y H'=>∃p x,H p=none/\y=.ref p/\H'=upd H p (.tup [.int i,x])/\∀xs,SqL K H a xs->xs[i]? =some x,λi H=>∃xs,SqL K H a xs/\xs.length<=i⟩
def aK4{K:Ae}{es:List Expr}(a e it:Addr)(hei:e≠it):
  Turn P w K (.Tuple es k pos) (Ite K a) [e,it] e (λi h=>(∃old,IsEnum h e it ((i:Nat):Int) old)/\h.IsListIter it a i) where
 mem:=by simp
 obj:=λi h st b hb=>by
  obtain⟨⟨old,he⟩,⟨o,e1,c,d⟩⟩:=st;rcases List.mem_cons.mp hb with rfl|hb
  ·exact⟨_,he,λv z=>by
    have z':Qp _=Nj v:=z;cases z'⟩
  ·have e2:b=it:=by simpa using hb
   subst e2;exact⟨o,e1,λv z=>by rw[d]at z;cases z⟩
 keep:=λi h h' st k=>by
  obtain⟨⟨old,he⟩,hit⟩:=st;exact⟨⟨old,k e (by simp) _ he⟩,hit.at λo e'=>k it (by simp) o e'⟩
 item:=by
  intro X hP hw hK hc i pins s σ H E I hf st hg;subst hP hw hK;obtain⟨⟨old,he⟩,hit⟩:=st;obtain⟨xs,x,hq,hx⟩:=hg;obtain⟨its,rv,p,hz⟩:=I.list hq;obtain⟨u,hu,ru⟩:=rv.get hx;refine wpAny_pyNext_enum_item he hit p.isList (x:=u) (by simpa using hu) hei λh' heo hit' ht hz' hk=>?_;refine⟨_,rfl,wpAny_letOwnedTupleGo_enum heo λh'' he'' hs''=>?_⟩;have hT:H #v[0]=none:=I.hok.fresh (Ak _);have heT:e≠#v[0]:=Ar (Ap he);have hfe:=hf e (by simp);have hfi:=hf it (by simp);have keep:∀b o,b≠e->b≠it->s.heap.get? b=some o->h''.get? b=some o:=λb o h1 h2 h3=>(hs''.2 b h1).trans (hk b o h1 h2 h3);have keepc:∀b o,b∉[e,it]->s.heap.get? b=some o->h''.get? b=some o:=λb o h1 h3=>keep b o (λz=>h1 (by simp[z])) (λz=>h1 (by simp[z])) h3;have tup:=(hs''.2 _ (Cg heT)).trans ht;have nf:∀b u,H b=some u->b≠e/\b≠it:=λb u q=>⟨λz=>(by rw[z,hfe.1]at q;cases q),λz=>(by rw[z,hfi.1]at q;cases q)⟩;have nT:∀b u,H b=some u->b≠#v[0]:=λb u q=>aN q hT;have iti:it≠#v[0]:=by obtain⟨o,e1,_⟩:=hit;exact Ar (Ap e1)
  refine⟨.ref #v[0],upd H #v[0] (.tup [.int i,x]),?_,rfl,⟨_,x,hT,rfl,rfl,λys hy=>by rw[I.list_inj hy hq];exact hx⟩,⟨⟨_,he''⟩,?_⟩,λb hb=>?_⟩
  ·show Inv X pins σ (upd H #v[0] (.tup [.int i,x])) {s with heap:=h'',gens:=s.gens,drawn:=s.drawn,toks:=s.toks+1};refine Inv.step (s:=s) (h':=h'') (t':=s.toks+1) (g':=s.gens) (d':=s.drawn) (ch:=[e,it]) I (λb hb=>?_) (λb o _ _ hc' q _=>keepc b o hc' q) (λb o _ _ hc' q _=>⟨o.slots,keepc b o hc' q⟩) (λb o _ q n=>by rw[aO (Ar (Ap q))];exact n)
    (λb o hc' q=>⟨o,keepc b o hc' q⟩) (λb ys q=>by rw[aO (nT b _ q)];exact q) (λb o' ys q=>by rw[aO (nT b _ q)];exact q) (λb ps q=>⟨#[],by rw[aO (nT b _ q),q];simp⟩) (λm hm=>?_) (λb ob q=>?_) I.bare
   ·rcases List.mem_cons.mp hb with rfl|hb
    ·exact⟨hfe.2.2.2.1,hfe.2.1,hfe.2.2.2.2.1,hfe.2.2.2.2.2⟩
    ·have e2:b=it:=by simpa using hb
     subst e2;exact⟨hfi.2.2.2.1,hfi.2.1,hfi.2.2.2.2.1,hfi.2.2.2.2.2⟩
   ·obtain⟨o,es,ep,ho,r⟩:=hm;exact⟨o,es,ep,keep _ o (Cg hfe.2.1) (Cg hfi.2.1) ho,r⟩
   ·by_cases hb:b=#v[0]
    ·subst hb;rw[aM]at q;cases q;exact⟨show 2<=sizeLine by decide,[.int i s.toks,u],.cons ⟨_,rfl⟩ (.cons ru .nil),⟨_,tup,rfl,_,rfl⟩⟩
    ·rw[aO hb]at q;refine(I.hok b ob q).stay (λc w' hc' q'=>?_) (λc q'=>by rw[aO (nT c _ q')];exact q') (λc ys q'=>by rw[aO (nT c _ q')];exact q');have hne:c≠e/\c≠it:=by
      rcases hc' with rfl|hc'
      ·exact nf _ _ q
      ·exact nf _ _ hc'
     exact keep c w' hne.1 hne.2 q'
  ·exact hit'.at λo e'=>(hs''.2 it (Cg hei)).trans e'
  ·rcases List.mem_cons.mp hb with rfl|hb
   ·rw[aO heT];exact hfe.1
   ·have e2:b=it:=by simpa using hb
    subst e2;rw[aO iti];exact hfi.1
 done:=by
  intro X hP hw hK hc i pins s σ H E I hf st hg;subst hP hw hK;obtain⟨⟨old,he⟩,hit⟩:=st;obtain⟨xs,hq,hx⟩:=hg;obtain⟨its,rv,p,hz⟩:=I.list hq;obtain⟨f0,f1,f2,f3,f4,f5⟩:=hf it (by simp);have hl:=rv.length;exact wpAny_pyNext_enum_end (I.ok.hd hc) he hit p.isList (by simp;lia) λh' eb=>⟨rfl,I.turned (t':=s.toks) (λb o hb q=>eb b o hb q) f0 f1 f3 f4 f5⟩
 self:=λ_ _ _ _ _ st h=>by
  obtain⟨⟨old,he⟩,hit⟩:=st;exact Uw he h
def aXq(K:Ae)(ta:TA):TI:=λσ H R=>ta σ H λvs H1=>∃a,vs=[.ref a]/\(∃xs,SqL K H1 a xs)/\R (Ite K a) H1
def aRe{es:List Expr}{ta:TA}{p pos:Pos}(hg:Gl X "enumerate")(hm:X.mg "enumerate"=none)(ha:PA X [a] ta)(hs:starEach [a] X.env=[(false,eval a X.env)]:=by rfl):
  PI X (.Tuple es k pos') (.Call (.Name "enumerate" p) [a] [] pos) (aXq X.K ta):=by
 intro pins s σ H R I h;refine Call_ (sI I hg hm boot_enumerate (El (thn (ha pos pins s σ H _ I h) λus s1 ⟨vs,H1,I1,r1,q1⟩=>?_) hs rfl));obtain⟨l,e,⟨xs,hq⟩,q⟩:=q1;subst e;cases r1 with
 |cons r rr=>
  cases rr;cases r;obtain⟨its,rv,pl,hz⟩:=I1.list hq;refine call_enumerate_list pl.isList λh' he hit hz' hk=>Uw he ?_;have I2:Inv X pins σ H1 {s1 with heap:=h'}:=I1.kept (t':=s1.toks) λb o e=>hk b o e;have hne:s1.heap.objs.size+1≠s1.heap.objs.size:=Nat.succ_ne_self _;refine⟨s1.heap.objs.size+1,[s1.heap.objs.size+1,s1.heap.objs.size],_,_,H1,rfl,I2,aK4 l _ _ hne,⟨⟨_,he⟩,hit⟩,λb hb=>?_,q⟩;rcases List.mem_cons.mp hb with rfl|hb
  ·exact I1.fpOk (Ha _) (I1.hok.fresh (Ha _))
  ·have e2:b=s1.heap.objs.size:=by simpa using hb
   subst e2;exact I1.fpOk (Ak _) (I1.hok.fresh (Ak _))
def aF5:dY X (.builtin "isinstance") (λxs H Q=>∃x n t b,xs=[x,.ty n]/\vJ X.K H x t/\Mu X.K t (.type n)=some b/\Q (.bl b) H):=by
 intro pins s σ H xs us Q I r h;obtain⟨x,n,t,b,rfl,ty,e,q⟩:=h;obtain⟨u,w',rfl,ru,rw'⟩:=vals2 r;cases rw';exact aJk I ru ty e λtk=>⟨.bl b,H,I.tok tk,rfl,q⟩
def aPc:OpR X (binaryOp .Add) (λx y H Q=>∃a b ys,x=.ref a/\y=.ref b/\SqT X.K H a []/\SqT X.K H b ys/\Q (.ref b) H):=by
 intro pins s σ H x y v u Q I rx ry h;obtain⟨a,b,ys,rfl,rfl,ha,hb,q⟩:=h;cases rx;cases ry;obtain⟨its,r1,p1,_⟩:=I.tuple ha;obtain⟨its2,r2,p2,_⟩:=I.tuple hb;cases r1;obtain⟨⟨cls,dd,data,sl⟩,ho,hc,n,hd⟩:=id p1;obtain⟨⟨cls2,dd2,data2,sl2⟩,ho2,hc2,n2,hd2⟩:=id p2;simp only at hc hd hc2 hd2;subst hc hd hc2 hd2;exact Rw ⟨_,ho,rfl⟩ ⟨_,ho2,rfl⟩ Of Qt Jx Jr (Jf _ _)
   (tuple_addW0 a b _ _ n n2 dd dd2 sl sl2 (by simp)) ⟨ho,ho2,⟨.ref b,H,I,rfl,q⟩⟩
def aE7{x:V}(h:rC x=true):eqV x x=true:=by
 cases x<;>first|rfl|exact beq_self_eq_true _|(exact(Ao h).elim)
def sX(e:Nat->Bool)(n:Nat):(Bk (n+1)).all e=(e 0 && (Bk n).all λj=>e (j+1)):=by
 rw[Pg,Uk,List.all_map];rfl
section
variable {X:Cx}{pins:#v[9]}{σ:St}{H:Hp}{s:Shared}{A:Around}
end
theorem pB(env:Env):∀(names:List (Str×NameKind))(acc:List (Str×Addr)),(∀y∈names,y.2=.free->∃c,env.cells.lookup y.1=some c)->(∀x c,acc.lookup x=some c->env.cells.lookup x=some c)->
  ∃cl,(forIn names acc (λ(x:Str×NameKind)(cs:List (Str×Addr))=>(if(x.2==Dd)=true then(do let a<-cellOf env x.1;pure (Gw ((x.1,a)::cs)):Sem _)else pure (Gw cs))):Sem (List (Str×Addr)))=pure cl/\
   (∀x c,cl.lookup x=some c->env.cells.lookup x=some c)/\(∀x,(∃c,acc.lookup x=some c)∨(x,Dd)∈names->∃c,cl.lookup x=some c)
 | [],acc,_,h2=>⟨acc,rfl,h2,λx hx=>hx.elim id λz=>(by cases z)⟩
 |(n,k)::r,acc,h1,h2=>by
  by_cases hk:k=.free
  ·subst hk;obtain⟨c,hc⟩:=h1 (n,.free) Ah rfl;obtain⟨cl,e,a,b⟩:=pB env r ((n,c)::acc) (λy hy=>h1 y (Af _ hy)) (λx c' hx=>by
    cases hxn:x==n with
    |true=>
     simp only[Be,hxn]at hx;have:x=n:=eq_of_beq hxn;subst this;cases hx;exact hc
    |false=>
     simp only[Be,hxn]at hx;exact h2 x c' hx)
   refine⟨cl,?_,a,λx hx=>b x ?_⟩
   ·rw[<-e,Iz];have ec:cellOf env n=pure c:=by unfold cellOf;rw[hc]
    simp only[beq_self_eq_true,if_true,ec];rfl
   ·rcases hx with ⟨c',hx⟩|hx
    ·refine .inl ?_;cases hxn:x==n with
     |true=>exact⟨c,by simp only[Be,hxn]⟩
     |false=>exact⟨c',by simp only[Be,hxn];exact hx⟩
    ·rcases List.mem_cons.mp hx with z|z
     ·cases z;exact .inl ⟨c,by simp[Be]⟩
     ·exact .inr z
  ·obtain⟨cl,e,a,b⟩:=pB env r acc (λy hy=>h1 y (Af _ hy)) h2;refine⟨cl,?_,a,λx hx=>b x ?_⟩
   ·rw[<-e,Iz];have hb:(k==Dd)=false:=by simpa using hk
    simp only[hb,Cf,if_false];rfl
   ·rcases hx with hx|hx
    ·exact .inl hx
    ·rcases List.mem_cons.mp hx with z|z
     ·cases z;exact absurd rfl hk
     ·exact .inr z
def aGj{X:Cx}{cap:#v[12]}(hcell:HC X)(kind:scope.kind=.function)(nocell:∀y∈scope.names,y.2≠.cell)
  (names:∀y∈scope.names,y.2=.local->scope.names.lookup y.1=some .local) (free:∀y∈scope.names,y.2=.free->X.env.scope.names.lookup y.1=some .cell)
  (hcap:∀p∈cap,X.N[p.2]? =some p.1/\scope.names.lookup p.1=some .free/\X.env.scope.names.lookup p.1=some .cell):∃cl,cR X scope cap cl:=by
 obtain⟨cl,e,a,b⟩:=pB X.env scope.names [] (λy hy hf=>hcell _ (free y hy hf)) (λx c h=>by simp at h);refine⟨cl,?_,kind,nocell,names,a,λx hx=>b x (.inr (Cb hx)),hcap⟩;unfold closureFor;refine Wk ?_ e;simp only[bind_pure]
def Itz(K:Ae)(a b:Addr):It:=
 ⟨λi H=>∃xs ys x y,SqT K H a xs/\SqL K H b ys/\xs[i]? =some x/\ys[i]? =some y,λi H v H'=>∃p x y,H p=none/\v=.ref p/\H'=upd H p (.tup [x,y])/\(∀xs,SqT K H a xs->xs[i]? =some x)/\∀ys,SqL K H b ys->ys[i]? =some y,
  λi H=>∃xs,SqT K H a xs/\xs.length<=i⟩
def aO6{K:Ae}{es:List Expr}{a b z TI TO i1 i2:Addr}(D:ZipApart z TI TO i1 i2 a b):
  Turn P w K (.Tuple es k pos) (Itz K a b) [z,TI,TO,i1,i2] z (λi h=>aMj h z TI TO i1 i2 a b i .none) where
 mem:=by simp
 obj:=λi h st c hc=>by
  obtain⟨hz,hTI,⟨x,y,hTO⟩,⟨o1,e1,c1,d1⟩,⟨o2,e2,c2,d2⟩⟩:=st;simp only[Ck,Bt,or_false]at hc;rcases hc with rfl|rfl|rfl|rfl|rfl
  ·exact⟨_,hz,λv q=>by
    have q':Qp _=Nj v:=q;cases q'⟩
  ·exact⟨_,hTI,λv q=>by
    have q':Rf _ _=Nj v:=q;cases q'⟩
  ·exact⟨_,hTO,λv q=>by
    have q':Rf _ _=Nj v:=q;cases q'⟩
  ·exact⟨o1,e1,λv q=>by rw[d1]at q;cases q⟩
  ·exact⟨o2,e2,λv q=>by rw[d2]at q;cases q⟩
 keep:=λi h h' st k=>by
  obtain⟨hz,hTI,⟨x,y,hTO⟩,h1,h2⟩:=st;exact⟨k z (by simp) _ hz,k TI (by simp) _ hTI,⟨x,y,k TO (by simp) _ hTO⟩,h1.at λo e=>k i1 (by simp) o e,h2.at λo e=>k i2 (by simp) o e⟩
 item:=by
  intro X hP hw hK hc i pins s σ H E I hf st hg;subst hP hw hK;obtain⟨xs,ys,x,y,hq1,hq2,hx,hy⟩:=hg;obtain⟨its1,rv1,p1,hz1⟩:=I.tuple hq1;obtain⟨its2,rv2,p2,hz2⟩:=I.list hq2;obtain⟨u1,hu1,ru1⟩:=rv1.get hx;obtain⟨u2,hu2,ru2⟩:=rv2.get hy;refine aKz D st p1 p2.isList (x:=u1) (y:=u2) (by simpa using hu1) (by simpa using hu2) λh' st' ht hsz hk=>?_;obtain⟨hz',hTI',⟨a',b',hTO'⟩,h1',h2'⟩:=st';refine⟨_,rfl,wpAny_letOwnedTupleGo_zip hz' λh'' hz'' hs''=>?_⟩;have hT:H #v[0]=none:=I.hok.fresh (Ak _);obtain⟨sz,sTI,⟨_,_,sTO⟩,⟨so1,s1,_⟩,⟨so2,s2,_⟩⟩:=st;have lz:=Ap sz;have nz:z≠#v[0]:=Ar lz;have nTO:TO≠#v[0]:=Ar (Ap sTO);have nTI:TI≠#v[0]:=Ar (Ap sTI);have n1:i1≠#v[0]:=Ar (Ap s1);have n2:i2≠#v[0]:=Ar (Ap s2);have keep:∀c o,c≠z->c≠TO->c≠i1->c≠i2->s.heap.get? c=some o->h''.get? c=some o:=λc o c1 c2 c3 c4 e=>(hs''.2 c c1).trans (hk c o c1 c2 c3 c4 e);have keepc:∀c o,c∉[z,TI,TO,i1,i2]->s.heap.get? c=some o->h''.get? c=some o:=λc o hc e=>keep c o (λq=>hc (by simp[q])) (λq=>hc (by simp[q])) (λq=>hc (by simp[q])) (λq=>hc (by simp[q])) e;have tup:=(hs''.2 _ (Cg nz)).trans ht;have fz:=hf z (by simp);have fTI:=hf TI (by simp);have fTO:=hf TO (by simp);have f1:=hf i1 (by simp);have f2:=hf i2 (by simp);have nf:∀c u,H c=some u->c≠z/\c≠TO/\c≠i1/\c≠i2:=λc u q=>⟨λe=>(by rw[e,fz.1]at q;cases q),λe=>(by rw[e,fTO.1]at q;cases q),λe=>(by rw[e,f1.1]at q;cases q),λe=>(by rw[e,f2.1]at q;cases q)⟩;have nT:∀c u,H c=some u->c≠#v[0]:=λc u q=>aN q hT;refine⟨.ref #v[0],upd H #v[0] (.tup [x,y]),?_,rfl,⟨_,x,y,hT,rfl,rfl,λzs hz=>(by rw[I.tuple_inj hz hq1];exact hx),λzs hz=>(by rw[I.list_inj hz hq2];exact hy)⟩,
   ⟨hz'',(hs''.2 _ D.TIz).trans hTI',⟨_,_,(hs''.2 _ D.TOz).trans hTO'⟩,h1'.at λo e=>(hs''.2 _ D.i1z).trans e,h2'.at λo e=>(hs''.2 _ D.i2z).trans e⟩,λc hc=>?_⟩
  ·show Inv X pins σ (upd H #v[0] (.tup [x,y])) {s with heap:=h'',gens:=s.gens,drawn:=s.drawn,toks:=s.toks};refine Inv.step (s:=s) (h':=h'') (t':=s.toks) (g':=s.gens) (d':=s.drawn) (ch:=[z,TI,TO,i1,i2]) I (λc hc=>?_) (λc o _ _ hc' q _=>keepc c o hc' q) (λc o _ _ hc' q _=>⟨o.slots,keepc c o hc' q⟩) (λc o _ q n=>by rw[aO (Ar (Ap q))];exact n)
    (λc o hc' q=>⟨o,keepc c o hc' q⟩) (λc ys q=>by rw[aO (nT c _ q)];exact q) (λc o' ys q=>by rw[aO (nT c _ q)];exact q) (λc ps q=>⟨#[],by rw[aO (nT c _ q),q];simp⟩) (λm hm=>?_) (λc ob q=>?_) I.bare
   ·have:=hf c hc;exact⟨this.2.2.2.1,this.2.1,this.2.2.2.2.1,this.2.2.2.2.2⟩
   ·obtain⟨o,es,ep,ho,r⟩:=hm;exact⟨o,es,ep,keep _ o (Cg fz.2.1) (Cg fTO.2.1) (Cg f1.2.1) (Cg f2.2.1) ho,r⟩
   ·by_cases hb:c=#v[0]
    ·subst hb;rw[aM]at q;cases q;exact⟨show 2<=sizeLine by decide,[u1,u2],.cons ru1 (.cons ru2 .nil),⟨_,tup,rfl,_,rfl⟩⟩
    ·rw[aO hb]at q;refine(I.hok c ob q).stay (λd w' hc' q'=>?_) (λd q'=>by rw[aO (nT d _ q')];exact q') (λd ys q'=>by rw[aO (nT d _ q')];exact q');have hne:d≠z/\d≠TO/\d≠i1/\d≠i2:=by
      rcases hc' with rfl|hc'
      ·exact nf _ _ q
      ·exact nf _ _ hc'
     exact keep d w' hne.1 hne.2.1 hne.2.2.1 hne.2.2.2 q'
  ·simp only[Ck,Bt,or_false]at hc;rcases hc with rfl|rfl|rfl|rfl|rfl
   ·rw[aO nz];exact fz.1
   ·rw[aO nTI];exact fTI.1
   ·rw[aO nTO];exact fTO.1
   ·rw[aO n1];exact f1.1
   ·rw[aO n2];exact f2.1
 done:=by
  intro X hP hw hK hc i pins s σ H E I hf st hg;subst hP hw hK;obtain⟨xs,hq,hx⟩:=hg;obtain⟨its,rv,p,hz⟩:=I.tuple hq;have hl:=rv.length;have fz:=hf z (by simp);have fTO:=hf TO (by simp);have f1:=hf i1 (by simp);have f2:=hf i2 (by simp);refine aOe (I.ok.hd hc) D st p (by simp;lia) λh' hk=>⟨rfl,?_⟩;have keepc:∀c o,c∉[z,TO,i1,i2]->s.heap.get? c=some o->h'.get? c=some o:=λc o hc e=>hk c o (λq=>hc (by simp[q])) (λq=>hc (by simp[q])) (λq=>hc (by simp[q])) (λq=>hc (by simp[q])) e;have nf:∀c u,H c=some u->c∉[z,TO,i1,i2]:=λc u q hc=>by
   simp only[Ck,Bt,or_false]at hc;rcases hc with rfl|rfl|rfl|rfl
   ·rw[fz.1]at q;cases q
   ·rw[fTO.1]at q;cases q
   ·rw[f1.1]at q;cases q
   ·rw[f2.1]at q;cases q
  show Inv X pins σ H {s with heap:=h',gens:=s.gens,drawn:=s.drawn,toks:=s.toks};refine Inv.step (s:=s) (h':=h') (t':=s.toks) (g':=s.gens) (d':=s.drawn) (ch:=[z,TO,i1,i2]) I (λc hc=>?_) (λc o _ _ hc' q _=>keepc c o hc' q) (λc o _ _ hc' q _=>⟨o.slots,keepc c o hc' q⟩) (λ_ _ _ _ n=>n)
   (λc o hc' q=>⟨o,keepc c o hc' q⟩) (λ_ _ q=>q) (λ_ _ _ q=>q) (λc ps q=>⟨#[],by rw[q];simp⟩) (λm hm=>?_) (λc ob q=>?_) I.bare
  ·have hc':c∈[z,TI,TO,i1,i2]:=by
    simp only[Ck,Bt,or_false]at hc⊢;rcases hc with h|h|h|h<;>simp[h]
   have:=hf c hc';exact⟨this.2.2.2.1,this.2.1,this.2.2.2.2.1,this.2.2.2.2.2⟩
  ·obtain⟨o,es,ep,ho,r⟩:=hm;exact⟨o,es,ep,hk _ o (Cg fz.2.1) (Cg fTO.2.1) (Cg f1.2.1) (Cg f2.2.1) ho,r⟩
  ·refine(I.hok c ob q).stay (λd w' hc' q'=>?_) (λ_ q'=>q') (λ_ _ q'=>q');refine keepc d w' ?_ q';rcases hc' with rfl|hc'
   ·exact nf _ _ q
   ·exact nf _ _ hc'
 self:=λ_ _ _ _ _ st h=>Vn st.z h
def aZb(K:Ae)(ta:TA):TI:=λσ H R=>ta σ H λvs H1=>∃a b,vs=[.ref a,.ref b]/\(∃xs,SqT K H1 a xs)/\(∃ys,SqL K H1 b ys)/\R (Itz K a b) H1
def aWc{es:List Expr}{a b:Expr}{ta:TA}{p pos:Pos}(hg:Gl X "zip")(hm:X.mg "zip"=none)(ha:PA X [a,b] ta)(hs:starEach [a,b] X.env=[(false,eval a X.env),(false,eval b X.env)]:=by rfl)(hs2:starEach [b] X.env=[(false,eval b X.env)]:=by rfl):
  PI X (.Tuple es k pos') (.Call (.Name "zip" p) [a,b] [] pos) (aZb X.K ta):=by
 intro pins s σ H R I h;refine Call_ (sI I hg hm (show bootBuiltins "zip"=some (.type "zip") by decide+kernel) (El (thn (ha pos pins s σ H _ I h) λus s1 ⟨vs,H1,I1,r1,q1⟩=>?_) (by rw[hs,hs2]) (by rw[hs2];rfl)));obtain⟨t,l,e,⟨xs,hq1⟩,⟨ys,hq2⟩,q⟩:=q1;subst e;obtain⟨u,w',rfl,ru,rw'⟩:=vals2 r1;cases ru;cases rw';obtain⟨its1,rv1,p1,_⟩:=I1.tuple hq1;obtain⟨its2,rv2,p2,_⟩:=I1.list hq2;refine aJp p1 p2.isList λh' st hk=>Vn st.z ?_;have I2:Inv X pins σ H1 {s1 with heap:=h'}:=I1.kept (t':=s1.toks) λb o e=>hk b o e;have lt:t<s1.heap.objs.size:=by obtain⟨o,e,_⟩:=p1;exact Ap e
 have ll:l<s1.heap.objs.size:=by obtain⟨o,e,_⟩:=p2.isList;exact Ap e
 have ne:∀{m n:Nat},m<n->m≠n:=λh=>Ar h;have D:ZipApart (s1.heap.objs.size+4) (s1.heap.objs.size+2) (s1.heap.objs.size+3) s1.heap.objs.size (s1.heap.objs.size+1) t l:=by
  have e:∀n:Nat,t≠s1.heap.objs.size+n:=λn=>ne (Bb lt (Df _ _));have e':∀n:Nat,l≠s1.heap.objs.size+n:=λn=>ne (Bb ll (Df _ _));refine⟨?_,?_,?_,?_,?_,?_,?_,?_,?_,?_,e 4,e 3,e 0,e 1,e' 4,e' 3,e' 0,e' 1⟩<;>first|exact Ar ∅|exact Ey ∅
 refine⟨s1.heap.objs.size+4,_,_,_,H1,rfl,I2,aO6 D,st,λc hc=>?_,q⟩;have hle:s1.heap.objs.size<=c:=by
  simp only[Ck,Bt,or_false]at hc;rcases hc with rfl|rfl|rfl|rfl|rfl
  ·exact Df _ _
  ·exact Df _ _
  ·exact Df _ _
  ·exact Ak _
  ·exact Df _ _
 exact I1.fpOk hle (I1.hok.fresh hle)
def rT:dY X (.builtin "all") (λxs H Q=>∃(p:Addr)(bs:List Bool),xs=[.ref p]/\SqL X.K H p (bs.map V.bl)/\X.calm=true/\Q (.bl (bs.all id)) H):=by
 intro pins s σ H xs us Q I r h;obtain⟨p,bs,rfl,hq,hc,q⟩:=h;obtain⟨u,rfl,ru⟩:=vals1 r;cases ru;obtain⟨its,rv,pl,hz⟩:=I.list hq;have hl:=rv.length;rw[Ab]at hl;refine call_all_walk (Gu pl.isList ?_);have hlt:p<#v[0]:=by obtain⟨o,e,_⟩:=pl.isList;exact Ap e
 have hne:p≠#v[0]:=Ar hlt;have hd:X.A.in1.handled=none:=I.ok.hd hc;refine⟨#v[0],_,_,_,_,_,λi=>bs.getD i true,rfl,Ly hd #v[0] p hne its.toArray,⟨⟨_,Al _ rfl,rfl,rfl⟩,pl.isList.push _⟩,λi v s' Q' E' hv hQ=>?_,λh' tk hk=>?_⟩
 ·have hv':its[i]? =some v:=by simpa using hv
  have hi:i<its.length:=(List.getElem?_eq_some_iff.mp hv').1;have hi':i<bs.length:=by lia
  have e1:(bs.map V.bl)[i]? =some (V.bl bs[i]):=by simp[hi']
  obtain⟨u,hu,ru⟩:=rv.get e1;rw[hv']at hu;cases hu;have ru':v=Gx bs[i]:=ru;subst ru';have e2:bs.getD i true=bs[i]:=by simp[hi']
  have hQ':Q' (bs.getD i true) s':=hQ;rw[e2]at hQ';exact Cm hQ'
 ·refine⟨.bl (bs.all id),H,?_,?_,q⟩
  ·exact I.kept (t':=tk) λb o e=>hk b o (by simp;exact Ar (Ap e)) (Ad _ e)
  ·show Gx _=Gx _;congr 1;have e:its.toArray.size=bs.length:=by rw[Ai];lia
   rw[e];have:∀l:List Bool,(Bk l.length).all (λi=>l.getD i true)=l.all id:=by
    intro l;induction l with
    |nil=>rfl
    |cons b l ih=>
     rw[Am,sX,Uk, <-ih];congr 1
   exact this bs
theorem aAm:∀{us:List Value}{ns:List Int},IntsAre us ns->Vals (ns.map V.int) us
 |_,_,.nil=> .nil
 |_,_,.cons i t r=> .cons ⟨t,rfl⟩ (aAm r)
theorem aBd(f:Nat->Int)(ns:List Int)(h:∀j,j<ns.length->f j=ns.getD j 0):∀n,n<=ns.length->preSum f n=(ns.take n).sum
 |0,_=>by simp[preSum]
 |n+1,hn=>by
  show preSum f n+f n=_;rw[aBd f ns h n ∅,h n hn,Tq];have e:ns[n]? =some (ns.getD n 0):=by simp[show n<ns.length from hn]
  rw[e,List.sum_append];simp
theorem yG:∀(ns:List Int)(b:Int),(∀n∈ns,0<=n/\n<=b)->0<=b->∀j,0<=(ns.take j).sum/\(ns.take j).sum<=ns.length*b
 | [],b,_,hb,j=>by simp
 |n::ns,b,h,hb,0=>by
  simp;exact Int.mul_nonneg ∅ hb
 |n::ns,b,h,hb,j+1=>by
  have ih:=yG ns b (λm hm=>h m (Af _ hm)) hb j;have hn:=h n Ah;rw[List.take_succ_cons,List.sum_cons,Am];have:((ns.length+1:Nat):Int)*b=ns.length*b+b:=by rw[Nv,Xc];simp
  rw[this]
  lia
inductive aSd(K:Ae)(xs:List V)(H:Hp)(Q:VK):Prop
 |mk (p:Addr) (ns:List Int) (q0_:xs=[.ref p]) (q1_:SqL K H p (ns.map V.int)) (q2_:ns.length<=1000) (q3_:(∀n∈ns,0<=n/\n<=1000)) (q4_:Q (.int ns.sum) H):aSd K xs H Q
def aW6(K:Ae):List V->Hp->VK->Prop:=λxs H Q=>aSd K xs H Q
def aLk(hc:X.calm=true):dY X (.builtin "sum") (aW6 X.K):=by
 intro pins s σ H xs us Q I r h;obtain⟨p,ns,rfl,hq,hln,hb,q⟩:=h;obtain⟨u,rfl,ru⟩:=vals1 r;cases ru;obtain⟨its,rv,pl,hz⟩:=I.list hq;have hi:IntsAre its ns:=intsAre_of rv;obtain⟨ys,e⟩:=hi.allInts.items;have hns:ns=ys.toList.map (·.1):=by
  rw[<-hi.numsOf, <-nums_intItems, <-e]
 have hsz:ys.size=ns.length:=by rw[hns,Ab,Aq]
 have hl:=pl.isList;rw[e]at hl;have hat:∀j,j<ns.length->numAt ys j=ns.getD j 0:=λj hj=>by
  rw[numAt_eq,hns]
 have hps:∀n,n<=ns.length->preSum (numAt ys) n=(ns.take n).sum:=aBd _ _ hat;have hsum:=yG ns 1000 hb ⋯;have hbig:(ns.length:Int)*1000<=1000000:=by lia
 refine sum_intList (I.ok.hd hc) hl (λj hj=>⟨?_,?_⟩) λh' tk t' hk=>?_
 ·have hj':j<ns.length:=by lia
  rw[hat j hj'];have:=hb (ns.getD j 0) (by simp[hj']);exact⟨∅,∅⟩
 ·rw[hps (j+1) ∅];have:=hsum (j+1);exact⟨∅,∅⟩
 ·refine⟨.int _,H,I.kept (t':=tk) hk,⟨t',rfl⟩,?_⟩;rw[hsz,hps _ (Ak _),Fs];exact q
def gather{prog:Program}{A:Around}{s:Shared}{T:String}{r d:Addr}{n:Nat}{Pj:Nat->Value->Prop}{OK:Heap->Prop}(src:Mw prog w T r d n Pj OK)(calm:A.handled=none)(there:OK s.heap)(fits:n<=sizeLine)
  (k:∀(g:Heap)(tk:Nat)(acc:Array Value),(∀b o,s.heap.get? b=some o->g.get? b=some o)->#v[0]<g.objs.size->ItemsOf Pj acc n->R acc.toList {s with heap:=g,toks:=tk}):#v[4] (collect (.ref r)) R E s:=by
 have lt:=src.there _ there;unfold collect;refine Aa (Mc (Ca So ?_));rw[Bi Mh _];show wpAny _ A.in1 (newList []>>=λl=>again (.builtin "list.__iadd__" ⟨[l,.ref r],[]⟩)) _ _ s;refine Aa (Bh ?_);refine Ac ⟨Da Gz _,Ca Vr ?_⟩;rw[Bi Gz _];have laid:(s.heap.push {cls:=.type "list",data:=.seq ([]:List Value).toArray}).get? #v[0]=some {cls:=.type "list",data:=.seq #[]}:=Al _ rfl;show wpAny _ A.in1 (Fq (.ref #v[0]) (.ref r) (.ref #v[0])) _ _ {s with heap:=s.heap.push {cls:=.type "list",data:=.seq ([]:List Value).toArray}};have done:∀(g:Heap)(tk:Nat)(acc:Array Value)(c:Nat),(∀b o,s.heap.get? b=some o->g.get? b=some o)->g.get? #v[0]=some {cls:=.type "list",dict:=none,data:=.seq acc c,slots:= #[]}->ItemsOf Pj acc n->R acc.toList {s with heap:=g,toks:=tk}:=λg tk acc c hk hS ha=>k g tk acc hk (Ap hS) ha;have run:=PySem.W.kdl_extend (A:=A) (s:={s with heap:=s.heap.push {cls:=.type "list",data:=.seq ([]:List Value).toArray}}) (R:=λ(q:Result)(s':Shared)=>∃(g:Heap)(tk:Nat)(acc:Array Value)(c:Nat),q=.ok (.ret (.ref #v[0]))/\s'={s with heap:=g,toks:=tk}/\(∀b o,s.heap.get? b=some o->g.get? b=some o)/\g.get? #v[0]=some {cls:=.type "list",dict:=none,data:=.seq acc c,slots:= #[]}/\ItemsOf Pj acc n)
  src calm (src.keep _ _ there λb _ o e=>Ad _ e) #v[0] (Ey lt.1) (Ey lt.2) (.ref #v[0]) 0 laid (λg tk acc c hk hS ha=>⟨g,tk,acc,c,rfl,rfl,λb o e=>hk b o (Ar (Ap e)) (Ad _ e),hS,ha⟩) fits
 refine Dn run (λfin s' got=>?_) λe s' got=>by obtain⟨_,_,_,_,bad,_⟩:=got;cases bad
 cases fin with
 |done f=>obtain⟨g,tk,acc,c,e,rfl,hk,hS,ha⟩:=got;cases e;show wpAny _ A (load #v[0]>>=_) _ _ _;exact Aa (Nm hS (Ac (done g tk acc c hk hS ha)))
 |again c1=>exact⟨got.1,Ho got.2 λq s2 y=>by obtain⟨g,tk,acc,c,rfl,rfl,hk,hS,ha⟩:=y;show wpAny _ A (load #v[0]>>=_) _ _ _;exact Aa (Nm hS (Ac (done g tk acc c hk hS ha)))⟩
section
variable {prog:Program}{w:World}{A:Around}
def aJu(x d:Value):argsOk "max" ⟨[x],[(Ej "default",d)]⟩:=by
 unfold argsOk
 kernel_rfl
def aUr(num:Nat->Int)(P:Nat->Value->Prop)(j:Nat):Option (Nat×Value)->Prop
 |none=>j=0
 |some (i,v)=>i<j/\P i v/\∀t,t<j->num t<=num i
def aIt(o:Option (Nat×Value)):Array Value:=match o with
 |none=> #[]
 |some (_,v)=> #[v,v]
theorem aAg{It Bx:Addr}{fp wr:List Addr}{n:Nat}{P:Nat->Value->Prop}{St:Nat->Heap->Prop}{R:Result->Shared->Prop}{d:Value}{num:Nat->Int}(W:Walks prog w A.in1 It fp wr n P St)(cm:CmpOf prog w A.in1 .Gt P (λi j=>decide (num i>num j)))(apart:Bx∉fp):
  ∀(k j:Nat)(s:Shared)(o:Option (Nat×Value))(c:Nat),n=j+k->St j s.heap->aUr num P j o->s.heap.get? Bx=some {cls:=.type "list",dict:=none,data:=.seq (aIt o) c,slots:= #[]}->
   (∀v h' tk,(n=0/\v=d∨∃o',o'=some v/\∃i,aUr num P n (some (i,v)))->(∀b ob,b∉wr->b≠Bx->s.heap.get? b=some ob->h'.get? b=some ob)->R (.ok (.ret v)) {s with heap:=h',toks:=tk})->
   codeAny (model prog w) A (.builtin "max.loop" ⟨[.ref It,.none,.ref Bx],[("default",d)]⟩) R s
 |0,j,s,o,c,en,at_,top,hS,fin=>by
  have outw:Bx∉wr:=λz=>apart (W.sub _ z);cases en;refine Ca Uq ?_;rw[Bi Hc _];show wpAny _ A.in1 (seqItems? (.ref Bx)>>=_) _ _ s;refine Aa (Cr hS rfl ?_);show wpAny _ A.in1 (tryCatch (pyNext (.ref It)) _>>=_) _ _ s;refine Aa (Mb (W.done s _ _ at_ λh' tk kept=>?_));have hS2:=kept Bx _ outw hS;cases o with
  |none=>
   have z:j=0:=top;show wpAny _ A.in1 (rule _>>=_) _ _ _;exact Aa (Hm (Ac (fin d h' tk (.inl ⟨z,rfl⟩) λb ob h1 _ h3=>kept b ob h1 h3)))
  |some q=>
   show wpAny _ A.in1 (updateSeq Bx (λ_=> #[])>>=_) _ _ _;refine Aa (Hu (hz:=by show 2<=sizeLine;decide) hS2 rfl (Aa (Jm (Ac (fin q.2 _ tk (.inr ⟨_,rfl,q.1,top⟩) λb ob h1 h2 h3=>?_)))));exact(Cj _ _ (Cg h2)).trans (kept b ob h1 h3)
 |k+1,j,s,o,c,en,at_,top,hS,fin=>by
  have outw:Bx∉wr:=λz=>apart (W.sub _ z);have more:j<n:=by lia
  have nm:(toString "max"++toString ".loop":String)="max.loop":=by decide
  refine Ca Uq ?_;rw[Bi Hc _];show wpAny _ A.in1 (seqItems? (.ref Bx)>>=_) _ _ s;refine Aa (Cr hS rfl ?_);show wpAny _ A.in1 (tryCatch (pyNext (.ref It)) _>>=_) _ _ s;refine Aa (Mb (W.item j s _ _ more at_ λv h' tk pv at2 kept=>?_));have hS2:=kept Bx _ outw hS;have step:∀(o2:Option (Nat×Value))(c2:Nat)(h2:Heap)(t2:Nat),aUr num P (j+1) o2->h2.get? Bx=some {cls:=.type "list",dict:=none,data:=.seq (aIt o2) c2,slots:= #[]}->(∀b ob,b≠Bx->h'.get? b=some ob->h2.get? b=some ob)->
    codeAny (model prog w) A (.builtin "max.loop" ⟨[.ref It,.none,.ref Bx],[("default",d)]⟩) R {s with heap:=h2,toks:=t2}:=λo2 c2 h2 t2 top2 hS3 k2=>by
   refine aAg W cm apart k (j+1) {s with heap:=h2,toks:=t2} o2 c2 ∅ (W.frame _ _ _ at2 λb hb ob e=>k2 b ob (λz=>apart (z▸hb)) e) top2 hS3 λv3 h3 t3 r3 k3=>?_;exact fin v3 h3 t3 r3 λb ob a1 a2 a3=>k3 b ob a1 a2 (k2 b ob a2 (kept b ob a1 a3))
  cases o with
  |none=>
   have z:j=0:=top;subst z;show wpAny _ A.in1 (updateSeq Bx (λ_=> #[v,v])>>=_) _ _ _;refine Aa (Hu hS2 rfl ?_);rw[nm];refine Ac ⟨Da Hc _,step (some (0,v)) _ _ _ ⟨Nat.one_pos,pv,λt ht=>?_⟩ (Bj _ hS2 rfl) λb ob hb e=>(Cj _ _ (Cg hb)).trans e⟩;have:t=0:=by lia
   subst this;exact Nx _
  |some q=>
   obtain⟨i,vb⟩:=q;obtain⟨hi,pb,best⟩:=top;show wpAny _ A.in1 (tryCatch (holding [v,v] (richCompare .Gt v vb>>=_)) _>>=_) _ _ _;refine Aa (Mb (Bs (Aa (cm j i v vb _ _ _ pv pb ?_))));refine Aa (Bs (Cm (Aa (Jm (Ac ?_)))));dsimp only;by_cases hb:num j>num i
   ·rw[decide_eq_true hb,if_pos rfl];refine Aa (Hu (hz:=by show 2<=sizeLine;decide) hS2 rfl (Aa (Jm ?_)));rw[nm];refine Ac ⟨Da Hc _,step (some (j,v)) _ _ _ ⟨Ew j,pv,λt ht=>?_⟩ (Bj _ hS2 rfl) λb ob hb e=>(Cj _ _ (Cg hb)).trans e⟩;by_cases ht2:t<j
    ·have:=best t ht2;lia
    ·have:t=j:=by lia
     subst this;exact Nx _
   ·rw[decide_eq_false hb,if_neg Ao];refine Aa (Jm ?_);rw[nm];refine Ac ⟨Da Hc _,step (some (i,vb)) _ _ _ ⟨∅,pb,λt ht=>?_⟩ hS2 λb ob _ e=>e⟩;by_cases ht2:t<j
    ·exact best t ht2
    ·have:t=j:=by lia
     subst this
     lia
end
section
variable {prog:Program}{w:World}{A:Around}
end
def aO0(X:Cx)(f:Value)(ks:List Str)(r:List V->List V->Hp->VK->Prop):Prop:=
 ∀(pins:#v[9])(s:Shared)(σ:St)(H:Hp)(xs ys:List V)(us ws:List Value)(Q:VK),#v[5]->Vals xs us->Vals ys ws->r xs ys H Q->#v[6] (call f us (ks.zip ws)) (EP X pins σ Q) X.xe s
def bAh(r:List V->List V->Hp->VK->Prop)(t tk:TA):TE:=λσ H Q=>t σ H λxs H1=>tk σ H1 λys H2=>r xs ys H2 Q
def aKi{X:Cx}{x:Str}{id:String}{ks:List Str}{r:List V->List V->Hp->VK->Prop}{e:Expr}{es:List Expr}{kws:List Keyword}{t tk:TA}{p pos:Pos}(hc:aO0 X (.builtin id) ks r)(hg:Gl X x)(hm:X.mg x=none)(hv:bootBuiltins x=some (.builtin id))(ha:PA X (e::es) t)(hkw:PK X kws tk)
  (hall:(backToKw pos (keywordEach kws X.env)).all (·.1.isSome)=true:=by rfl) (hks:(backToKw pos (keywordEach kws X.env)).filterMap (·.1)=ks:=by rfl) (hn:x≠"__name__":=by decide) (hdb:ND x:=by decide)
  (he:SE X e es:=by rfl) (hpl:(backTo pos (starEach (e::es) X.env)).any (·.1)=false:=by rfl) (hpk:(backToKw pos (keywordEach kws X.env)).any (·.1.isNone)=false:=by rfl):PE X (.Call (.Name x p) (e::es) kws pos) (bAh r t tk):=by
 intro pins s σ H Q I h;refine Hy (sI I hg hm hv ?_ hn hdb);refine Vx (thn (ha pos pins s σ H _ I h) λus s1 ⟨vs,H1,I1,r1,q1⟩=>?_) (by rw[he];rfl) hpl hall hpk;refine thn (hkw pos pins s1 σ H1 _ I1 q1) λws s2 ⟨zs,H2,I2,rz,q2⟩=>?_;rw[hks];exact hc pins s2 σ H2 vs zs us ws Q I2 r1 rz q2
def aXd(K:Ae):List V->List V->Hp->VK->Prop:=λxs ys H Q=>∃p ns d,xs=[.ref p]/\ys=[d]/\SqL K H p (ns.map V.int)/\(ns=[]->Q d H)/\∀m:Int,m∈ns->(∀a∈ns,a<=m)->Q (.int m) H
def aJe{X:Cx}(hc:X.calm=true):aO0 X (.builtin "max") ["default"] (aXd X.K):=by
 intro pins s σ H xs ys us ws Q I r rk h;obtain⟨p,ns,d,rfl,rfl,hq,q0,q1⟩:=h;obtain⟨u,rfl,ru⟩:=vals1 r;obtain⟨dv,rfl,rd⟩:=vals1 rk;cases ru;obtain⟨its,rv,pl,hz⟩:=I.list hq;have hi:IntsAre its ns:=intsAre_of rv;obtain⟨ys,e⟩:=hi.allInts.items;have hns:ns=ys.toList.map (·.1):=by rw[<-hi.numsOf, <-nums_intItems, <-e]
 have hl:=pl.isList;rw[e]at hl;have nm:(toString "max"++toString ".loop":String)="max.loop":=by decide
 refine kmb_tree F.kind_max F.plain_max F.entry_max (aJu _ _) ?_;show wpAny _ X.A.in1 (Ks "max" ["key","default"] 0 ⟨[],[(Ej "default",dv)]⟩>>=_) _ _ s;refine Aa (Ku (show Ks "max" ["key","default"] 0 ⟨[],[(Ej "default",dv)]⟩=pure [none,some dv] by rfl) (Aa (Ac ?_)));refine Aa (iter_intList hl λs₂ es st hfp hlI=>?_);refine Aa (Bh ?_);have apart:s₂.heap.objs.size∉[#v[0],p]:=λz=>Dw _ (hfp _ z);rw[nm];have W:=Ly (prog:=X.prog) (w:=X.w) (A:=X.A.in1) (I.ok.hd hc) #v[0] p hlI (intItems ys);refine Ac ⟨Da Hc _,aAg W (CmpOf.ints_gt (numAt ys) (λ_ _=>intItems_at)) apart _ 0 _ none _ (by rw[Ji]) (W.frame _ _ _ st λb _ o eb=>Ad _ eb) rfl (Al _ rfl) λv h' tk res kept=>?_⟩;subst es;have old:∀b o,s.heap.get? b=some o->h'.get? b=some o:=λb o eb=>by
  have lt:=Ap eb;refine kept b o (λz=>?_) (λz=>?_) (Ad _ (Ad _ eb))
  ·have z':=List.mem_singleton.mp z;exact absurd lt (by rw[z'];exact Dw _)
  ·rw[Cc]at z;exact absurd lt (by rw[z];exact Nat.not_lt.mpr (Ha _))
 rcases res with ⟨n0,rfl⟩|⟨_,_,i,hin,pv,best⟩
 ·refine⟨d,H,I.kept (t':=tk) old,rd,q0 ?_⟩;rw[hns];have:ys.size=0:=by simpa[intItems]using n0
  rw[List.map_eq_nil_iff, <-Aq]at*;exact List.eq_nil_of_length_eq_zero (by rw[Aq];exact this)
 ·obtain⟨t,rfl⟩:=intItems_at (by simpa[intItems]using pv);have hin':i<ys.size:=by simpa[intItems]using hin
  refine⟨.int _,H,I.kept (t':=tk) old,⟨t,rfl⟩,q1 _ ?_ λa ha=>?_⟩
  ·rw[hns,numAt_eq];exact getD_mem (by rw[Ab,Aq];lia)
  ·rw[hns]at ha;obtain⟨j,hj,rfl⟩:=mem_getD ha;rw[Ab,Aq]at hj;have:=best j (by simpa[intItems]using hj);rw[<-numAt_eq];exact this
inductive D where
 |fl (x:V)
 |tp (l:List D)
 |ls (l:List D)
mutual
def Den(K:Ae)(H:Hp):D->V->Prop
 |.fl x,v=>v=x/\rC x=true
 |.tp l,v=>∃a xs,v=.ref a/\SqT K H a xs/\xY K H l xs
 |.ls l,v=>∃a xs,v=.ref a/\SqL K H a xs/\xY K H l xs
def xY(K:Ae)(H:Hp):List D->List V->Prop
 | [],xs=>xs=[]
 |d::l,xs=>∃x r,xs=x::r/\Den K H d x/\xY K H l r
end
mutual
def D.eq:D->D->Bool
 |.fl x,.fl y=>eqV x y
 |.tp l,.tp m=>D.eqs l m
 |.ls l,.ls m=>D.eqs l m
 |_,_=>false
def D.eqs:List D->List D->Bool
 | [],[]=>true
 |x::l,y::m=>D.eq x y && D.eqs l m
 |_,_=>false
end
mutual
def D.dep:D->Nat
 |.fl _=>0
 |.tp l=>D.deps l+1
 |.ls l=>D.deps l+1
def D.deps:List D->Nat
 | []=>0
 |x::l=>max (D.dep x) (D.deps l)
end
section
variable {X:Cx}{pins:#v[9]}{σ:St}{H:Hp}{s:Shared}
def Inv.not_both{a:Addr}{xs ys:List V}(I:#v[5])(h:SqL X.K H a xs)(h':SqT X.K H a ys):False:=by
 obtain⟨its,r1,p1,_⟩:=I.list h;obtain⟨its2,r2,p2,_⟩:=I.tuple h';obtain⟨o,ho,hc,_⟩:=p1.isList;obtain⟨o2,ho2,hc2,_⟩:=p2;rw[ho]at ho2;cases ho2;rw[hc]at hc2;simp at hc2
mutual
theorem aBf(I:#v[5]):∀(d e:D){v:V},Den X.K H d v->Den X.K H e v->d.eq e=true
 |.fl x,.fl y,v,h,h'=>by
  obtain⟨rfl,f⟩:=h;obtain⟨rfl,_⟩:=h';rw[D.eq];exact aE7 f
 |.fl x,.tp m,v,h,h'=>by
  obtain⟨rfl,f⟩:=h;obtain⟨a,xs,rfl,_⟩:=h';exact(Ao f).elim
 |.fl x,.ls m,v,h,h'=>by
  obtain⟨rfl,f⟩:=h;obtain⟨a,xs,rfl,_⟩:=h';exact(Ao f).elim
 |.tp l,.fl x,v,h',h=>by
  obtain⟨rfl,f⟩:=h;obtain⟨a,xs,rfl,_⟩:=h';exact(Ao f).elim
 |.ls l,.fl x,v,h',h=>by
  obtain⟨rfl,f⟩:=h;obtain⟨a,xs,rfl,_⟩:=h';exact(Ao f).elim
 |.tp l,.tp m,v,h,h'=>by
  obtain⟨a,xs,rfl,h1,h2⟩:=h;obtain⟨b,ys,e,h3,h4⟩:=h';cases e;rw[I.tuple_inj h3 h1]at h4;rw[D.eq];exact xM I l m h2 h4
 |.ls l,.ls m,v,h,h'=>by
  obtain⟨a,xs,rfl,h1,h2⟩:=h;obtain⟨b,ys,e,h3,h4⟩:=h';cases e;rw[I.list_inj h3 h1]at h4;rw[D.eq];exact xM I l m h2 h4
 |.tp l,.ls m,v,h,h'=>by
  obtain⟨a,xs,rfl,h1,h2⟩:=h;obtain⟨b,ys,e,h3,h4⟩:=h';cases e;exact(I.not_both h3 h1).elim
 |.ls l,.tp m,v,h,h'=>by
  obtain⟨a,xs,rfl,h1,h2⟩:=h;obtain⟨b,ys,e,h3,h4⟩:=h';cases e;exact(I.not_both h1 h3).elim
theorem xM(I:#v[5]):∀(l m:List D){xs:List V},xY X.K H l xs->xY X.K H m xs->D.eqs l m=true
 | [],[],xs,h,h'=>by rw[D.eqs]
 | [],_::_,xs,h,h'=>by
  obtain⟨x,r,rfl,_⟩:=h';cases (show(x::r)=[]from h)
 |_::_,[],xs,h',h=>by
  obtain⟨x,r,rfl,_⟩:=h';cases (show(x::r)=[]from h)
 |d::l,e::m,xs,h,h'=>by
  obtain⟨x,r,rfl,h1,h2⟩:=h;obtain⟨y,r',q,h3,h4⟩:=h';cases q;rw[D.eqs,aBf I d e h1 h3,xM I l m h2 h4];rfl
end
mutual
theorem aOy(I:#v[5]):∀(d e:D){v v':V}{u u':Value}{A:Around},RelV v u->RelV v' u'->Den X.K H d v->Den X.K H e v'->A.units+d.dep+e.dep<cLine->Kl A s u u' (d.eq e)
 |.fl x,.fl y,v,v',u,u',A,r,r',h,h',hu=>by
  obtain⟨rfl,f⟩:=h;obtain⟨rfl,f'⟩:=h';rw[D.eq];exact aTw r r' f f'
 |.fl x,.tp m,v,v',u,u',A,r,r',h,h',hu=>by
  obtain⟨rfl,f⟩:=h;obtain⟨a,xs,rfl,hb,_⟩:=h';cases r';obtain⟨its2,r2,p2,_⟩:=I.tuple hb;rw[show D.eq (.fl v) (.tp m)=false by simp[D.eq]];have hu':A.units<cLine:=by lia
  cases v with
  |non=>cases r;exact SeqAt.EqAt.none_tuple p2 hu'
  |bl c=>cases r;exact SeqAt.EqAt.bool_tuple c p2 hu'
  |int c=>obtain⟨t,rfl⟩:=r;exact SeqAt.EqAt.int_tuple c t p2 hu'
  |str c=>obtain⟨t,rfl⟩:=r;exact SeqAt.EqAt.str_tuple c t p2 hu'
  |_=>exact(Ao f).elim
 |.fl x,.ls m,v,v',u,u',A,r,r',h,h',hu=>by
  obtain⟨rfl,f⟩:=h;obtain⟨a,xs,rfl,hb,_⟩:=h';cases r';obtain⟨its2,r2,p2,_⟩:=I.list hb;rw[show D.eq (.fl v) (.ls m)=false by simp[D.eq]];have hu':A.units<cLine:=by lia
  cases v with
  |non=>cases r;exact SeqAt.EqAt.none_list p2.isList hu'
  |bl c=>cases r;exact SeqAt.EqAt.bool_list c p2.isList hu'
  |int c=>obtain⟨t,rfl⟩:=r;exact SeqAt.EqAt.int_list c t p2.isList hu'
  |str c=>obtain⟨t,rfl⟩:=r;exact SeqAt.EqAt.str_list c t p2.isList hu'
  |_=>exact(Ao f).elim
 |.tp l,.fl x,v',v,u',u,A,r',r,h',h,hu=>by
  obtain⟨rfl,f⟩:=h;obtain⟨a,xs,rfl,hb,_⟩:=h';cases r';obtain⟨its2,r2,p2,_⟩:=I.tuple hb;rw[show D.eq (.tp l) (.fl v)=false by simp[D.eq]];have hu':A.units<cLine:=by lia
  cases v with
  |non=>cases r;exact SeqAt.EqAt.tuple_none p2 hu'
  |bl c=>cases r;exact SeqAt.EqAt.tuple_bool c p2 hu'
  |int c=>obtain⟨t,rfl⟩:=r;exact SeqAt.EqAt.tuple_int c t p2 hu'
  |str c=>obtain⟨t,rfl⟩:=r;exact SeqAt.EqAt.tuple_str c t p2 hu'
  |_=>exact(Ao f).elim
 |.ls l,.fl x,v',v,u',u,A,r',r,h',h,hu=>by
  obtain⟨rfl,f⟩:=h;obtain⟨a,xs,rfl,hb,_⟩:=h';cases r';obtain⟨its2,r2,p2,_⟩:=I.list hb;rw[show D.eq (.ls l) (.fl v)=false by simp[D.eq]];have hu':A.units<cLine:=by lia
  cases v with
  |non=>cases r;exact SeqAt.EqAt.list_none p2.isList hu'
  |bl c=>cases r;exact SeqAt.EqAt.list_bool c p2.isList hu'
  |int c=>obtain⟨t,rfl⟩:=r;exact SeqAt.EqAt.list_int c t p2.isList hu'
  |str c=>obtain⟨t,rfl⟩:=r;exact SeqAt.EqAt.list_str c t p2.isList hu'
  |_=>exact(Ao f).elim
 |.tp l,.ls m,v,v',u,u',A,r,r',h,h',hu=>by
  obtain⟨a,xs,rfl,h1,_⟩:=h;obtain⟨b,ys,rfl,h3,_⟩:=h';cases r;cases r';obtain⟨its,r1,p1,_⟩:=I.tuple h1;obtain⟨its2,r2,p2,_⟩:=I.list h3;rw[show D.eq (.tp l) (.ls m)=false by simp[D.eq]];exact SeqAt.EqAt.tuple_list p1 p2.isList ∅
 |.ls l,.tp m,v,v',u,u',A,r,r',h,h',hu=>by
  obtain⟨a,xs,rfl,h1,_⟩:=h;obtain⟨b,ys,rfl,h3,_⟩:=h';cases r;cases r';obtain⟨its,r1,p1,_⟩:=I.list h1;obtain⟨its2,r2,p2,_⟩:=I.tuple h3;rw[show D.eq (.ls l) (.tp m)=false by simp[D.eq]];exact SeqAt.EqAt.list_tuple p1.isList p2 ∅
 |.tp l,.tp m,v,v',u,u',A,r,r',h,h',hu=>by
  by_cases hab:v=v'
  ·subst hab;rw[aBf I _ _ h h'];rw[show u'=u from by obtain⟨a,xs,rfl,_⟩:=h;cases r;cases r';rfl];exact Lw _
  ·obtain⟨a,xs,rfl,h1,h2⟩:=h;obtain⟨b,ys,rfl,h3,h4⟩:=h';cases r;cases r';obtain⟨its,r1,p1,_⟩:=I.tuple h1;obtain⟨its2,r2,p2,_⟩:=I.tuple h3;rw[D.dep,D.dep]at hu;obtain⟨e,he,ee⟩:=wH (A:=A.in1) I l m r1 r2 h2 h4 (by show A.units+1+_+_<_;lia);have key:=Ov (A:=A) (s:=s) (l:=a) (b:=b) (items:=its.toArray) (items2:=its2.toArray) (e:=e) p1 p2 ∅ (λj g1 g2=>by
    have:=he j (by simpa using g1) (by simpa using g2);simpa using this)
   rw[Ai,Ai,ee]at key;rw[D.eq];exact Oh (λz=>hab (by rw[z])) key
 |.ls l,.ls m,v,v',u,u',A,r,r',h,h',hu=>by
  by_cases hab:v=v'
  ·subst hab;rw[aBf I _ _ h h'];rw[show u'=u from by obtain⟨a,xs,rfl,_⟩:=h;cases r;cases r';rfl];exact Lw _
  ·obtain⟨a,xs,rfl,h1,h2⟩:=h;obtain⟨b,ys,rfl,h3,h4⟩:=h';cases r;cases r';obtain⟨its,r1,p1,_⟩:=I.list h1;obtain⟨its2,r2,p2,_⟩:=I.list h3;rw[D.dep,D.dep]at hu;obtain⟨e,he,ee⟩:=wH (A:=A.in1) I l m r1 r2 h2 h4 (by show A.units+1+_+_<_;lia);rw[D.eq];refine Oh (λz=>hab (by rw[z])) ?_;by_cases hz:its.toArray.size=its2.toArray.size
   ·have key:=Pe (A:=A) (s:=s) (l:=a) (b:=b) (items:=its.toArray) (items2:=its2.toArray) (e:=e) p1.isList p2.isList hz ∅ (λj g1 g2=>by
     have:=he j (by simpa using g1) (by simpa using g2);simpa using this)
    rw[Ai,Ai]at hz;rw[<-hz,Wc,beq_self_eq_true,Ut]at ee;rw[Ai,ee]at key;exact key
   ·have hb':(its.length==its2.length)=false:=by simpa using hz
    rw[hb',Gs]at ee;rw[<-ee];exact SeqAt.RcAt.lists_lengths p1.isList p2.isList (by simpa using hz) ∅
theorem wH(I:#v[5]){A:Around}:∀(l m:List D){xs ys:List V}{us ws:List Value},Vals xs us->Vals ys ws->xY X.K H l xs->xY X.K H m ys->A.units+D.deps l+D.deps m<cLine->
  ∃e:Nat->Bool,(∀j(h1:j<us.length)(h2:j<ws.length),Kl A s us[j] ws[j] (e j))/\((Bk (min us.length ws.length)).all e && us.length==ws.length)=D.eqs l m
 | [],m,xs,ys,us,ws,r,r',h,h',hu=>by
  cases (show xs=[]from h);cases r;refine⟨λ_=>true,λj h1 _=>absurd h1 (Dk j),?_⟩;cases m with
  |nil=>cases (show ys=[]from h');cases r';rw[D.eqs];rfl
  |cons e m=>
   obtain⟨y,t,rfl,_⟩:=h';cases r';simp[D.eqs]
 |d::l,[],xs,ys,us,ws,r,r',h,h',hu=>by
  obtain⟨x,t,rfl,_⟩:=h;cases (show ys=[]from h');cases r;cases r';exact⟨λ_=>true,λj _ h1=>absurd h1 (Dk j),by simp[D.eqs]⟩
 |d::l,e::m,xs,ys,us,ws,r,r',h,h',hu=>by
  obtain⟨x,t,rfl,h1,h2⟩:=h;obtain⟨y,t',rfl,h3,h4⟩:=h';cases r with
  |@cons _ u0 _ us0 ru rus=>
  cases r' with
  |@cons _ w0 _ ws0 rw0 rws=>
  have hu1:A.units+d.dep+e.dep<cLine:=by
   rw[D.deps,D.deps]at hu;have:=Ky d.dep (D.deps l);have:=Ky e.dep (D.deps m)
   lia
  have hu2:A.units+D.deps l+D.deps m<cLine:=by
   rw[D.deps,D.deps]at hu;have:=Kf d.dep (D.deps l);have:=Kf e.dep (D.deps m)
   lia
  have E0:=aOy I d e (A:=A) ru rw0 h1 h3 hu1;obtain⟨e',he,ee⟩:=wH I l m rus rws h2 h4 hu2;refine⟨λj=>match j with|0=>d.eq e|j+1=>e' j,λj g1 g2=>?_,?_⟩
  ·cases j with
   |zero=>exact E0
   |succ j=>exact he j (by simpa using g1) (by simpa using g2)
  ·have hmin:min (u0::us0).length (w0::ws0).length=min us0.length ws0.length+1:=by
    rw[Am,Am]
    lia
   rw[hmin,sX,D.eqs, <-ee];show(d.eq e && (Bk (min us0.length ws0.length)).all e' && _)=_;rw[Bool.and_assoc];congr 2;rw[Kt];simp
end
end
def aTz{A:Around}{s:Shared}{y x:V}{u v:Value}(ry:RelV y u)(rx:RelV x v)(fy:rC y=true)(fx:rC x=true):Vv A s u v (eqV y x)/\Ud A s u v (!eqV y x):=by
 cases y<;>first|exact(Ao fy).elim|(cases x<;>first|exact(Ao fx).elim|skip)
 all_goals first|obtain⟨t1,rfl⟩:=ry|cases ry
 all_goals first|obtain⟨t2,rfl⟩:=rx|cases rx
 ·exact⟨.none_none,.none_none⟩
 ·exact⟨.none_bool _,.none_bool _⟩
 ·exact⟨.none_int _ _,.none_int _ _⟩
 ·exact⟨.none_str _ _,.none_str _ _⟩
 ·exact⟨.bool_none _,.bool_none _⟩
 ·exact⟨.bool_bool _ _,.bool_bool _ _⟩
 ·exact⟨.bool_int _ _ _,.bool_int _ _ _⟩
 ·exact⟨.bool_str _ _ _,.bool_str _ _ _⟩
 ·exact⟨.int_none _ _,.int_none _ _⟩
 ·exact⟨.int_bool _ _ _,.int_bool _ _ _⟩
 ·exact⟨.int_int _ _ _ _,.int_int _ _ _ _⟩
 ·exact⟨.int_str _ _ _ _,.int_str _ _ _ _⟩
 ·exact⟨.str_none _ _,.str_none _ _⟩
 ·exact⟨.str_bool _ _ _,.str_bool _ _ _⟩
 ·exact⟨.str_int _ _ _ _,.str_int _ _ _ _⟩
 ·exact⟨.str_str _ _ _ _,.str_str _ _ _ _⟩
section
variable {X:Cx}{pins:#v[9]}{σ:St}{H:Hp}{s:Shared}
def aL3(I:#v[5])(d e:D){v v':V}{u u':Value}{A:Around}(r:RelV v u)(r':RelV v' u')(h:Den X.K H d v)(h':Den X.K H e v')(hu:A.units+d.dep+e.dep<cLine):
  Vv A s u u' (d.eq e)/\Ud A s u u' (!d.eq e):=by
 have hu':A.units<cLine:=by lia
 match d,e,h,h',hu with
 |.fl x,.fl y,h,h',hu=>
  obtain⟨rfl,f⟩:=h;obtain⟨rfl,f'⟩:=h';rw[D.eq];exact aTz r r' f f'
 |.fl x,.tp m,h,h',hu=>
  obtain⟨rfl,f⟩:=h;obtain⟨a,xs,rfl,hb,_⟩:=h';cases r';obtain⟨its2,r2,p2,_⟩:=I.tuple hb;rw[show D.eq (.fl v) (.tp m)=false by simp[D.eq]];cases v with
  |non=>cases r;exact⟨.none_tuple p2 hu',.none_tuple p2 hu'⟩
  |bl c=>cases r;exact⟨.bool_tuple c p2 hu',.bool_tuple c p2 hu'⟩
  |int c=>obtain⟨t,rfl⟩:=r;exact⟨.int_tuple c t p2 hu',.int_tuple c t p2 hu'⟩
  |str c=>obtain⟨t,rfl⟩:=r;exact⟨.str_tuple c t p2 hu',.str_tuple c t p2 hu'⟩
  |_=>exact(Ao f).elim
 |.fl x,.ls m,h,h',hu=>
  obtain⟨rfl,f⟩:=h;obtain⟨a,xs,rfl,hb,_⟩:=h';cases r';obtain⟨its2,r2,p2,_⟩:=I.list hb;rw[show D.eq (.fl v) (.ls m)=false by simp[D.eq]];have p2:=p2.isList;cases v with
  |non=>cases r;exact⟨.none_list p2 hu',.none_list p2 hu'⟩
  |bl c=>cases r;exact⟨.bool_list c p2 hu',.bool_list c p2 hu'⟩
  |int c=>obtain⟨t,rfl⟩:=r;exact⟨.int_list c t p2 hu',.int_list c t p2 hu'⟩
  |str c=>obtain⟨t,rfl⟩:=r;exact⟨.str_list c t p2 hu',.str_list c t p2 hu'⟩
  |_=>exact(Ao f).elim
 |.tp m,.fl x,h',h,hu=>
  obtain⟨rfl,f⟩:=h;obtain⟨a,xs,rfl,hb,_⟩:=h';cases r;obtain⟨its2,r2,p2,_⟩:=I.tuple hb;rw[show D.eq (.tp m) (.fl v')=false by simp[D.eq]];cases v' with
  |non=>cases r';exact⟨.tuple_none p2 hu',.tuple_none p2 hu'⟩
  |bl c=>cases r';exact⟨.tuple_bool c p2 hu',.tuple_bool c p2 hu'⟩
  |int c=>obtain⟨t,rfl⟩:=r';exact⟨.tuple_int c t p2 hu',.tuple_int c t p2 hu'⟩
  |str c=>obtain⟨t,rfl⟩:=r';exact⟨.tuple_str c t p2 hu',.tuple_str c t p2 hu'⟩
  |_=>exact(Ao f).elim
 |.ls m,.fl x,h',h,hu=>
  obtain⟨rfl,f⟩:=h;obtain⟨a,xs,rfl,hb,_⟩:=h';cases r;obtain⟨its2,r2,p2,_⟩:=I.list hb;rw[show D.eq (.ls m) (.fl v')=false by simp[D.eq]];have p2:=p2.isList;cases v' with
  |non=>cases r';exact⟨.list_none p2 hu',.list_none p2 hu'⟩
  |bl c=>cases r';exact⟨.list_bool c p2 hu',.list_bool c p2 hu'⟩
  |int c=>obtain⟨t,rfl⟩:=r';exact⟨.list_int c t p2 hu',.list_int c t p2 hu'⟩
  |str c=>obtain⟨t,rfl⟩:=r';exact⟨.list_str c t p2 hu',.list_str c t p2 hu'⟩
  |_=>exact(Ao f).elim
 |.tp l,.ls m,h,h',hu=>
  obtain⟨a,xs,rfl,h1,_⟩:=h;obtain⟨b,ys,rfl,h3,_⟩:=h';cases r;cases r';obtain⟨its,r1,p1,_⟩:=I.tuple h1;obtain⟨its2,r2,p2,_⟩:=I.list h3;rw[show D.eq (.tp l) (.ls m)=false by simp[D.eq]];exact⟨.tuple_list p1 p2.isList hu',.tuple_list p1 p2.isList hu'⟩
 |.ls l,.tp m,h,h',hu=>
  obtain⟨a,xs,rfl,h1,_⟩:=h;obtain⟨b,ys,rfl,h3,_⟩:=h';cases r;cases r';obtain⟨its,r1,p1,_⟩:=I.list h1;obtain⟨its2,r2,p2,_⟩:=I.tuple h3;rw[show D.eq (.ls l) (.tp m)=false by simp[D.eq]];exact⟨.list_tuple p1.isList p2 hu',.list_tuple p1.isList p2 hu'⟩
 |.tp l,.tp m,h,h',hu=>
  obtain⟨a,xs,rfl,h1,h2⟩:=h;obtain⟨b,ys,rfl,h3,h4⟩:=h';cases r;cases r';obtain⟨its,r1,p1,_⟩:=I.tuple h1;obtain⟨its2,r2,p2,_⟩:=I.tuple h3;rw[D.dep,D.dep]at hu;obtain⟨e,he,ee⟩:=wH (A:=A.in1) I l m r1 r2 h2 h4 (by show A.units+1+_+_<_;lia);have hj:∀j(g1:j<its.toArray.size)(g2:j<its2.toArray.size),Kl A.in1 s its.toArray[j] its2.toArray[j] (e j):=λj g1 g2=>by
   have:=he j (by simpa using g1) (by simpa using g2);simpa using this
  have k1:=Ov p1 p2 hu' hj;have k2:=Vt p1 p2 hu' hj;rw[Ai,Ai,ee]at k1 k2;rw[D.eq];exact⟨k1,k2⟩
 |.ls l,.ls m,h,h',hu=>
  obtain⟨a,xs,rfl,h1,h2⟩:=h;obtain⟨b,ys,rfl,h3,h4⟩:=h';cases r;cases r';obtain⟨its,r1,p1,_⟩:=I.list h1;obtain⟨its2,r2,p2,_⟩:=I.list h3;rw[D.dep,D.dep]at hu;obtain⟨e,he,ee⟩:=wH (A:=A.in1) I l m r1 r2 h2 h4 (by show A.units+1+_+_<_;lia);have hj:∀j(g1:j<its.toArray.size)(g2:j<its2.toArray.size),Kl A.in1 s its.toArray[j] its2.toArray[j] (e j):=λj g1 g2=>by
   have:=he j (by simpa using g1) (by simpa using g2);simpa using this
  rw[D.eq];by_cases hz:its.toArray.size=its2.toArray.size
  ·have k1:=Pe p1.isList p2.isList hz hu' hj;have k2:=Vu p1.isList p2.isList hz hu' hj;rw[Ai,Ai]at hz;rw[<-hz,Wc,beq_self_eq_true,Ut]at ee;rw[Ai,ee]at k1 k2;exact⟨k1,k2⟩
  ·have hb':(its.length==its2.length)=false:=by simpa using hz
   rw[hb',Gs]at ee;rw[<-ee];exact⟨.lists_lengths p1.isList p2.isList (by simpa using hz) hu',.lists_lengths p1.isList p2.isList (by simpa using hz) hu'⟩
def Den.inj(I:#v[5]):∀(d:D)(e:D){v:V},Den X.K H d v->Den X.K H e v->d=e:=by
 have key:∀(n:Nat)(d e:D){v:V},d.dep<=n->Den X.K H d v->Den X.K H e v->d=e:=by
  intro n;induction n with
  |zero=>
   intro d e v hn h h';match d,e,h,h',hn with
   |.fl x,.fl y,h,h',_=>rw[<-h.1, <-h'.1]
   |.fl x,.tp m,h,h',_=>obtain⟨rfl,f⟩:=h;obtain⟨a,xs,rfl,_⟩:=h';exact(Ao f).elim
   |.fl x,.ls m,h,h',_=>obtain⟨rfl,f⟩:=h;obtain⟨a,xs,rfl,_⟩:=h';exact(Ao f).elim
   |.tp l,_,_,_,hn=>rw[D.dep]at hn;lia
   |.ls l,_,_,_,hn=>rw[D.dep]at hn;lia
  |succ n ih=>
   have items:∀(l m:List D){xs:List V},D.deps l<=n->xY X.K H l xs->xY X.K H m xs->l=m:=by
    intro l;induction l with
    |nil=>
     intro m xs _ h h';cases (show xs=[]from h);cases m with
     |nil=>rfl
     |cons e m=>obtain⟨y,t,q,_⟩:=h';cases q
    |cons d l il=>
     intro m xs hn h h';obtain⟨x,t,rfl,h1,h2⟩:=h;cases m with
     |nil=>cases (show(x::t)=[]from h')
     |cons e m=>
      obtain⟨y,t',q,h3,h4⟩:=h';cases q;rw[D.deps]at hn;have a1:=Ky d.dep (D.deps l);have a2:=Kf d.dep (D.deps l);rw[ih d e ∅ h1 h3,il m ∅ h2 h4]
   intro d e v hn h h';match d,e,h,h',hn with
   |.fl x,.fl y,h,h',_=>rw[<-h.1, <-h'.1]
   |.fl x,.tp m,h,h',_=>obtain⟨rfl,f⟩:=h;obtain⟨a,xs,rfl,_⟩:=h';exact(Ao f).elim
   |.fl x,.ls m,h,h',_=>obtain⟨rfl,f⟩:=h;obtain⟨a,xs,rfl,_⟩:=h';exact(Ao f).elim
   |.tp m,.fl x,h',h,_=>obtain⟨rfl,f⟩:=h;obtain⟨a,xs,rfl,_⟩:=h';exact(Ao f).elim
   |.ls m,.fl x,h',h,_=>obtain⟨rfl,f⟩:=h;obtain⟨a,xs,rfl,_⟩:=h';exact(Ao f).elim
   |.tp l,.ls m,h,h',_=>obtain⟨a,xs,rfl,h1,_⟩:=h;obtain⟨b,ys,e,h3,_⟩:=h';cases e;exact(I.not_both h3 h1).elim
   |.ls l,.tp m,h,h',_=>obtain⟨a,xs,rfl,h1,_⟩:=h;obtain⟨b,ys,e,h3,_⟩:=h';cases e;exact(I.not_both h1 h3).elim
   |.tp l,.tp m,h,h',hn=>
    obtain⟨a,xs,rfl,h1,h2⟩:=h;obtain⟨b,ys,e,h3,h4⟩:=h';cases e;rw[I.tuple_inj h3 h1]at h4;rw[D.dep]at hn;rw[items l m ∅ h2 h4]
   |.ls l,.ls m,h,h',hn=>
    obtain⟨a,xs,rfl,h1,h2⟩:=h;obtain⟨b,ys,e,h3,h4⟩:=h';cases e;rw[I.list_inj h3 h1]at h4;rw[D.dep]at hn;rw[items l m ∅ h2 h4]
 exactλd e v h h'=>key _ d e (Ak _) h h'
inductive aSj(K:Ae)(neg:Bool)(x:V)(y:V)(H:Hp)(Q:VK):Prop
 |mk (d e:_) (q0_:Den K H d x) (q1_:Den K H e y) (q2_:d.dep+e.dep<=100) (q3_:Q (.bl (if neg then !d.eq e else d.eq e)) H):aSj K neg x y H Q
def aUp(K:Ae)(neg:Bool):R2:=λx y H Q=>aSj K neg x y H Q
def dO(hu:X.A.units+101<cLine):OpR X (compareOp .Eq) (aUp X.K false):=by
 intro pins s σ H x y v u Q I rx ry h;obtain⟨d,e,h1,h2,hd,q⟩:=h;exact(aL3 (A:=X.A) I d e rx ry h1 h2 ∅).1 _ _ _ _ ⟨.bl _,H,I,rfl,q⟩
def kY(hu:X.A.units+101<cLine):OpR X (compareOp .NotEq) (aUp X.K true):=by
 intro pins s σ H x y v u Q I rx ry h;obtain⟨d,e,h1,h2,hd,q⟩:=h;exact(aL3 (A:=X.A) I d e rx ry h1 h2 ∅).2 _ _ _ _ ⟨.bl _,H,I,rfl,q⟩
inductive aSe(K:Ae)(neg:Bool)(x:V)(y:V)(H:Hp)(Q:VK):Prop
 |mk (d p xs l:_) (q0_:Den K H d x) (q1_:y=.ref p) (q2_:(SqL K H p xs∨SqT K H p xs)) (q3_:xY K H l xs) (q4_:d.dep+D.deps l<=99) (q5_:Q (.bl (if neg then !(l.any λe=>e.eq d)else l.any λe=>e.eq d)) H):aSe K neg x y H Q
def aVk(K:Ae)(neg:Bool):R2:=λx y H Q=>aSe K neg x y H Q
open Classical in
def tW(I:#v[5]){d:D}{x:V}{v:Value}(rx:RelV x v)(hx:Den X.K H d x){A:Around}:∀{l:List D}{xs:List V}{us:List Value},Vals xs us->xY X.K H l xs->A.units+d.dep+D.deps l<cLine->
  ∃e:Value->Bool,(e=λw=>decide (∃d' x',RelV x' w/\Den X.K H d' x'/\d'.eq d=true))/\(∀w∈us,Kl A s w v (e w))/\us.any e=l.any λe=>e.eq d:=by
 intro l;induction l with
 |nil=>
  intro xs us r h hu;cases (show xs=[]from h);cases r;exact⟨_,rfl,λw hw=>(by cases hw),rfl⟩
 |cons d0 l ih=>
  intro xs us r h hu;obtain⟨x0,t,rfl,h1,h2⟩:=h;cases r with
  |@cons _ u0 _ us0 r0 rr=>
  rw[D.deps]at hu;have a1:=Ky d0.dep (D.deps l);have a2:=Kf d0.dep (D.deps l);obtain⟨e,ee,i1,i2⟩:=ih rr h2 ∅;have e0:e u0=d0.eq d:=by
   rw[ee];by_cases hq:d0.eq d=true
   ·rw[hq];exact decide_eq_true ⟨d0,x0,r0,h1,hq⟩
   ·rw[Bool.not_eq_true]at hq;rw[hq];refine decide_eq_false ?_;rintro⟨d',x',r',h',q'⟩;cases RelV.inj r' r0;rw[Den.inj I d' d0 h' h1,hq]at q';cases q'
  refine⟨e,ee,λw hw=>?_,?_⟩
  ·rcases List.mem_cons.mp hw with rfl|hw
   ·rw[e0];exact aOy I d0 d r0 rx h1 hx ∅
   ·exact i1 w hw
  ·rw[Fp,Fp,i2,e0]
def aMl(hu:X.A.units+101<cLine):OpR X (compareOp .In) (aVk X.K false):=by
 intro pins s σ H x y v u Q I rx ry h;obtain⟨d,p,xs,l,h1,rfl,hq,h2,hd,q⟩:=h;cases ry;rcases hq with hq|hq
 ·obtain⟨its,r,pl,hz⟩:=I.list hq;obtain⟨e,_,i1,i2⟩:=tW (A:=X.A.in1) I rx h1 r h2 (by show X.A.units+1+_+_<_;lia);refine SeqAt.in_listAt e pl.isList (λw hw=>i1 w (by simpa using hw)) ⟨.bl _,H,I,rfl,?_⟩;rw[show its.toArray.any e=its.any e by simp,i2];exact q
 ·obtain⟨its,r,pl,hz⟩:=I.tuple hq;obtain⟨e,_,i1,i2⟩:=tW (A:=X.A.in1) I rx h1 r h2 (by show X.A.units+1+_+_<_;lia);refine SeqAt.in_tupleAt e pl (λw hw=>i1 w (by simpa using hw)) ⟨.bl _,H,I,rfl,?_⟩;rw[show its.toArray.any e=its.any e by simp,i2];exact q
def tZ(hu:X.A.units+101<cLine):OpR X (compareOp .NotIn) (aVk X.K true):=by
 intro pins s σ H x y v u Q I rx ry h;obtain⟨d,p,xs,l,h1,rfl,hq,h2,hd,q⟩:=h;cases ry;rcases hq with hq|hq
 ·obtain⟨its,r,pl,hz⟩:=I.list hq;obtain⟨e,_,i1,i2⟩:=tW (A:=X.A.in1) I rx h1 r h2 (by show X.A.units+1+_+_<_;lia);refine SeqAt.notIn_listAt e pl.isList (λw hw=>i1 w (by simpa using hw)) ⟨.bl _,H,I,rfl,?_⟩;rw[show its.toArray.any e=its.any e by simp,i2];exact q
 ·obtain⟨its,r,pl,hz⟩:=I.tuple hq;obtain⟨e,_,i1,i2⟩:=tW (A:=X.A.in1) I rx h1 r h2 (by show X.A.units+1+_+_<_;lia);refine SeqAt.notIn_tupleAt e pl (λw hw=>i1 w (by simpa using hw)) ⟨.bl _,H,I,rfl,?_⟩;rw[show its.toArray.any e=its.any e by simp,i2];exact q
end
mutual
def uY(Av:Addr->Prop)(H:Hp):D->V->Prop
 |.fl x,v=>v=x/\rC x=true
 |.tp l,v=>∃p xs,v=.ref p/\H p=some (.tup xs)/\eX Av H l xs
 |.ls l,v=>∃p xs,v=.ref p/\¬Av p/\H p=some (.lst xs)/\eX Av H l xs
def eX(Av:Addr->Prop)(H:Hp):List D->List V->Prop
 | [],xs=>xs=[]
 |d::l,xs=>∃x r,xs=x::r/\uY Av H d x/\eX Av H l r
end
variable {Av:Addr->Prop}{H H':Hp}
mutual
theorem uY.mono(k1:∀b xs,H b=some (.tup xs)->H' b=some (.tup xs))(k2:∀b xs,¬Av b->H b=some (.lst xs)->H' b=some (.lst xs)):∀(d:D){v:V},uY Av H d v->uY Av H' d v
 |.fl x,v,h=>h
 |.tp l,v,h=>by
  obtain⟨p,xs,e,hp,t⟩:=h;exact⟨p,xs,e,k1 _ _ hp,eX.mono k1 k2 l t⟩
 |.ls l,v,h=>by
  obtain⟨p,xs,e,n,hp,t⟩:=h;exact⟨p,xs,e,n,k2 _ _ n hp,eX.mono k1 k2 l t⟩
theorem eX.mono(k1:∀b xs,H b=some (.tup xs)->H' b=some (.tup xs))(k2:∀b xs,¬Av b->H b=some (.lst xs)->H' b=some (.lst xs)):∀(l:List D){xs:List V},eX Av H l xs->eX Av H' l xs
 | [],xs,h=>h
 |d::l,xs,h=>by
  obtain⟨x,r,e,h1,h2⟩:=h;exact⟨x,r,e,uY.mono k1 k2 d h1,eX.mono k1 k2 l h2⟩
end
mutual
theorem uY.den(K:Ae):∀(d:D){v:V},uY Av H d v->Den K H d v
 |.fl x,v,h=>h
 |.tp l,v,h=>by
  obtain⟨p,xs,e,hp,t⟩:=h;exact⟨p,xs,e,SqT.of hp,eX.dens K l t⟩
 |.ls l,v,h=>by
  obtain⟨p,xs,e,n,hp,t⟩:=h;exact⟨p,xs,e,SqL.of hp,eX.dens K l t⟩
theorem eX.dens(K:Ae):∀(l:List D){xs:List V},eX Av H l xs->xY K H l xs
 | [],xs,h=>h
 |d::l,xs,h=>by
  obtain⟨x,r,e,h1,h2⟩:=h;exact⟨x,r,e,uY.den K d h1,eX.dens K l h2⟩
end
mutual
theorem uY.weak{Bv:Addr->Prop}(k:∀b,Bv b->Av b):∀(d:D){v:V},uY Av H d v->uY Bv H d v
 |.fl x,v,h=>h
 |.tp l,v,h=>by
  obtain⟨p,xs,e,hp,t⟩:=h;exact⟨p,xs,e,hp,eX.weak k l t⟩
 |.ls l,v,h=>by
  obtain⟨p,xs,e,n,hp,t⟩:=h;exact⟨p,xs,e,λz=>n (k p z),hp,eX.weak k l t⟩
theorem eX.weak{Bv:Addr->Prop}(k:∀b,Bv b->Av b):∀(l:List D){xs:List V},eX Av H l xs->eX Bv H l xs
 | [],xs,h=>h
 |d::l,xs,h=>by
  obtain⟨x,r,e,h1,h2⟩:=h;exact⟨x,r,e,uY.weak k d h1,eX.weak k l h2⟩
end
mutual
theorem uY.refl:∀(d:D){v:V},uY Av H d v->d.eq d=true
 |.fl x,v,h=>by
  rw[D.eq];exact aE7 h.2
 |.tp l,v,h=>by
  obtain⟨p,xs,e,hp,t⟩:=h;rw[D.eq];exact eX.refl l t
 |.ls l,v,h=>by
  obtain⟨p,xs,e,n,hp,t⟩:=h;rw[D.eq];exact eX.refl l t
theorem eX.refl:∀(l:List D){xs:List V},eX Av H l xs->D.eqs l l=true
 | [],xs,h=>by rw[D.eqs]
 |d::l,xs,h=>by
  obtain⟨x,r,e,h1,h2⟩:=h;rw[D.eqs,uY.refl d h1,eX.refl l h2];rfl
end
structure Cal(P:Program)(w:World)(K:Ae)(mg:Str->#v[14])(base:Heap)(CX:CXT)(k:Nat)(x:Str)(ps:List Str)(sp:Sp):Prop where
 ex:∃f fd,bI P w K mg base CX k f fd ps sp/\mg x=some (.ref f)/\Gj K (.ref f)=true/\Binds K fd ps []
def aV0{X:Cx}{CX:CXT}{x:Str}{sp:Sp}{E:XK}{e:Expr}{es:List Expr}{t:TA}{p pos:Pos}(C:Cal X.prog X.w X.K X.mg X.base CX k x ps sp)(hr:cW k X.A)(hg:Gl X x)(hx:rM CX X E)
  (ha:PA X (e::es) t) (hdb:ND x:=by decide) (he:SE X e es:=by rfl) (hpl:BT X pos es:=by rfl):
  PE X (.Call (.Name x p) (e::es) [] pos) (aSo sp [] E t):=by
 obtain⟨f,fd,F,hm,hk,hb⟩:=C.ex;exact aRt F hr hg hm hk hb .nil hx ha hdb he hpl
abbrev pQ(scope sc0:Scope)(cap:#v[12])(N:List Str):Prop:=scope.kind=.function/\(∀y∈scope.names,y.2≠.cell)/\(∀y∈scope.names,y.2=.local->scope.names.lookup y.1=some .local)/\
 (∀y∈scope.names,y.2=.free->sc0.names.lookup y.1=some .cell)/\(∀p∈cap,N[p.2]? =some p.1/\scope.names.lookup p.1=some .free/\sc0.names.lookup p.1=some .cell)
def aIy{cap:#v[12]}{sc0:Scope}{N0:List Str}(hs:X.env.scope=sc0)(hN:X.N=N0)(hcell:HC X)(ok:pQ scope sc0 cap N0):∃cl,cR X scope cap cl:=by
 subst hs hN;exact aGj hcell ok.1 ok.2.1 ok.2.2.1 ok.2.2.2.1 ok.2.2.2.2
def aXt{own:List Str}{cap:#v[12]}(sc0:Scope)(N0:List Str)(hsc:X.env.scope=sc0)(hN:X.N=N0)(hcell:HC X)
  (ok:pQ scope sc0 cap N0) (hc:X.calm=true) (hi:PI X tg iter wi)
  (hg:∀cl C s2 H2 fp,PG #v[3] tg g) (he:∀cl C s2 H2 fp,PE #v[3] elt te)
  (hs:FS X iter:=by intro _;rfl):PE X #v[11] (aBi own.length cap wi g te):=by
 obtain⟨cl,S⟩:=aIy hsc hN hcell ok;exact aIf S hc hi (hg cl) (he cl) hs
def aUt{elt iter tg ci:Expr}{own:List Str}{cap:#v[12]}(sc0:Scope)(N0:List Str)(hsc:X.env.scope=sc0)(hN:X.N=N0)(hcell:HC X)
  (ok:pQ scope sc0 cap N0) (hc:X.calm=true) (hi:PI X tg iter wi)
  (hg:∀cl C s2 H2 fp,PG #v[3] tg g) (htc:∀cl C s2 H2 fp,PT #v[3] ci tc) (he:∀cl C s2 H2 fp,PE #v[3] elt te)
  (hs:FS X iter:=by intro _;rfl):PE X #v[10] (rA own.length cap wi g tc te):=by
 obtain⟨cl,S⟩:=aIy hsc hN hcell ok;exact aGa S hc hi (hg cl) (htc cl) (he cl) hs
def aW7{x:Str}{own:List Str}{cap:#v[12]}{pos spos py:Pos}(hnd:X.N.Nodup)(hi':X.N[i]? =some x)(hx:Loc X.env.scope x)
  (sc0:Scope) (N0:List Str) (hsc:X.env.scope=sc0) (hN:X.N=N0) (hcell:HC X)
  (ok:pQ scope sc0 cap N0) (hc:X.calm=true) (hi:PI X tg iter wi)
  (hg:∀cl C s2 H2 fp,PG #v[3] tg g) (he:∀cl C s2 H2 fp,PE #v[3] elt te)
  (hsw:swapsWith #v[11] (some (.Name x py)) spos.line X.env=pure true:=by rfl)
  (hs:FS X iter:=by intro _;rfl) (hf:FL X x:=by trivial):
  PS X (.Assign [.Name x py] #v[11] spos) (aDk (aBi own.length cap wi g te) (mU i)):=by
 obtain⟨cl,S⟩:=aIy hsc hN hcell ok;exact aHk hnd hi' hx S hc hi (hg cl) (he cl) hsw hs hf
def aTy{x:Str}{elt iter tg ci:Expr}{own:List Str}{cap:#v[12]}{pos spos py:Pos}(hnd:X.N.Nodup)(hi':X.N[i]? =some x)(hx:Loc X.env.scope x)
  (sc0:Scope) (N0:List Str) (hsc:X.env.scope=sc0) (hN:X.N=N0) (hcell:HC X)
  (ok:pQ scope sc0 cap N0) (hc:X.calm=true) (hi:PI X tg iter wi)
  (hg:∀cl C s2 H2 fp,PG #v[3] tg g) (htc:∀cl C s2 H2 fp,PT #v[3] ci tc) (he:∀cl C s2 H2 fp,PE #v[3] elt te)
  (hsw:swapsWith #v[10] (some (.Name x py)) spos.line X.env=pure true:=by rfl)
  (hs:FS X iter:=by intro _;rfl) (hf:FL X x:=by trivial):
  PS X (.Assign [.Name x py] #v[10] spos) (aDk (rA own.length cap wi g tc te) (mU i)):=by
 obtain⟨cl,S⟩:=aIy hsc hN hcell ok;exact aE2 hnd hi' hx S hc hi (hg cl) (htc cl) (he cl) hsw hs hf
abbrev aD9(scope sc0:Scope)(cap:#v[12])(N:List Str):Prop:=scope.kind=.function/\(∀y∈scope.names,y.2=.local->scope.names.lookup y.1=some .local)/\
 (∀y∈scope.names,y.2=.free->sc0.names.lookup y.1=some .cell)/\(∀p∈cap,¬(p.1,Dj)∈scope.names)/\(∀p∈cap,N[p.2]? =some p.1/\scope.names.lookup p.1=some .free/\sc0.names.lookup p.1=some .cell)
abbrev aUc(scope fsc:Scope)(x:Str):Prop:=scope.names.lookup x=some .cell∨(scope.names.lookup x=some .free/\fsc.names.lookup x=some .cell)
abbrev aAa(isc scope fsc:Scope)(icap:#v[12])(N:List Str):Prop:=isc.kind=.function/\(∀y∈isc.names,y.2≠.cell)/\(∀y∈isc.names,y.2=.local->isc.names.lookup y.1=some .local)/\
 (∀y∈isc.names,y.2=.free->aUc scope fsc y.1)/\(∀p∈icap,N[p.2]? =some p.1/\isc.names.lookup p.1=some .free/\aUc scope fsc p.1)
theorem vM{env:Env}:∀{names:List (Str×NameKind)}{x:Str},names.lookup x=some .cell->
  (names.map λ(n,k)=>if(k==Dd && env.scope.kind== .function && env.kindOf n==some .cell)then(n,Dj)else(n,k)).lookup x=some .cell
 | [],_,h=>by simp at h
 |(n,k)::r,x,h=>by
  have ih:=@vM env r x;show Fm x ((if(k==Dd && env.scope.kind== .function && env.kindOf n==some .cell)=true then(n,Dj)else(n,k))::_)=_;cases hx:x==n with
  |true=>
   simp only[Be,hx]at h;cases h;rw[if_neg (by simp)];simp[Be,hx]
  |false=>
   simp only[Be,hx]at h;by_cases hcc:(k==Dd && env.scope.kind== .function && env.kindOf n==some .cell)=true
   ·rw[if_pos hcc];simp only[Be,hx];exact ih h
   ·rw[if_neg hcc];simp only[Be,hx];exact ih h
def aO4{cap:#v[12]}{sc0:Scope}{N0:List Str}(hs:X.env.scope=sc0)(hN:X.N=N0)(hcell:HC X)(ok:aD9 scope sc0 cap N0):∃cl,mJ X scope cap cl:=by
 subst hs hN;obtain⟨k,nm,fr,cn,cp⟩:=ok;obtain⟨cl,e,a,b⟩:=pB X.env scope.names [] (λy hy hf=>hcell _ (fr y hy hf)) (λx c h=>by simp at h);refine⟨cl,?_,k,nm,a,λx hx=>b x (.inr (Cb hx)),cn,cp⟩;unfold closureFor;refine Wk ?_ e;simp only[bind_pure]
def aI7{scope isc fsc:Scope}{s2:Shared}{H2:Hp}(cf:cD X scope cs)(hfs:X.env.scope=fsc)(hk:fsc.kind=.function)(ok:aAa isc scope fsc icap Nc):
  ∃cl,cR (bA X Nc scope cs C s2 H2 fp) isc icap cl:=by
 subst hfs;obtain⟨k,nc,nm,fr,cp⟩:=ok;have up:∀x,aUc scope X.env.scope x->(relabel scope X.env).names.lookup x=some .cell:=λx h=>by
  rcases h with h|⟨h,h'⟩
  ·exact vM h
  ·exact fZ hk h h'
 obtain⟨cl,e,a,b⟩:=pB (bA X Nc scope cs C s2 H2 fp).env isc.names [] (λy hy hf=>cf _ (fr y hy hf)) (λx c h=>by simp at h);refine⟨cl,?_,k,nc,nm,a,λx hx=>b x (.inr (Cb hx)),λp hp=>⟨(cp p hp).1,(cp p hp).2.1,up _ (cp p hp).2.2⟩⟩;unfold closureFor;refine Wk ?_ e;simp only[bind_pure]
def aQ6{elt iter tg ci:Expr}{scope isc:Scope}{s2:Shared}{H2:Hp}{own:List Str}(fsc:Scope)(cf:cD X scope cs)(hfs:X.env.scope=fsc)(hk:fsc.kind=.function)
  (ok:aAa isc scope fsc icap Nc) (hc:X.calm=true) (hi:PI (bA X Nc scope cs C s2 H2 fp) tg iter wi)
  (hg:∀cl C' s3 H3 fp',PG (aY (bA X Nc scope cs C s2 H2 fp) (bV own icap) isc cl C' s3 H3 fp') tg g) (htc:∀cl C' s3 H3 fp',PT (aY (bA X Nc scope cs C s2 H2 fp) (bV own icap) isc cl C' s3 H3 fp') ci tc)
  (he:∀cl C' s3 H3 fp',PE (aY (bA X Nc scope cs C s2 H2 fp) (bV own icap) isc cl C' s3 H3 fp') elt te)
  (hs:∀x,foldedSetIterable iter (bA X Nc scope cs C s2 H2 fp).env x=pure x:=by intro _;rfl):PE (bA X Nc scope cs C s2 H2 fp) (.ListComp elt [⟨tg,iter,[ci],0⟩] isc pos) (rA own.length icap wi g tc te):=by
 obtain⟨cl,S⟩:=aI7 (C:=C) (s2:=s2) (H2:=H2) (fp:=fp) cf hfs hk ok;exact aGa S hc hi (hg cl) (htc cl) (he cl) hs
section
variable {X:Cx}{B:St->Hp->Prop}{R:Hp->V->Prop}
end
def aNn(K:Ae):List V->Hp->VK->Prop:=λxs H Q=>∃p ys,xs=[.ref p]/\(SqL K H p ys∨SqT K H p ys)/\∀l,H l=none->Q (.ref l) (upd H l (.lst ys))
def aIz(K:Ae):List V->Hp->VK->Prop:=λxs H Q=>∃p ys,xs=[.ref p]/\((SqL K H p ys/\∀l,H l=none->Q (.ref l) (upd H l (.tup ys)))∨(SqT K H p ys/\Q (.ref p) H))
def mQ{X:Cx}{K:Ae}(h:X.K=K):dY X (.type "list") (aNn K):=by
 subst h;exact aEi
def yM{X:Cx}{K:Ae}(h:X.K=K):dY X (.type "tuple") (aIz K):=by
 subst h;exact aBv
def aX6(_ j:Int):Prop:=0<j/\j<2 ^ 62
def aA2:OpR X (binaryOp .FloorDiv) (rI aX6 λi j=> .int (i / j)):=opI λi j _ _ _ _ _ hc q=>by
 have h1:(0:Int)<j:=hc.1;have h2:j<2 ^ 62:=hc.2;refine floordiv_int ∅ (by rw[Int.fdiv_eq_ediv_of_nonneg i ∅];exact q) (.inl (PyProof.noPylong_of_log2 ?_));have h3:j.natAbs<2 ^ 62:=by lia
 have:=(Nat.log2_lt ∅).mpr h3
 lia
variable {K:Ae}
def aUl{scope isc:Scope}{s2:Shared}{H2:Hp}{own:List Str}(fsc:Scope)(cf:cD X scope cs)(hfs:X.env.scope=fsc)(hk:fsc.kind=.function)
  (ok:aAa isc scope fsc icap Nc) (hc:X.calm=true) (hi:PI (bA X Nc scope cs C s2 H2 fp) tg iter wi)
  (hg:∀cl C' s3 H3 fp',PG (aY (bA X Nc scope cs C s2 H2 fp) (bV own icap) isc cl C' s3 H3 fp') tg g) (he:∀cl C' s3 H3 fp',PE (aY (bA X Nc scope cs C s2 H2 fp) (bV own icap) isc cl C' s3 H3 fp') elt te)
  (hs:∀x,foldedSetIterable iter (bA X Nc scope cs C s2 H2 fp).env x=pure x:=by intro _;rfl):PE (bA X Nc scope cs C s2 H2 fp) (.ListComp elt [⟨tg,iter,[],0⟩] isc pos) (aBi own.length icap wi g te):=by
 obtain⟨cl,S⟩:=aI7 (C:=C) (s2:=s2) (H2:=H2) (fp:=fp) cf hfs hk ok;exact aIf S hc hi (hg cl) (he cl) hs
def aGg{x:Str}{own:List Str}{cap:#v[12]}{pos spos py:Pos}
  (hN:X.N.Nodup) (hi':X.N[i]? =some x) (hx:Loc X.env.scope x) (S:mJ X scope cap cl) (hc:X.calm=true) (hi:PI X tg iter wi) (gm:∀x σ H(Q Q':St->Hp->Prop),(∀σ H,Q σ H->Q' σ H)->g x σ H Q->g x σ H Q')
  (hg:∀cs,cD X scope cs->∀C s2 H2 fp,PG (bA X (bV own cap) scope cs C s2 H2 fp) tg g) (he:∀cs,cD X scope cs->∀C s2 H2 fp,PE (bA X (bV own cap) scope cs C s2 H2 fp) elt te)
  (hsw:swapsWith #v[11] (some (.Name x py)) spos.line X.env=pure true:=by rfl)
  (hs:FS X iter:=by intro _;rfl) (hf:FL X x:=by trivial):
  PS X (.Assign [.Name x py] #v[11] spos) (aDk (aBi own.length cap wi g te) (mU i)):=by
 intro pins s σ H D I h;rw[Lo _ _ _ _ hsw];refine Aa (Je (Aa ?_));show wpAny _ X.A (do let _<-comprehension #v[11] scope X.env _ (newList []) false (eval iter X.env) (some (assign (.Name x py) X.env))) _ _ s;refine Aa (Dn (Hn (use:=some (assign (.Name x py) X.env)) (Q:=λ_ s'=>SP X pins D .next s') rfl hs S.clos S.kind S.names
  (thn (hi pins s σ H _ I h) λv s1 h1=>thn h1 λitv s2 h2=>?_)) (λ_ s' hq=>Ac (Ac hq)) λ_ _ e=>e)
 obtain⟨it,fp,tn,J,H2,e,I2,T,st2,f2,rd⟩:=h2;subst e;obtain⟨W,w0,turn⟩:=rd _ (I2.hok.fresh (Ak _));refine rY (Q:=λx H1=>mU i x σ H1 D.nx) (RR:=λacc C=>compPost (model X.prog X.w) X.A X.xe (some (assign (.Name x py) X.env)) (λ_ s'=>SP X pins D .next s') acc C) S hc I2 T st2 f2 (λcs cf _=>hg cs cf) (λ_ _ _ _ _ _ _=>aEg) (λcs cf _=>he cs cf) W w0 (λi m σc H3 h3=>(turn i m σc H3 h3).imp id λ⟨go,step⟩=>⟨go,λx H4 y=>gm _ _ _ _ _ (λσ5 H5 q=>by unfold aRg;dsimp only;rw[if_pos rfl];exact q) (step x H4 y)⟩)
  λC H' s' m hCle hm hCn I' hback q=>?_
 refine Kj (tR (v:=.ref s2.heap.objs.size) I' hN hi' hx rfl (λs'' I'' ⟨a,hsa,ha⟩=>?_) hf);have hCa:C≠a:=by
  rcases ha with z|z
  ·rw[z];exact Cg (dF I2.lt hCle)
  ·obtain⟨v,q'⟩:=I2.cell x a z;exact Cg (dF q'.lt hCle)
 refine⟨m,hm.sameBut hsa hCa,λh' hs'=>⟨_,H',?_,q⟩⟩;have hC0:X.s₀.heap.objs.size<=C:=Ba I2.sz hCle;have hnp:∀p∈X.pn++pins,p.1≠C:=λp hp=>dF (Ap (I2.pin p hp).1) hCle;have hcl:∀y c,X.env.cells.lookup y=some c->c≠C:=λy c e=>by
  obtain⟨v,q'⟩:=I2.cell y c e;exact dF q'.lt hCle
 have hL:C≠X.env.locals:=Cg (dF I2.lt hCle);exact I''.turned (t':=s''.toks) (it:=C) (λb o hb e=>(hs'.2 b hb).trans e) hCn hL (.inr hC0) hcl hnp
def jF(P:Program)(w:World)(a:Addr)(xs:List ((Int×List Int)×Addr))(h:Heap):Prop:=∃o es ep t,h.get? a=some o/\o.ExactSet/\o.data=.set es ep t/\es.toList=xs.map (λx=>((bM (intKind P w)).hash x.1,Aj x.2))/\t.Good/\t.place.size=es.size/\(xs.map (·.1)).Nodup/\
 (∀(i j:Nat)(x:(Int×List Int)×Addr),t.place[i]? =some j->xs[i]? =some x->SetTable.sU t ((bM (intKind P w)).hash x.1) j)/\t.Small/\t.plain=true/\t.led= !w.params.followText "set-order"
def TKy(H:Hp)(x:List Int×Addr):Prop:=H x.2=some (.tup (x.1.map V.int))
def PKy(H:Hp)(x:(Int×List Int)×Addr):Prop:=∃q,H x.2=some (.tup [.int x.1.1,.ref q])/\TKy H (x.1.2,q)
section
variable {P:Program}{w:World}{H:Hp}{h:Heap}{a:Addr}{s:Shared}{xs:List ((Int×List Int)×Addr)}
def jF.stay(h1 h2:Heap)(p:jF P w a xs h1)(k:∀o,h1.get? a=some o->h2.get? a=some o):jF P w a xs h2:=let⟨o,es,ep,t,e,c⟩:=p;⟨o,es,ep,t,k _ e,c⟩
def jF.of(I:lH (bM (intKind P w)) s a (!w.params.followText "set-order") xs):jF P w a xs s.heap:=by
 obtain⟨o,es,ep,t,S,r1,r2,r3⟩:=I;exact⟨o,es,ep,t,S.ho,S.hex,S.hd,S.he,S.good,S.size,S.nd,S.way,r1,r2,r3⟩
def jF.is(I:jF P w a xs s.heap)(keys:∀x∈xs,bF (intKind P w) s.heap x.1 x.2):lH (bM (intKind P w)) s a (!w.params.followText "set-order") xs:=by
 obtain⟨o,es,ep,t,a1,a2,a3,a4,a5,a6,a7,a8,r1,r2,r3⟩:=I;exact⟨o,es,ep,t,⟨a1,a2,a3,a4,a5,a6,keys,a7,a8⟩,r1,r2,r3⟩
def aK0{ns:List Int}:∀{us:List Value},Vals (ns.map V.int) us->ItemsAre (intKind P w) ns us:=by
 induction ns with
 |nil=>intro us r;rw[Ep]at r;cases r;exact .nil
 |cons n ns ih=>
  intro us r;rw[Bo]at r;cases r with
  |@cons _ v _ _ r1 t=>
   obtain⟨tk,rfl⟩:=r1;exact .cons (by show Jv n (.int n tk)=true;simp[Jv]) (ih t)
def aQ4{x:List Int×Addr}(ok:HOk P w H h)(e:TKy H x):IsTupleKey (intKind P w) h x.1 x.2:=by
 obtain⟨_,its,r,o,h1,h2,n,h3⟩:=(show bR P w H h x.2 (.tup (x.1.map V.int))from ok _ _ e);exact⟨o,its.toArray,n,h1,h2,h3,aK0 r⟩
def gK{x:(Int×List Int)×Addr}(ok:HOk P w H h)(e:PKy H x):bF (intKind P w) h x.1 x.2:=by
 obtain⟨q,e1,e2⟩:=e;obtain⟨_,its,r,o,h1,h2,n,h3⟩:=(show bR P w H h x.2 (.tup [.int x.1.1,.ref q])from ok _ _ e1);obtain⟨u,v,rfl,ru,rv⟩:=vals2 r;obtain⟨tk,rfl⟩:=ru;obtain rfl:v=Aj q:=rv;exact⟨o,_,q,n,h1,h2,h3,(by show Jv _ (.int _ tk)=true;simp[Jv]),aQ4 ok e2⟩
end
theorem qX:∀{ps:List ((Int×List Int)×Addr)}{us:List Value},Vals (ps.map λx=>V.ref x.2) us->us=ps.map λx=>Aj x.2
 | [],_,.nil=>rfl
 |_::_,_,.cons (r1:_=Aj _) t=>by subst r1;rw[Bo,qX t]
theorem qD:∀{ps:List ((Int×List Int)×Addr)},Vals (ps.map λx=>V.ref x.2) (ps.map λx=>Aj x.2)
 | []=> .nil
 |_::_=> .cons rfl qD
inductive aM2(P:Program)(w:World)(K:Ae)(xs:List V)(H:Hp)(Q:VK):Prop
 |mk (p:Addr) (ps:List ((Int×List Int)×Addr)) (q0_:xs=[.ref p]) (q1_:SqL K H p (ps.map λx=>V.ref x.2)) (q2_:(∀x∈ps,PKy H x)) (q3_:ps.length<=1000) (q4_:(∃ks:List (Int×List Int),ks.length<300/\∀x∈ps,x.1∈ks)) (q5_:∀(l:Addr)(zs:List ((Int×List Int)×Addr)),H l=none->(zs.map (·.1)).Nodup->(∀x∈zs,x∈ps)->(∀x∈ps,∃z∈zs,z.1=x.1)->zs.length<=ps.length->Q (.ref l) (upd H l (.ext (jF P w l zs)))):aM2 P w K xs H Q
def aYi(P:Program)(w:World)(K:Ae):List V->Hp->VK->Prop:=λxs H Q=>aM2 P w K xs H Q
inductive aB7(P:Program)(w:World)(xs:List V)(H:Hp)(Q:VK):Prop
 |mk (p:Addr) (ps:List ((Int×List Int)×Addr)) (q0_:xs=[.ref p]) (q1_:H p=some (.ext (jF P w p ps))) (q2_:(∀x∈ps,PKy H x)) (q3_:ps.length<64) (q4_:∀(l:Addr)(ys:List ((Int×List Int)×Addr)),H l=none->ys.Perm ps->ys.Pairwise (λx y=>gU x.1 y.1=true)->Q (.ref l) (upd H l (.lst (ys.map λx=>V.ref x.2)))):aB7 P w xs H Q
def aMb(P:Program)(w:World):List V->Hp->VK->Prop:=λxs H Q=>aB7 P w xs H Q
def aC1(hu:X.A.units+20<cLine)(hc:X.calm=true):dY X (.type "set") (aYi X.prog X.w X.K):=by
 intro pins s σ H xs us Q I r h;obtain⟨p,ps,rfl,hq,hk,hln,⟨ks,kl,km⟩,q⟩:=h;obtain⟨u,rfl,ru⟩:=vals1 r;cases ru;obtain⟨its,rv,pl,hz⟩:=I.list hq;have ei:=qX rv;have hlen:its.length=ps.length:=by rw[ei,Ab]
 have at_:∀i,i<ps.length->ps.getD i ((0,[]),0)∈ps:=λi hi=>by simp[Kr,hi]
 refine aA8 (knd:=bM (intKind X.prog X.w)) (items:=its.toArray) (val:=λi=>(ps.getD i ((0,[]),0)).1) (adr:=λi=>(ps.getD i ((0,[]),0)).2) (aLt λk v hv=>?_) (λA' hA=>?_) (I.ok.hd hc) pl.isList (λi v hv=>?_) (λj hj=>?_) (λi xs hi M nd=>?_) λh' tk zs S M hk'=>?_
 ·obtain⟨t,rfl⟩:=Eb hv;exact⟨_,_,rfl⟩
 ·show A'.units+1<cLine
  lia
 ·have hi:i<its.toArray.size:=(Array.getElem?_eq_some_iff.mp hv).1;rw[Ai,hlen]at hi;rw[Kq,ei]at hv;simp[hi]at hv;rw[<-hv];simp[Kr,hi]
 ·rw[Ai,hlen]at hj;exact gK I.hok (hk _ (at_ j hj))
 ·rw[Ai,hlen]at hi;have:=nd.length_le_of_subset (l₂:=ks) λk hk=>by
   obtain⟨x,hx,rfl⟩:=List.mem_map.mp hk;obtain⟨j,hj,e⟩:=M.from' x hx;rw[e];exact km _ (at_ j ∅)
  rw[Ab]at this
  lia
 ·have kp:∀b o,s.heap.get? b=some o->h'.get? b=some o:=λb o e=>hk' b o (Ap e) e;have so:=jF.of S;have nd:(zs.map (·.1)).Nodup:=by obtain⟨_,_,_,_,S,_⟩:=S;exact S.nd
  refine⟨.ref #v[0],_,I.laid (t':=tk) (o:=.ext (jF X.prog X.w #v[0] zs)) kp (Ak _) ⟨so,?_,λh1 h2 p k=>jF.stay h1 h2 p k⟩,rfl,q _ zs (I.hok.fresh (Ak _)) nd (λx hx=>?_) (λx hx=>?_) ?_⟩
  ·obtain⟨o,_,_,_,e,_⟩:=so;exact⟨o,e⟩
  ·obtain⟨j,hj,e⟩:=M.from' x hx;rw[Ai,hlen]at hj;rw[e];exact at_ j hj
  ·obtain⟨j,hj,e⟩:=Le hx;obtain⟨z,hz,ez⟩:=M.all j (by rw[Ai,hlen];exact hj);refine⟨z,hz,?_⟩;rw[ez, <-e];simp[Kr,hj]
  ·have:=M.len;rw[Ai,hlen]at this;exact this
def aDv(hu:X.A.units+40<cLine)(hc:X.calm=true):dY X (.builtin "sorted") (aMb X.prog X.w):=by
 intro pins s σ H xs us Q I r h;obtain⟨p,ps,rfl,hp,hk,h64,q⟩:=h;obtain⟨u,rfl,ru⟩:=vals1 r;cases ru;obtain⟨so,_,_⟩:=(show bR X.prog X.w H s.heap p (.ext (jF X.prog X.w p ps))from I.hok p _ hp);refine aG0 (aIq λk v hv=>by obtain⟨t,rfl⟩:=Eb hv;exact⟨_,_,rfl⟩) ∅ (I.ok.hd hc) (so.is λx hx=>gK I.hok (hk x hx)) (λ_ _=>trivial) h64 λh' tk l e ys py hy hl hg kp=>?_;refine⟨.ref l,_,I.laid (t':=tk) (o:=.lst (ys.map λx=>V.ref x.2)) kp hl ⟨?_,_,e,qD,hg⟩,rfl,q l ys (I.hok.fresh hl) py hy⟩;rw[Ab,py.length_eq,Co]
 lia
def aCj(w:World)(a:Addr)(x:Nat)(b:Bool)(h:Heap):Prop:=∃o ep tk,h.get? a=some o/\o.ExactSet/\o.data=.set (jV (zs1 x b) tk) ep (aBo (!w.params.followText "set-order") (zs1 x b))
def yJ(l:List Nat):List V:=l.map λk:Nat=> .int (k:Int)
inductive aLj(w:World)(K:Ae)(xs:List V)(H:Hp)(Q:VK):Prop
 |mk (p:Addr) (ns:List Nat) (x:Nat) (q0_:xs=[.ref p]) (q1_:SqL K H p (yJ ns)) (q2_:(∀n∈ns,n=x)) (q3_:x∈[1,2,3]) (q4_:∀l:Addr,H l=none->Q (.ref l) (upd H l (.ext (aCj w l x (decide (0<ns.length)))))):aLj w K xs H Q
def aX3(w:World)(K:Ae):List V->Hp->VK->Prop:=λxs H Q=>aLj w K xs H Q
inductive aB1(w:World)(xs:List V)(H:Hp)(Q:VK):Prop
 |mk (p:Addr) (x:Nat) (b:Bool) (q0_:xs=[.ref p]) (q1_:H p=some (.ext (aCj w p x b))) (q2_:x∈[1,2,3]) (q3_:∀l,H l=none->Q (.ref l) (upd H l (.lst (yJ (zs1 x b))))):aB1 w xs H Q
def aM6(w:World):List V->Hp->VK->Prop:=λxs H Q=>aB1 w xs H Q
theorem aGb{x:Nat}:∀{ns:List Nat}{us:List Value},(∀n∈ns,n=x)->Vals (yJ ns) us->∀(i:Nat)(v:Value),us[i]? =some v->∃t,v=.int x t
 | [],_,_,.nil,i,v,h=>by simp at h
 |n::ns,u::us,hn,.cons r t,0,v,h=>by
  obtain⟨tk,e⟩:=r;have:u=v:=by simpa using h
  exact⟨tk,by rw[<-this,e, <-hn n Ah]⟩
 |n::ns,u::us,hn,.cons r t,i+1,v,h=>aGb (λm hm=>hn m (Af _ hm)) t i v (by simpa using h)
def aJ8(hc:X.calm=true):dY X (.type "set") (aX3 X.w X.K):=by
 intro pins s σ H xs us Q I r h;obtain⟨p,ns,x,rfl,hq,hn,h3,q⟩:=h;obtain⟨u,rfl,ru⟩:=vals1 r;cases ru;obtain⟨its,rv,pl,hz⟩:=I.list hq;have hlen:its.length=ns.length:=by rw[<-Vals.length rv];unfold yJ;rw[Ab]
 refine aAn (items:=its.toArray) (I.ok.hd hc) pl.isList (λi v hv=>aGb hn rv i v (by simpa using hv)) h3 λh' tk S kp'=>?_;have kp:∀b o,s.heap.get? b=some o->h'.get? b=some o:=λb o e=>kp' b o (Ap e) e;rw[show its.toArray.size=ns.length by rw[Ai,hlen]]at S;have so:aCj X.w #v[0] x (decide (0<ns.length)) h':=S;refine⟨.ref #v[0],_,I.laid (t':=tk) (o:=.ext (aCj X.w #v[0] _ _)) kp (Ak _) ⟨so,?_,λh1 h2 p k=>?_⟩,rfl,q _ (I.hok.fresh (Ak _))⟩
 ·obtain⟨o,_,_,e,_⟩:=so;exact⟨o,e⟩
 ·obtain⟨o,ep,tk,e,c⟩:=p;exact⟨o,ep,tk,k _ e,c⟩
def aDs(hc:X.calm=true):dY X (.builtin "sorted") (aM6 X.w):=by
 intro pins s σ H xs us Q I r h;obtain⟨p,x,b,rfl,hp,hx,q⟩:=h;obtain⟨u,rfl,ru⟩:=vals1 r;cases ru;obtain⟨so,_,_⟩:=(show bR X.prog X.w H s.heap p (.ext (aCj X.w p x b))from I.hok p _ hp);obtain⟨o,ep,tk,ho,hex,hd⟩:=so;have l3:(zs1 x b).length<=1:=by cases b<;>simp[zs1]
 refine Jh Tf Ru Rv (Rx _) ?_;unfold Builtin.«sorted»;refine Aa (m:=checkCount "sorted" 1 1 _) (Ac ?_);have rise:SetTable.uX (aBo (!X.w.params.followText "set-order") (zs1 x b)).place:=by
  intro i j h1 h2;have:j<1:=Bb h2 (by show(zs1 x b).toArray.size<=1;rw[Ai];exact l3)
  lia
 refine Aa (nM (by simpa using I.ok.hd hc) ho hex hd (aNg hx) rise rfl rfl (by have:=aSs (x:=x) b tk;rw[Co];lia) λh' tk' s1 hk=>?_);have ey:gA X.w p (jV (zs1 x b) tk) ep=(zs1 x b).map λz:Nat=>Dp (z:Int) (tk z):=by
  have:=jX X.w p (jV (zs1 x b) tk) ep;cases b
  ·exact this.eq_nil
  ·exact List.perm_singleton.mp this
 rw[ey];have hi:IntsAre ((zs1 x b).map λz:Nat=>Dp (z:Int) (tk z)) ((zs1 x b).map λz:Nat=>(z:Int)):=by
  cases b
  ·exact .nil
  ·exact .cons _ _ .nil
 generalize ((zs1 x b).map λz:Nat=>Dp (z:Int) (tk z))=vs at hi;have hal:vs.length=(zs1 x b).length:=by rw[hi.length,Ab]
 refine Aa (Mq ?_ (by rw[Co];lia));have hoL:(h'.push (seqObj "list" vs.toArray 0)).get? h'.objs.size=some (seqObj "list" vs.toArray 0):=Al _ rfl;refine Aa (Bs (Bm slot_list_sort ⟨_,hoL,rfl⟩ entry_list_sort (list_sort_tree hoL hi ∅ λout ms a1 a2 a3=>⟨_,rfl,?_⟩) (Pw _)));refine Ac ⟨_,rfl,?_⟩;obtain⟨e,he⟩:=Qs (vs:=vs) (out:=out) hoL;have hsz:h'.objs.size<(h'.push (seqObj "list" vs.toArray 0)).objs.size:=by rw[Cc];exact Ew _
 have keep:∀b o,s.heap.get? b=some o->(sortedHeap (h'.push (seqObj "list" vs.toArray 0)) h'.objs.size vs out).get? b=some o:=λb o eb=>by
  have e1:=hk b o eb;have hlt:=Ap e1;rw[Pu (Ar hlt) (Jj hlt hsz)];exact Ad _ e1
 have hge:#v[0]<=h'.objs.size:=Ez s1;have es:ms=(zs1 x b).map λz:Nat=>(z:Int):=by
  cases b
  ·exact a2.eq_nil
  ·exact List.perm_singleton.mp a2
 have en:ms.map V.int=yJ (zs1 x b):=by rw[es,Az];rfl
 refine⟨.ref h'.objs.size,_,I.laid (t':=tk') (o:=.lst (ms.map V.int)) keep hge ⟨?_,out.toList,e,aAm a1,by simpa using he⟩,rfl,by rw[en];exact q _ (I.hok.fresh hge)⟩;rw[Ab,a2.length_eq,Ab,Co]
 lia
structure Dis(P:Program)(w:World)(K:Ae)(mg:Str->#v[14])(base:Heap)(CX:CXT)(k:Nat)(Cs:Addr->Prop)(m:Str)(ps:List Str)(sp:Addr->Sp):Prop where
 ex:∀C,Cs C->Cls K C/\∃f fd,Meth K C m f/\bI P w K mg base CX k f fd ps (sp C)/\Binds K fd ps []
def aMi(Cs:Addr->Prop)(m:Str)(sp:Addr->Sp)(E:XK)(ta:TE)(t:TA):TE:=λσ H Q=>ta σ H λx H1=>∃a C dx fs,x=.ref a/\H1 a=some (.ins C dx fs)/\Cs C/\fs.lookup m=none/\t σ H1 λvs H2=>sp C (.ref a::vs) H2 Q E
section
variable {X:Cx}{CX:CXT}{k:Nat}{Cs:Addr->Prop}{m:Str}{ps:List Str}{sp:Addr->Sp}{E:XK}{o e:Expr}{es:List Expr}{ta:TE}{t:TA}{apos pos:Pos}
def aK9{pl:Sem Bool}(he:PE X o ta)(D:Dis X.prog X.w X.K X.mg X.base CX k Cs m ps sp)(hr:cW k X.A)(hx:rM CX X E)(ha:PA X (e::es) t)
  (hst:SE X e es:=by rfl) (hpl:BT X pos es:=by rfl)
  (ht:eval (.Call (.Attribute o m apos) (e::es) [] pos) X.env=(do
   let ov<-eval o X.env
   standAt apos.atName
   let(f,first)<-holding [ov] (getMethod ov m pl)
   callWith pos f first (backTo pos (starEach (e::es) X.env)) (backToKw pos (keywordEach [] X.env))):=by rfl):
  PE X (.Call (.Attribute o m apos) (e::es) [] pos) (aMi Cs m sp E ta t):=by
 intro pins s σ H Q I h;refine Ol (pl:=pl) (thn (he pins s σ H _ I h) λu s1 ⟨x,H1,I1,rx,a,C,dx,fs,ex,ea,hC,l,q⟩=>?_) ht;subst ex;obtain rfl:u=Aj a:=rx;obtain⟨c,f,fd,hm,F,hb⟩:=D.ex C hC;refine aA0 I1 ea c hm l ?_;refine Lb (first:=[.ref a]) (h₀:=X.base) I.ok.mod.kin hm.kp (thn (ha pos pins s1 σ H1 _ I1 q) λus s2 ⟨vs,H2,I2,r,q2⟩=>⟨I2.kIn,?_⟩) hst hpl;exact aGq (us:=.ref a::us) (vs:=.ref a::vs) F hr hb .nil hx I2 (.cons rfl r) (by rw[Ax];exact q2)
def aKw{pl:Sem Bool}(he:PE X o ta)(D:Dis X.prog X.w X.K X.mg X.base CX k Cs m ps sp)(hr:cW k X.A)(hx:rM CX X E)
  (ht:eval (.Call (.Attribute o m apos) [] [] pos) X.env=(do
   let ov<-eval o X.env
   standAt apos.atName
   let(f,first)<-holding [ov] (getMethod ov m pl)
   callWith pos f first (backTo pos (starEach [] X.env)) (backToKw pos (keywordEach [] X.env))):=by rfl):
  PE X (.Call (.Attribute o m apos) [] [] pos) (aMi Cs m sp E ta aRf):=by
 intro pins s σ H Q I h;refine Ol (pl:=pl) (thn (he pins s σ H _ I h) λu s1 ⟨x,H1,I1,rx,a,C,dx,fs,ex,ea,hC,l,q⟩=>?_) ht;subst ex;obtain rfl:u=Aj a:=rx;obtain⟨c,f,fd,hm,F,hb⟩:=D.ex C hC;refine aA0 I1 ea c hm l ?_;exact PySem.W.callWith_K0 (first:=[.ref a]) I1.kIn hm.kp (aGq (us:=[.ref a]) (vs:=[.ref a]) F hr hb .nil hx I1 (.cons rfl .nil) q)
end
variable {o e:Expr}{apos cpos:Pos}{td ty:TE}
def aNh:dY X (.builtin "any") (λxs H Q=>∃(p:Addr)(bs:List Bool),xs=[.ref p]/\SqL X.K H p (bs.map V.bl)/\X.calm=true/\Q (.bl (bs.any id)) H):=by
 intro pins s σ H xs us Q I r h;obtain⟨p,bs,rfl,hq,hc,q⟩:=h;obtain⟨u,rfl,ru⟩:=vals1 r;cases ru;obtain⟨its,rv,pl,hz⟩:=I.list hq;have hl:=rv.length;rw[Ab]at hl;refine call_any_walk (Gu pl.isList ?_);have hlt:p<#v[0]:=by obtain⟨o,e,_⟩:=pl.isList;exact Ap e
 have hne:p≠#v[0]:=Ar hlt;have hd:X.A.in1.handled=none:=I.ok.hd hc;refine⟨#v[0],_,_,_,_,_,λi=>bs.getD i false,rfl,Ly hd #v[0] p hne its.toArray,⟨⟨_,Al _ rfl,rfl,rfl⟩,pl.isList.push _⟩,λi v s' Q' E' hv hQ=>?_,λh' tk hk=>?_⟩
 ·have hv':its[i]? =some v:=by simpa using hv
  have hi:i<its.length:=(List.getElem?_eq_some_iff.mp hv').1;have hi':i<bs.length:=by lia
  have e1:(bs.map V.bl)[i]? =some (V.bl bs[i]):=by simp[hi']
  obtain⟨u,hu,ru⟩:=rv.get e1;rw[hv']at hu;cases hu;have ru':v=Gx bs[i]:=ru;subst ru';have e2:bs.getD i false=bs[i]:=by simp[hi']
  have hQ':Q' (bs.getD i false) s':=hQ;rw[e2]at hQ';exact Cm hQ'
 ·refine⟨.bl (bs.any id),H,?_,?_,q⟩
  ·exact I.kept (t':=tk) λb o e=>hk b o (by simp;exact Ar (Ap e)) (Ad _ e)
  ·show Gx _=Gx _;congr 1;have e:its.toArray.size=bs.length:=by rw[Ai];lia
   rw[e];have:∀l:List Bool,(Bk l.length).any (λi=>l.getD i false)=l.any id:=by
    intro l;induction l with
    |nil=>rfl
    |cons b l ih=>
     rw[Am,Pg,Fp,Fp,Vf, <-ih];congr 1
   exact this bs
variable {tg:Expr}
structure Opq where
 φ:(Addr->Prop)->(Addr->Prop)->Hp->V->Prop
 mono:∀{W B B' H H'}{v:V},(∀b o,¬B b->H b=some o->¬B' b/\H' b=some o)->φ W B H v->φ W B' H' v
 wm:∀{W W' B H}{v:V},(∀p,W p->W' p)->φ W B H v->φ W' B H v
inductive U where
 |v (x:V)
 |tp (l:List U)
 |ls (l:List U)
 |ob (C:Addr) (ns:List Str) (us:List U)
 |dk (ns:List Str) (us:List U)
 |op (o:Opq)
 |wl
abbrev U.n(i:Int):U:=.v (.int i)
abbrev U.b(c:Bool):U:=.v (.bl c)
abbrev U.s(x:Str):U:=.v (.str x)
abbrev U.no:U:=.v .non
def Wll(H:Hp)(a:Addr):Prop:=∃x y z:Int,H a=some (.lst [.int x,.int y,.int z])
section
variable (W B:Addr->Prop)(H:Hp)
mutual
def DU:U->V->Prop
 |.v x,y=>y=x/\rC x=true
 |.tp l,y=>∃p xs,y=.ref p/\¬B p/\H p=some (.tup xs)/\DUs l xs
 |.ls l,y=>∃p xs,y=.ref p/\¬B p/\H p=some (.lst xs)/\DUs l xs
 |.ob C ns us,y=>∃p dx xs,y=.ref p/\¬B p/\H p=some (.ins C dx (ns.zip xs))/\ns.length=xs.length/\DUs us xs
 |.dk ns us,y=>∃p xs,y=.ref p/\¬B p/\H p=some (.dK ((ns.map Lr).zip xs))/\ns.length=xs.length/\DUs us xs
 |.op o,y=>o.φ W B H y
 |.wl,y=>∃p,y=.ref p/\W p
def DUs:List U->List V->Prop
 | [],xs=>xs=[]
 |u::l,xs=>∃x r,xs=x::r/\DU u x/\DUs l r
end
end
section
variable {W B B':Addr->Prop}{H H':Hp}
mutual
theorem DU.mono(k:∀b o,¬B b->H b=some o->¬B' b/\H' b=some o):∀(u:U){v:V},DU W B H u v->DU W B' H' u v
 |.v _,_,h=>h
 |.tp l,_,⟨p,xs,e,nb,hp,t⟩=>⟨p,xs,e,(k _ _ nb hp).1,(k _ _ nb hp).2,DUs.mono k l t⟩
 |.ls l,_,⟨p,xs,e,nb,hp,t⟩=>⟨p,xs,e,(k _ _ nb hp).1,(k _ _ nb hp).2,DUs.mono k l t⟩
 |.ob _ _ us,_,⟨p,dx,xs,e,nb,hp,hl,t⟩=>⟨p,dx,xs,e,(k _ _ nb hp).1,(k _ _ nb hp).2,hl,DUs.mono k us t⟩
 |.dk _ us,_,⟨p,xs,e,nb,hp,hl,t⟩=>⟨p,xs,e,(k _ _ nb hp).1,(k _ _ nb hp).2,hl,DUs.mono k us t⟩
 |.op o,_,h=>o.mono k h
 |.wl,_,h=>h
theorem DUs.mono(k:∀b o,¬B b->H b=some o->¬B' b/\H' b=some o):∀(l:List U){xs:List V},DUs W B H l xs->DUs W B' H' l xs
 | [],_,h=>h
 |u::l,_,⟨x,r,e,h,t⟩=>⟨x,r,e,DU.mono k u h,DUs.mono k l t⟩
end
def DUs.length:∀{l:List U}{xs:List V},DUs W B H l xs->l.length=xs.length
 | [],_,h=>by rw[show _=[]from h];rfl
 |_::_,_,⟨_,_,e,_,t⟩=>by rw[e,Am,Am,DUs.length t]
def DUs.get:∀{l:List U}{xs:List V}{i:Nat}{u:U},DUs W B H l xs->l[i]? =some u->∃x,xs[i]? =some x/\DU W B H u x
 | [],_,_,_,_,e=>by simp at e
 |_::_,_,0,_,⟨x,_,e,h,_⟩,q=>by simp at q;subst q e;exact⟨x,rfl,h⟩
 |_::_,_,i+1,_,⟨_,_,e,_,t⟩,q=>by
  obtain⟨y,h1,h2⟩:=DUs.get (i:=i) t (by simpa using q);exact⟨y,by rw[e];simpa using h1,h2⟩
def DUs.getV{l:List U}{x:V}(h:DUs W B H l xs)(e:xs[i]? =some x):∃u,l[i]? =some u/\DU W B H u x:=by
 have hi:i<l.length:=by rw[h.length];exact(List.getElem?_eq_some_iff.mp e).1
 obtain⟨y,h1,h2⟩:=h.get (Ag hi);rw[e]at h1;cases h1;exact⟨_,Ag hi,h2⟩
def DUs.app:∀{l m:List U}{xs ys:List V},DUs W B H l xs->DUs W B H m ys->DUs W B H (l++m) (xs++ys)
 | [],_,_,_,h,t=>by rw[show _=[]from h];exact t
 |_::_,_,_,_,⟨x,r,e,h,t⟩,t'=>⟨x,_,by rw[e];rfl,h,DUs.app t t'⟩
def DUs.drop:∀{l:List U}{xs:List V}(i:Nat),DUs W B H l xs->DUs W B H (l.drop i) (xs.drop i)
 |_,_,0,h=>h
 | [],_,_+1,h=>by rw[show _=[]from h];rfl
 |_::_,_,i+1,⟨_,_,e,_,t⟩=>by rw[e];exact DUs.drop i t
def DUs.take:∀{l:List U}{xs:List V}(i:Nat),DUs W B H l xs->DUs W B H (l.take i) (xs.take i)
 |_,_,0,_=>rfl
 | [],_,_+1,h=>by rw[show _=[]from h];rfl
 |_::_,_,i+1,⟨x,_,e,h,t⟩=>by rw[e];exact⟨x,_,rfl,h,DUs.take i t⟩
def DUs.one{u:U}{x:V}(h:DU W B H u x):DUs W B H [u] [x]:=⟨x,[],rfl,h,rfl⟩
end
section
variable {W W' B:Addr->Prop}{H:Hp}
mutual
theorem DU.wm(k:∀p,W p->W' p):∀(u:U){v:V},DU W B H u v->DU W' B H u v
 |.v _,_,h=>h
 |.tp l,_,⟨p,xs,e,nb,hp,t⟩=>⟨p,xs,e,nb,hp,DUs.wm k l t⟩
 |.ls l,_,⟨p,xs,e,nb,hp,t⟩=>⟨p,xs,e,nb,hp,DUs.wm k l t⟩
 |.ob _ _ us,_,⟨p,dx,xs,e,nb,hp,hl,t⟩=>⟨p,dx,xs,e,nb,hp,hl,DUs.wm k us t⟩
 |.dk _ us,_,⟨p,xs,e,nb,hp,hl,t⟩=>⟨p,xs,e,nb,hp,hl,DUs.wm k us t⟩
 |.op o,_,h=>o.wm k h
 |.wl,_,⟨p,e,h⟩=>⟨p,e,k p h⟩
theorem DUs.wm(k:∀p,W p->W' p):∀(l:List U){xs:List V},DUs W B H l xs->DUs W' B H l xs
 | [],_,h=>h
 |u::l,_,⟨x,r,e,h,t⟩=>⟨x,r,e,DU.wm k u h,DUs.wm k l t⟩
end
end
structure Fw(W:Addr->Prop)(H H':Hp):Prop where
 fr:∀b o,¬W b->H b=some o->H' b=some o
 wo:∀p,W p->Wll H' p
def Fw.trans{W:Addr->Prop}{H H1 H2:Hp}(a:Fw W H H1)(b:Fw W H1 H2):Fw W H H2:=⟨λc o n h=>b.fr c o n (a.fr c o n h),b.wo⟩
def Mt:HO->Prop
 |.lst _=>True
 |.ext _=>True
 |.dK _=>True
 |_=>False
structure EB(W B:Addr->Prop)(H:Hp):Prop where
 bl:∀p,B p->∃o,H p=some o/\Mt o
 wb:∀p,W p->B p
 wo:∀p,W p->Wll H p
structure Own where
 φ:(Addr->Prop)->(Addr->Prop)->(Addr->Prop)->Hp->Addr->Prop
 mono:∀{W B B' S H H'}{p:Addr},(∀b o,¬B b->H b=some o->¬B' b/\H' b=some o)->(∀b,S b->H' b=H b)->φ W B S H p->φ W B' S H' p
 wm:∀{W W' B S H}{p:Addr},(∀p,W p->W' p)->φ W B S H p->φ W' B S H p
 th:∀{W B S H}{p:Addr},φ W B S H p->∀b,S b->∃o,H b=some o/\Mt o
def Own.fz(o:Own):Opq:=⟨λW B H v=>∃p S,v=.ref p/\(∀b,S b->¬B b)/\o.φ W B S H p,λk ⟨p,S,e,n,h⟩=>⟨p,S,e,λb hb=>let⟨x,q,_⟩:=o.th h b hb;(k b x (n b hb) q).1,o.mono k (λb hb=>let⟨x,q,_⟩:=o.th h b hb;(k b x (n b hb) q).2.trans q.symm) h⟩,λk ⟨p,S,e,n,h⟩=>⟨p,S,e,n,o.wm k h⟩⟩
def aZo:Opq:=⟨λ_ _ _ _=>True,λ_ _=>trivial,λ_ _=>trivial⟩
inductive Sl where
 |no
 |sh (u:U)
 |ow (l:List U)
 |br (l:List U)
 |oo (o:Own)
 |bo (o:Own)
abbrev EV:=List Sl
def Sl.rd:Sl->U
 |.sh u=>u
 |.ow l=> .ls l
 |.br l=> .ls l
 |.no=> .wl
 |_=> .op aZo
def Sl.es:Sl->(U->Prop)->Prop
 |.sh u,R=>R u
 |.ow l,R=>R (.ls l)
 |.oo o,R=>R (.op o.fz)
 |_,_=>False
def lsO(l:List U):Own:=⟨λW B S H p=>(∀b,S b↔b=p)/\∃xs,H p=some (.lst xs)/\DUs W B H l xs,λk e ⟨s,xs,h,d⟩=>⟨s,xs,(e _ ((s _).mpr rfl)).trans h,DUs.mono k l d⟩,λk ⟨s,xs,h,d⟩=>⟨s,xs,h,DUs.wm k l d⟩,λ⟨s,_,h,_⟩ b hb=>by rw[(s b).mp hb];exact⟨_,h,trivial⟩⟩
def Sl.hold:Sl->Option Own
 |.ow l=>some (lsO l)
 |.br l=>some (lsO l)
 |.oo o=>some o
 |.bo o=>some o
 |_=>none
section
variable (W B:Addr->Prop)(H H':Hp)
def RO:Sl->V->Prop
 |.sh u,y=>DU W B H' u y
 |.ow l,y=>∃p xs,y=.ref p/\H p=none/\H' p=some (.lst xs)/\DUs W (λb=>B b∨b=p) H' l xs
 |.br l,y=>∃p xs,y=.ref p/\¬W p/\H' p=some (.lst xs)/\DUs W B H' l xs
 |.oo o,y=>∃p S,y=.ref p/\(∀b,S b->H b=none)/\o.φ W (λb=>B b∨S b) S H' p
 |.bo o,y=>∃p S,y=.ref p/\(∀b,S b->¬W b)/\o.φ W B S H' p
 |.no,_=>False
def DB(u:U)(y:V):Prop:=DU W B H u y∨∃l p xs,u=.ls l/\y=.ref p/\¬W p/\H p=some (.lst xs)/\DUs W B H l xs
structure EE(ρ:EV)(σ:St):Prop where
 eb:EB W B H
 len:ρ.length=σ.length
 sh:∀(i:Nat)(u:U),ρ[i]? =some (Sl.sh u)->∃v,σ[i]? =some (some v)/\DU W B H u v
 hd:∀(i:Nat)(s:Sl)(o:Own),ρ[i]? =some s->s.hold=some o->∃p S,σ[i]? =some (some (V.ref p))/\(∀b,S b->¬W b)/\o.φ W B S H p
end
def EE.ow{W B:Addr->Prop}{H:Hp}{ρ:EV}{σ:St}(e:EE W B H ρ σ)(i:Nat)(l:List U)(h:ρ[i]? =some (Sl.ow l)∨ρ[i]? =some (Sl.br l)):∃p xs,σ[i]? =some (some (V.ref p))/\¬W p/\H p=some (.lst xs)/\DUs W B H l xs:=by
 obtain⟨p,S,h1,h2,s,xs,h3⟩:∃p S,σ[i]? =some (some (V.ref p))/\(∀b,S b->¬W b)/\(lsO l).φ W B S H p:=h.elim (λh=>e.hd i _ _ h rfl) λh=>e.hd i _ _ h rfl;exact⟨p,xs,h1,h2 p ((s p).mpr rfl),h3⟩
section
variable {W B:Addr->Prop}{H H' H2:Hp}{ρ:EV}{σ:St}
def EB.keep(e:EB W B H)(f:Fw W H H'):∀b o,¬B b->H b=some o->¬B b/\H' b=some o:=λb o n h=>⟨n,f.fr b o (λw=>n (e.wb b w)) h⟩
def EB.dm(e:EB W B H):∀p,B p->H p≠none:=λp h n=>by
 obtain⟨xs,q,_⟩:=e.bl p h;rw[q]at n;cases n
def EB.to(e:EB W B H)(f:Fw W H H'):EB W B H':=by
 refine⟨λp hp=>?_,e.wb,f.wo⟩;by_cases w:W p
 ·obtain⟨x,y,z,q⟩:=f.wo p w;exact⟨_,q,trivial⟩
 ·obtain⟨xs,q,m⟩:=e.bl p hp;exact⟨xs,f.fr p _ w q,m⟩
def EB.refl(e:EB W B H):Fw W H H:=⟨λ_ _ _ h=>h,e.wo⟩
def EB.new(e:EB W B H){o:HO}(n:H p=none):Fw W H (upd H p o):=⟨λb u _ h=>by
 rw[aO (aN h n)];exact h,λq hq=>by
 obtain⟨x,y,z,h⟩:=e.wo q hq;exact⟨x,y,z,by rw[aO (aN h n)];exact h⟩⟩
def EB.nw(e:EB W B H)(n:H p=none):¬B p:=λh=>e.dm p h n
def EB.same(e:EB W B H)(s:aWs H H'):Fw W H H':=⟨λb o _ h=>s b o h,λp hp=>by
 obtain⟨x,y,z,h⟩:=e.wo p hp;exact⟨x,y,z,s _ _ h⟩⟩
def Own.to(o:Own){S:Addr->Prop}(e:EB W B H)(f:Fw W H H')(n:∀b,S b->¬W b)(h:o.φ W B S H p):o.φ W B S H' p:=o.mono (e.keep f) (λb hb=>let⟨x,q,_⟩:=o.th h b hb;(f.fr b x (n b hb) q).trans q.symm) h
def Own.less(o:Own)(h:o.φ W (λb=>B b∨T b) S H p):o.φ W B S H p:=o.mono (λ_ _ n h=>⟨λz=>n (.inl z),h⟩) (λ_ _=>rfl) h
def EE.to(e:EE W B H ρ σ)(f:Fw W H H'):EE W B H' ρ σ:=
 ⟨e.eb.to f,e.len,λi u h=>let⟨v,h1,h2⟩:=e.sh i u h;⟨v,h1,DU.mono (e.eb.keep f) u h2⟩,λi s o h hs=>let⟨p,S,h1,h2,h3⟩:=e.hd i s o h hs;⟨p,S,h1,h2,o.to e.eb f h2 h3⟩⟩
def Fw.none_(f:Fw W H H')(n1:H' p=none):H p=none:=by
 cases hp:H p with
 |none=>rfl
 |some o=>
  by_cases w:W p
  ·obtain⟨_,_,_,z⟩:=f.wo p w;rw[z]at n1;cases n1
  ·rw[f.fr p o w hp]at n1;cases n1
def RO.back{s:Sl}(f:Fw W H H')(h:RO W B H' H2 s v):RO W B H H2 s v:=by
 match s,h with
 |.sh u,h=>exact h
 |.ow l,⟨p,xs,e1,n1,h2,h3⟩=>exact⟨p,xs,e1,f.none_ n1,h2,h3⟩
 |.br l,h=>exact h
 |.oo o,⟨p,S,e1,n1,h⟩=>exact⟨p,S,e1,λb hb=>f.none_ (n1 b hb),h⟩
 |.bo o,h=>exact h
def DB.to{u:U}(h:DB W B H u v)(e:EB W B H)(f:Fw W H H'):DB W B H' u v:=by
 rcases h with h|⟨l,p,xs,e1,e2,w,h1,h2⟩
 ·exact .inl (DU.mono (e.keep f) u h)
 ·exact .inr ⟨l,p,xs,e1,e2,w,f.fr _ _ w h1,DUs.mono (e.keep f) l h2⟩
def DUs.less{l:List U}(h:DUs W (λb=>B b∨b=p) H l xs):DUs W B H l xs:=DUs.mono (λ_ _ n e=>⟨λz=>n (.inl z),e⟩) l h
def RO.db{s:Sl}(e:EB W B H)(h:RO W B H H' s v):DB W B H' s.rd v:=by
 match s,h with
 |.sh u,h=>exact .inl h
 |.ow l,⟨p,xs,e1,h1,h2,h3⟩=>exact .inl ⟨p,xs,e1,e.nw h1,h2,h3.less⟩
 |.br l,⟨p,xs,e1,h1,h2,h3⟩=>exact .inr ⟨l,p,xs,rfl,e1,h1,h2,h3⟩
 |.oo _,_=>exact .inl trivial
 |.bo _,_=>exact .inl trivial
def RO.du{s:Sl}{R:U->Prop}(e:EB W B H)(h:RO W B H H' s v)(r:s.es R):∃u,R u/\DU W B H' u v:=by
 match s,h,r with
 |.sh u,h,r=>exact⟨u,r,h⟩
 |.ow l,⟨p,xs,e1,h1,h2,h3⟩,r=>exact⟨.ls l,r,p,xs,e1,e.nw h1,h2,h3.less⟩
 |.oo o,⟨p,S,e1,h1,h2⟩,r=>exact⟨.op o.fz,r,p,S,e1,λb hb=>e.nw (h1 b hb),o.less h2⟩
def DB.int{i:Int}(h:DB W B H (.n i) y):y=.int i:=by
 rcases h with h|⟨l,p,xs,e1,_⟩
 ·exact h.1
 ·cases e1
def DB.fl{x y:V}(h:DB W B H (.v x) y):y=x/\rC x=true:=by
 rcases h with h|⟨l,p,xs,e1,_⟩
 ·exact h
 ·cases e1
def DB.tp{l:List U}(h:DB W B H (.tp l) y):∃p xs,y=.ref p/\¬B p/\H p=some (.tup xs)/\DUs W B H l xs:=by
 rcases h with h|⟨l,p,xs,e1,_⟩
 ·exact h
 ·cases e1
def DB.ob{ns:List Str}{us:List U}(h:DB W B H (.ob C ns us) y):∃p dx xs,y=.ref p/\¬B p/\H p=some (.ins C dx (ns.zip xs))/\ns.length=xs.length/\DUs W B H us xs:=by
 rcases h with h|⟨l,p,xs,e1,_⟩
 ·exact h
 ·cases e1
def DB.dk{ns:List Str}{us:List U}(h:DB W B H (.dk ns us) y):∃p xs,y=.ref p/\¬B p/\H p=some (.dK ((ns.map Lr).zip xs))/\ns.length=xs.length/\DUs W B H us xs:=by
 rcases h with h|⟨l,p,xs,e1,_⟩
 ·exact h
 ·cases e1
def DB.ls{l:List U}(e:EB W B H)(h:DB W B H (.ls l) y):∃p xs,y=.ref p/\¬W p/\H p=some (.lst xs)/\DUs W B H l xs:=by
 rcases h with ⟨p,xs,e1,nb,h1,h2⟩|⟨l,p,xs,e1,e2,w,h1,h2⟩
 ·exact⟨p,xs,e1,λw=>nb (e.wb p w),h1,h2⟩
 ·cases e1;exact⟨p,xs,e2,w,h1,h2⟩
end
abbrev TV:=EV->(Sl->Prop)->Prop
def VT(t:TE)(F:TV):Prop:=∀{W B:Addr->Prop}{ρ:EV}{σ:St}{H:Hp}{R:Sl->Prop}{Q:VK},EE W B H ρ σ->F ρ R->(∀s v H',R s->Fw W H H'->RO W B H H' s v->Q v H')->t σ H Q
def VE(X:Cx)(e:Expr)(F:TV):Prop:=∃t,PE X e t/\VT t F
abbrev TVc:=EV->(Bool->Prop)->Prop
def VTc(t:TT)(F:TVc):Prop:=∀{W B:Addr->Prop}{ρ:EV}{σ:St}{H:Hp}{R:Bool->Prop}{Q:Bool->Hp->Prop},EE W B H ρ σ->F ρ R->(∀c H',R c->Fw W H H'->Q c H')->t σ H Q
def VC(X:Cx)(e:Expr)(F:TVc):Prop:=∃t,PT X e t/\VTc t F
def VW(X:Cx)(e:Expr)(F:TVc):Prop:=∃t,PW X e t/\VTc t F
abbrev TVa:=EV->(List U->Prop)->Prop
def VTa(n:Nat)(t:TA)(F:TVa):Prop:=∀{W B:Addr->Prop}{ρ:EV}{σ:St}{H:Hp}{R:List U->Prop}{Q:List V->Hp->Prop},EE W B H ρ σ->F ρ R->(∀us vs H',R us->us.length=n->Fw W H H'->DUs W B H' us vs->Q vs H')->t σ H Q
def VA(X:Cx)(es:List Expr)(F:TVa):Prop:=∃t,PA X es t/\VTa es.length t F
def DBs(W B:Addr->Prop)(H:Hp):List U->List V->Prop
 | [],xs=>xs=[]
 |u::l,xs=>∃x r,xs=x::r/\DB W B H u x/\DBs W B H l r
def DBs.to{W B:Addr->Prop}{H H':Hp}(e:EB W B H)(f:Fw W H H'):∀{us:List U}{vs:List V},DBs W B H us vs->DBs W B H' us vs
 | [],_,h=>h
 |_::_,_,⟨x,r,e1,h,t⟩=>⟨x,r,e1,h.to e f,DBs.to e f t⟩
def VTb(t:TA)(F:TVa):Prop:=∀{W B:Addr->Prop}{ρ:EV}{σ:St}{H:Hp}{R:List U->Prop}{Q:List V->Hp->Prop},EE W B H ρ σ->F ρ R->(∀us vs H',R us->Fw W H H'->DBs W B H' us vs->Q vs H')->t σ H Q
def VB(X:Cx)(es:List Expr)(F:TVa):Prop:=∃t,PA X es t/\VTb t F
def O2(r:R2)(g:U->U->(Sl->Prop)->Prop):Prop:=∀{W B:Addr->Prop}{H:Hp}{u v:U}{x y:V}{R:Sl->Prop}{Q:VK},EB W B H->DB W B H u x->DB W B H v y->g u v R->(∀s z H',R s->Fw W H H'->RO W B H H' s z->Q z H')->r x y H Q
def CB(r:List V->Hp->VK->Prop)(g:List U->(Sl->Prop)->Prop):Prop:=∀{W B:Addr->Prop}{H:Hp}{us:List U}{vs:List V}{R:Sl->Prop}{Q:VK},EB W B H->DBs W B H us vs->g us R->(∀s z H',R s->Fw W H H'->RO W B H H' s z->Q z H')->r vs H Q
def aDc(i:Nat):TV:=λρ R=>match (ρ[i]? :Option Sl)with
 |some (.sh u)=>R (.sh u)
 |some (.ow l)=>R (.br l)
 |some (.br l)=>R (.br l)
 |some (.oo o)=>R (.bo o)
 |some (.bo o)=>R (.bo o)
 |_=>False
def vC(u:U):TV:=λ_ R=>R (.sh u)
def vOp(g:U->U->(Sl->Prop)->Prop)(a b:TV):TV:=λρ R=>a ρ λs=>b ρ λs'=>g s.rd s'.rd R
def nH(F:TV):TVc:=λρ R=>F ρ λs=>match s.rd with
 |.v (.bl c)=>R c
 |_=>False
def aYq(a b:TVc):TVc:=λρ R=>a ρ λc=>(c=true->b ρ R)/\(c=false->R false)
def vOr(a b:TVc):TVc:=λρ R=>a ρ λc=>(c=true->R true)/\(c=false->b ρ R)
def aWw(a:TVc):TVc:=λρ R=>a ρ λc=>R (!c)
def aJz:TVa:=λ_ R=>R []
def aA6(a:TV)(b:TVa):TVa:=λρ R=>a ρ λs=>s.es λu=>b ρ λus=>R (u::us)
def aX7(a:TV)(b:TVa):TVa:=λρ R=>a ρ λs=>b ρ λus=>R (s.rd::us)
def aYu(a:TVa):TV:=λρ R=>a ρ λus=>R (.sh (.tp us))
def aZw(a:TVa):TV:=λρ R=>a ρ λus=>R (.ow us)
def aR9(F:List U->(Sl->Prop)->Prop)(a:TVa):TV:=λρ R=>a ρ λus=>F us R
inductive aYj(F:List U->(Sl->Prop)->Prop)(vs:List V)(H:Hp)(Q:VK)(z3_:XK):Prop
 |mk (W B us R:_) (q0_:EB W B H) (q1_:DUs W B H us vs) (q2_:F us R) (q3_:∀s v H',R s->Fw W H H'->RO W B H H' s v->Q v H'):aYj F vs H Q z3_
def spV(F:List U->(Sl->Prop)->Prop):Sp:=λvs H Q z3_=>aYj F vs H Q z3_
def aA(i:Nat){x:Str}(hN:X.N[i]? =some x:=by rfl)(hv:Vis X.env.scope x:=by trivial)(hd:ND x:=by decide)
  (hcd:NC x:=by decide):VE X (.Name x pos) (aDc i):=⟨_,pR hN hv hd hcd,λ{W B ρ σ H R Q} e h q=>by
 unfold aDc at h;split at h
 ·rename_i u hu;obtain⟨v,h1,h2⟩:=e.sh i u hu;exact⟨v,h1,q _ _ _ h e.eb.refl h2⟩
 ·rename_i l hu;obtain⟨p,xs,h1,h2,h3,h4⟩:=e.ow i l (.inl hu);exact⟨_,h1,q _ _ _ h e.eb.refl ⟨p,xs,rfl,h2,h3,h4⟩⟩
 ·rename_i l hu;obtain⟨p,xs,h1,h2,h3,h4⟩:=e.ow i l (.inr hu);exact⟨_,h1,q _ _ _ h e.eb.refl ⟨p,xs,rfl,h2,h3,h4⟩⟩
 ·rename_i o hu;obtain⟨p,S,h1,h2,h3⟩:=e.hd i _ o hu rfl;exact⟨_,h1,q _ _ _ h e.eb.refl ⟨p,S,rfl,h2,h3⟩⟩
 ·rename_i o hu;obtain⟨p,S,h1,h2,h3⟩:=e.hd i _ o hu rfl;exact⟨_,h1,q _ _ _ h e.eb.refl ⟨p,S,rfl,h2,h3⟩⟩
 ·exact h.elim⟩
def aNf{x:V}(f:rC x=true):VT (tC x) (vC (.v x)):=λe h q=>q _ _ _ h e.eb.refl ⟨rfl,f⟩
def aH{i j pos}:VE X (.Constant (.int i) j pos) (vC (.n i)):=⟨_,dH,aNf rfl⟩
def dX{x j pos}:VE X (.Constant (.str x) j pos) (vC (.s x)):=⟨_,aU7,aNf rfl⟩
def jH{b j pos}:VE X (.Constant (.bool b) j pos) (vC (.b b)):=⟨_,aX1,aNf rfl⟩
def tO{j pos}:VE X (.Constant .none j pos) (vC .no):=⟨_,aV6,aNf rfl⟩
def aIj{r:R2}{g:U->U->(Sl->Prop)->Prop}{ta tb:TE}{F G:TV}(o:O2 r g)(ha:VT ta F)(hb:VT tb G):VT (tOp r ta tb) (vOp g F G):=λe h q=>by
 refine ha e h λs v H1 h1 f1 r1=>?_;have e1:=e.to f1;refine hb e1 h1 λs' v' H2 h2 f2 r2=>?_;refine o (e1.to f2).eb ((r1.db e.eb).to e1.eb f2) (r2.db e1.eb) h2 λs3 z H3 h3 f3 r3=>?_;exact q _ _ _ h3 ((f1.trans f2).trans f3) (r3.back (f1.trans f2))
def bT{op:Operator}{r:R2}{g:U->U->(Sl->Prop)->Prop}{a b:Expr}{F G:TV}(ho:OpR X (binaryOp op) r)(o:O2 r g)(ha:VE X a F)(hb:VE X b G):VE X (.BinOp a op b pos) (vOp g F G):=
 let⟨_,p,f⟩:=ha;let⟨_,p',f'⟩:=hb;⟨_,jJ ho p p',aIj o f f'⟩
def bH{r:R2}{g:U->U->(Sl->Prop)->Prop}{a b:Expr}{F G:TV}(ho:IxR X r)(o:O2 r g)(ha:VE X a F)(hb:VE X b G)(hs:aIh b:=by exactλ_ _=>rfl):VE X (.Subscript a b pos) (vOp g F G):=
 let⟨_,p,f⟩:=ha;let⟨_,p',f'⟩:=hb;⟨_,yO ho p p' hs,aIj o f f'⟩
def oV{op:CmpOp}{r:R2}{g:U->U->(Sl->Prop)->Prop}{a b:Expr}{F G:TV}(ho:OpR X (compareOp op) r)(o:O2 r g)(ha:VE X a F)(hb:VE X b G)(hm:behindInMarks op b=false:=by first|exact aA9 _|rfl):VE X (.Compare a [op] [b] pos) (vOp g F G):=
 let⟨_,p,f⟩:=ha;let⟨_,p',f'⟩:=hb;⟨_,aIg ho p p' hm,aIj o f f'⟩
def zF{F:TV}(h:VT t F):VTc (aOc t) (nH F):=λe h1 q=>h e h1 λs v H1 h2 f r=>by
 have d:=r.db e.eb;revert h2 d;generalize s.rd=u;intro h2 d;split at h2
 ·exact⟨_,d.fl.1,q _ _ h2 f⟩
 ·exact h2.elim
def bJ{op:CmpOp}{r:R2}{g:U->U->(Sl->Prop)->Prop}{a b:Expr}{F G:TV}(ho:OpR X (compareOp op) r)(o:O2 r g)(ha:VE X a F)(hb:VE X b G)(hm:behindInMarks op b=false:=by first|exact aA9 _|rfl):VC X (.Compare a [op] [b] pos) (nH (vOp g F G)):=
 let⟨_,p,f⟩:=ha;let⟨_,p',f'⟩:=hb;⟨_,aD8 ho p p' hm,zF (aIj o f f')⟩
def cQ{F:TV}(ha:VE X a F)(he:∀whole,isTrue a X.env whole=(do let v<-whole;standAt a.pos;holding [v] (truthy v)):=by intro _;rfl):VC X a (nH F):=
 let⟨_,p,f⟩:=ha;⟨_,aU9 p he,zF f⟩
def cT{F:TVc}(ha:VC X a F):VC X (.UnaryOp .Not a pos) (aWw F):=let⟨_,p,f⟩:=ha;⟨_,aVm p,λe h q=>f e h λc H1 h1 f1=>q _ _ h1 f1⟩
def mY{F:TVc}(ha:VW X a F):VC X a F:=let⟨_,p,f⟩:=ha;⟨_,p.pt,f⟩
def aDr{F:TVc}(ha:VC X a F):VW X (.BoolOp .And [a] pos) F:=let⟨_,p,f⟩:=ha;⟨_,aRq p,f⟩
def kO{F:TVc}(ha:VC X a F):VW X (.BoolOp .Or [a] pos) F:=let⟨_,p,f⟩:=ha;⟨_,aVw p,f⟩
def aDh{a b:Expr}{F G:TVc}(ha:VC X a F)(hb:VW X (.BoolOp .And (b::rest) pos) G):VW X (.BoolOp .And (a::b::rest) pos) (aYq F G):=
 let⟨_,p,f⟩:=ha;let⟨_,p',f'⟩:=hb;⟨_,aWb p p',λe h q=>f e h λc H1 h1 f1=>by
  cases c with
  |true=>exact aFv (f' (e.to f1) (h1.1 rfl) λc H2 h2 f2=>q _ _ h2 (f1.trans f2))
  |false=>exact wZ (q _ _ (h1.2 rfl) f1)⟩
def pJ{a b:Expr}{F G:TVc}(ha:VC X a F)(hb:VW X (.BoolOp .Or (b::rest) pos) G):VW X (.BoolOp .Or (a::b::rest) pos) (vOr F G):=
 let⟨_,p,f⟩:=ha;let⟨_,p',f'⟩:=hb;⟨_,aW3 p p',λe h q=>f e h λc H1 h1 f1=>by
  cases c with
  |true=>exact aFv (q _ _ (h1.1 rfl) f1)
  |false=>exact wZ (f' (e.to f1) (h1.2 rfl) λc H2 h2 f2=>q _ _ h2 (f1.trans f2))⟩
def vB(F:TVc):TV:=λρ R=>F ρ λc=>R (.sh (.b c))
def aM5{F:TV}{ρ:EV}{σ:St}{W B:Addr->Prop}{H:Hp}{R:Bool->Prop}(f:VT t F)(e:EE W B H ρ σ)(h:nH F ρ R)(q:∀c H1,R c->Fw W H H1->Q (.bl c) H1):t σ H Q:=f e h λs v H1 h1 f1 r=>by
 have d:=r.db e.eb;revert h1 d;generalize s.rd=u;intro h2 d;split at h2
 ·rw[d.fl.1];exact q _ _ h2 f1
 ·exact h2.elim
def sG{a b:Expr}{F G:TV}(ha:VE X a F)(hb:VE X (.BoolOp .And (b::rest) pos) G):VE X (.BoolOp .And (a::b::rest) pos) (vB (aYq (nH F) (nH G))):=
 let⟨ta,p,f⟩:=ha;let⟨_,p',f'⟩:=hb;⟨_,aWf p p',λe h q=>show ta _ _ _ from aM5 f e h λc H1 h1 f1=>by
  refine⟨c,rfl,?_⟩;cases c with
  |true=>exact aFv (aM5 f' (e.to f1) (h1.1 rfl) λc H2 h2 f2=>q _ _ _ h2 (f1.trans f2) ⟨rfl,rfl⟩)
  |false=>exact wZ (q _ _ _ (h1.2 rfl) f1 ⟨rfl,rfl⟩)⟩
def aXh{a b:Expr}{F G:TV}(ha:VE X a F)(hb:VE X (.BoolOp .Or (b::rest) pos) G):VE X (.BoolOp .Or (a::b::rest) pos) (vB (vOr (nH F) (nH G))):=
 let⟨ta,p,f⟩:=ha;let⟨_,p',f'⟩:=hb;⟨_,aW2 p p',λe h q=>show ta _ _ _ from aM5 f e h λc H1 h1 f1=>by
  refine⟨c,rfl,?_⟩;cases c with
  |true=>exact aFv (q _ _ _ (h1.1 rfl) f1 ⟨rfl,rfl⟩)
  |false=>exact wZ (aM5 f' (e.to f1) (h1.2 rfl) λc H2 h2 f2=>q _ _ _ h2 (f1.trans f2) ⟨rfl,rfl⟩)⟩
def aUg{F:TV}(ha:VE X a F):VE X (.UnaryOp .Not a pos) (vB (aWw (nH F))):=
 let⟨ta,p,f⟩:=ha;⟨_,aU8 p,λe h q=>show ta _ _ _ from aM5 f e h λc H1 h1 f1=>⟨c,rfl,q _ _ _ h1 f1 ⟨rfl,rfl⟩⟩⟩
def aG:VA X [] aJz:=⟨_,eO,λe h q=>q _ _ _ h rfl e.eb.refl rfl⟩
def aB{es:List Expr}{F:TV}{G:TVa}(ha:VE X a F)(hb:VA X es G)(hs:SE X a es:=by rfl):VA X (a::es) (aA6 F G):=
 let⟨_,p,f⟩:=ha;let⟨_,p',f'⟩:=hb;⟨_,cF p p' hs,λe h q=>f e h λs v H1 h1 f1 r1=>by
  obtain⟨u,h1,d⟩:=r1.du e.eb h1;exact f' (e.to f1) h1 λus vs H2 h2 l2 f2 d2=>q _ _ _ h2 (by rw[Am,l2];rfl) (f1.trans f2) ⟨v,vs,rfl,DU.mono ((e.to f1).eb.keep f2) u d,d2⟩⟩
def aV:VB X [] aJz:=⟨_,eO,λe h q=>q _ _ _ h e.eb.refl rfl⟩
def aL{es:List Expr}{F:TV}{G:TVa}(ha:VE X a F)(hb:VB X es G)(hs:SE X a es:=by rfl):VB X (a::es) (aX7 F G):=
 let⟨_,p,f⟩:=ha;let⟨_,p',f'⟩:=hb;⟨_,cF p p' hs,λe h q=>f e h λs v H1 h1 f1 r1=>
  f' (e.to f1) h1 λus vs H2 h2 f2 d2=>q _ _ _ h2 (f1.trans f2) ⟨v,vs,rfl,(r1.db e.eb).to (e.to f1).eb f2,d2⟩⟩
def bZ{es:List Expr}{x1}{F:TVa}(h:VA X es F)(hl:es.length<=100:=by decide):VE X (.Tuple es x1 pos) (aYu F):=
 let⟨_,p,f⟩:=h;⟨_,aOv p,λe h q=>f e h λus vs H1 h1 l1 f1 d=>⟨by
  have:=d.length;have:(100:Nat)<=sizeLine:=by decide
  lia,λp n=>by
  have e1:=(e.to f1).eb;have f2:=e1.new (o:=.tup vs) n;exact q _ _ _ h1 (f1.trans f2) ⟨p,vs,rfl,e1.nw n,aM,DUs.mono (e1.keep f2) us d⟩⟩⟩
def bK{es:List Expr}{F:TVa}(h:VA X es F)(hl:es.length<=100:=by decide):VE X (.List es pos) (aZw F):=
 let⟨_,p,f⟩:=h;⟨_,aVj p,λ{W B ρ σ H R Q} e h q=>f e h λus vs H1 h1 l1 f1 d=>⟨by
  have:=d.length;have:(100:Nat)<=sizeLine:=by decide
  lia,λp n=>by
  have e1:=(e.to f1).eb;have f2:=e1.new (o:=.lst vs) n;exact q _ _ _ h1 (f1.trans f2) (RO.back (s:=.ow us) f1 ⟨p,vs,rfl,n,aM,DUs.mono (λb o nb h=>⟨λz=>z.elim nb (aN h n),(e1.keep f2 b o nb h).2⟩) us d⟩)⟩⟩
def aJ{x:Str}{F:List U->(Sl->Prop)->Prop}{es:List Expr}{G:TVa}{p pos:Pos}(C:Cal X.prog X.w X.K X.mg X.base CX0 k x ps (spV F))(hr:cW k X.A)(hg:Gl X x)
  (ha:VA X (a::es) G) (hdb:ND x:=by decide) (he:SE X a es:=by rfl) (hpl:BT X pos es:=by rfl):
  VE X (.Call (.Name x p) (a::es) [] pos) (aR9 F G):=
 let⟨_,p,f⟩:=ha;⟨_,aV0 C hr hg aB2 p hdb he hpl,λe h q=>f e h λus vs H1 h1 l1 f1 d=>by
  refine⟨_,_,us,_,(e.to f1).eb,(by rw[Ax];exact d),h1,λs v H2 h2 f2 r2=>q _ _ _ h2 (f1.trans f2) (r2.back f1)⟩⟩
structure Cfl(K:Ae)(C:Addr)(fs:List Str):Prop where
 cl:Cls K C
 na:∀f∈fs,mG K C f
def aHy(f:Str):List Str->List U->(Sl->Prop)->Prop
 |n::ns,u::us,R=>(n=f/\R (.sh u))∨(n≠f/\aHy f ns us R)
 |_,_,_=>False
theorem aI0{W B:Addr->Prop}{H:Hp}{f:Str}{R:Sl->Prop}:∀{ns:List Str}{us:List U}{xs:List V},DUs W B H us xs->aHy f ns us R->∃u v,R (.sh u)/\DU W B H u v/\(ns.zip xs).lookup f=some v
 |_::_,u::us,_,⟨x,r,e,h,t⟩,q=>by
  subst e;rcases q with ⟨rfl,q⟩|⟨n,q⟩
  ·exact⟨u,x,q,h,by simp[Be]⟩
  ·obtain⟨u',v,h1,h2,h3⟩:=aI0 t q;refine⟨u',v,h1,h2,?_⟩;rw[Jg,Be,show(f==_)=false from beq_eq_false_iff_ne.mpr (Cg n)];exact h3
def vFl(C:Addr)(a:TV)(f:Str):TV:=λρ R=>a ρ λs=>match s.rd with
 |.ob C' ns us=>C'=C/\aHy f ns us R
 |_=>False
def dW{fs:List Str}{f:Str}{F:TV}(c:Cfl X.K C fs)(ha:VE X a F)(hf:f∈fs:=by decide)(hb:attributeBase a f X.env (eval a X.env)=eval a X.env:=by rfl):VE X (.Attribute a f pos) (vFl C F f):=
 let⟨_,p,g⟩:=ha;⟨_,aVr p hb,λe h q=>g e h λs v H1 h1 f1 r1=>by
  have d:=r1.db e.eb;revert h1 d;generalize s.rd=u;intro h1 d;split at h1
  ·obtain⟨rfl,h1⟩:=h1;obtain⟨p,dx,xs,rfl,_,hp,hl,ds⟩:=d.ob;obtain⟨u,v,h2,h3,h4⟩:=aI0 ds h1;exact⟨p,_,dx,_,v,rfl,hp,c.cl,c.na f hf,h4,q _ _ _ h2 f1 h3⟩
  ·exact h1.elim⟩
def mOb(Cs:Addr->Prop)(m:Str)(F:Addr->List U->(Sl->Prop)->Prop)(G:TVa)(ρ:EV)(R:Sl->Prop):U->Prop
 |.ob C ns us=>Cs C/\ns.elem m=false/\G ρ λvs=>F C (.ob C ns us::vs) R
 |_=>False
def aR8(Cs:Addr->Prop)(m:Str)(F:Addr->List U->(Sl->Prop)->Prop)(a:TV)(G:TVa):TV:=λρ R=>a ρ λs=>s.es (mOb Cs m F G ρ R)
theorem aG2{m:Str}:∀{ns:List Str}{xs:List V},ns.elem m=false->(ns.zip xs).lookup m=none
 | [],_,_=>by simp
 |_::_,[],_=>by simp
 |n::ns,x::xs,h=>by
  simp only[List.elem_cons]at h;rw[Jg,Be];cases e:m==n with
  |true=>rw[e]at h;cases h
  |false=>
   rw[e]at h;exact aG2 h
def vW{m:Str}{F:Addr->List U->(Sl->Prop)->Prop}{o a:Expr}{es:List Expr}{apos pos:Pos}{Fo:TV}{G:TVa}{pl:Sem Bool}(ho:VE X o Fo)(D:Dis X.prog X.w X.K X.mg X.base CX0 k Cs m ps λC=>spV (F C))(hr:cW k X.A)(ha:VA X (a::es) G)
  (hst:SE X a es:=by rfl) (hpl:BT X pos es:=by rfl)
  (ht:eval (.Call (.Attribute o m apos) (a::es) [] pos) X.env=(do
   let ov<-eval o X.env
   standAt apos.atName
   let(f,first)<-holding [ov] (getMethod ov m pl)
   callWith pos f first (backTo pos (starEach (a::es) X.env)) (backToKw pos (keywordEach [] X.env))):=by rfl):
  VE X (.Call (.Attribute o m apos) (a::es) [] pos) (aR8 Cs m F Fo G):=
 let⟨_,p,g⟩:=ho;let⟨_,p',g'⟩:=ha;⟨_,aK9 p D hr aB2 p' hst hpl ht,λe h q=>g e h λs v H1 h1 f1 r1=>by
  obtain⟨u,h1,d⟩:=r1.du e.eb h1;match u,h1,d with
  |.ob C ns us,⟨hC,hm,h1⟩,d=>
   obtain⟨p,dx,xs,rfl,nb,hp,hl,ds⟩:=id d;refine⟨p,C,dx,_,rfl,hp,hC,aG2 hm,g' (e.to f1) h1 λvs ws H2 h2 _ f2 d2=>?_⟩;have e2:=(e.to f1).eb;exact⟨_,_,.ob C ns us::vs,_,e2.to f2,⟨_,_,rfl,DU.mono (e2.keep f2) _ d,d2⟩,h2,λs v H3 h3 f3 r3=>q _ _ _ h3 ((f1.trans f2).trans f3) (r3.back (f1.trans f2))⟩⟩
def bY{m:Str}{F:Addr->List U->(Sl->Prop)->Prop}{o:Expr}{apos pos:Pos}{Fo:TV}{pl:Sem Bool}(ho:VE X o Fo)(D:Dis X.prog X.w X.K X.mg X.base CX0 k Cs m ps λC=>spV (F C))(hr:cW k X.A)
  (ht:eval (.Call (.Attribute o m apos) [] [] pos) X.env=(do
   let ov<-eval o X.env
   standAt apos.atName
   let(f,first)<-holding [ov] (getMethod ov m pl)
   callWith pos f first (backTo pos (starEach [] X.env)) (backToKw pos (keywordEach [] X.env))):=by rfl):
  VE X (.Call (.Attribute o m apos) [] [] pos) (aR8 Cs m F Fo aJz):=
 let⟨_,p,g⟩:=ho;⟨_,aKw p D hr aB2 ht,λe h q=>g e h λs v H1 h1 f1 r1=>by
  obtain⟨u,h1,d⟩:=r1.du e.eb h1;match u,h1,d with
  |.ob C ns us,⟨hC,hm,h1⟩,d=>
   obtain⟨p,dx,xs,rfl,nb,hp,hl,ds⟩:=id d;exact⟨p,C,dx,_,rfl,hp,hC,aG2 hm,_,_,[.ob C ns us],_,(e.to f1).eb,⟨_,_,rfl,d,rfl⟩,h1,λs v H3 h3 f3 r3=>q _ _ _ h3 (f1.trans f3) (r3.back f1)⟩⟩
def gI(f:Int->Int->V):U->U->(Sl->Prop)->Prop
 |.v (.int i),.v (.int j),R=>R (.sh (.v (f i j)))
 |_,_,_=>False
def gIC(C:Int->Int->Prop)(f:Int->Int->V):U->U->(Sl->Prop)->Prop
 |.v (.int i),.v (.int j),R=>C i j/\R (.sh (.v (f i j)))
 |_,_,_=>False
def cL(hf:∀i j,rC (f i j)=true:=by intros;rfl):O2 (rI0 f) (gI f):=λ{W B H u v x y R Q} e d1 d2 h q=>by
 unfold gI at h;split at h
 ·rename_i i j;exact⟨i,j,d1.int,d2.int,q _ _ _ h e.refl ⟨rfl,hf i j⟩⟩
 ·exact h.elim
def uR{C:Int->Int->Prop}(hf:∀i j,rC (f i j)=true:=by intros;rfl):O2 (rI C f) (gIC C f):=λ{W B H u v x y R Q} e d1 d2 h q=>by
 unfold gIC at h;split at h
 ·rename_i i j;exact⟨i,j,d1.int,d2.int,h.1,q _ _ _ h.2 e.refl ⟨rfl,hf i j⟩⟩
 ·exact h.elim
def aQ9{α β:Type}{xs:List α}{ys:List β}{i:Int}{x:α}(e:xs.length=ys.length)(h:atI xs i=some x):∃(j:Nat)(y:β),xs[j]? =some x/\ys[j]? =some y/\atI ys i=some y:=by
 unfold atI at h⊢;rw[<-e];cases q:ixN xs.length i with
 |none=>rw[q]at h;cases h
 |some j=>
  rw[q]at h;have h':xs[j]? =some x:=h;have hj:=(List.getElem?_eq_some_iff.mp h').1;exact⟨j,_,h',Ag (by rw[<-e];exact hj),Ag (by rw[<-e];exact hj)⟩
def DUs.atI{W B:Addr->Prop}{H:Hp}{l:List U}{i:Int}{u:U}(d:DUs W B H l xs)(h:atI l i=some u):∃x,L2.atI xs i=some x/\DU W B H u x:=by
 obtain⟨j,x,h1,h2,h3⟩:=aQ9 d.length h;obtain⟨y,h4,h5⟩:=d.get h1;rw[h2]at h4;cases h4;exact⟨x,h3,h5⟩
def aYb:U->U->(Sl->Prop)->Prop
 |.ls l,.v (.int i),R=>∃u,atI l i=some u/\R (.sh u)
 |_,_,_=>False
def aYk:U->U->(Sl->Prop)->Prop
 |.tp l,.v (.int i),R=>∃u,atI l i=some u/\R (.sh u)
 |_,_,_=>False
def aT3{K:Ae}:O2 (aVh K) aYb:=λ{W B H u v x y R Q} e d1 d2 h q=>by
 unfold aYb at h;split at h
 ·obtain⟨w,h1,h2⟩:=h;obtain⟨p,xs,rfl,_,hp,ds⟩:=d1.ls e;obtain⟨z,h3,h4⟩:=ds.atI h1;exact⟨p,xs,_,z,rfl,d2.int,SqL.of hp,h3,q _ _ _ h2 e.refl h4⟩
 ·exact h.elim
def aUi{K:Ae}:O2 (aTp K) aYk:=λ{W B H u v x y R Q} e d1 d2 h q=>by
 unfold aYk at h;split at h
 ·obtain⟨w,h1,h2⟩:=h;obtain⟨p,xs,rfl,_,hp,ds⟩:=d1.tp;obtain⟨z,h3,h4⟩:=ds.atI h1;exact⟨p,xs,_,z,rfl,d2.int,SqT.of hp,h3,q _ _ _ h2 e.refl h4⟩
 ·exact h.elim
mutual
def U.d:U->D
 |.v x=> .fl x
 |.tp l=> .tp (U.ds l)
 |.ls l=> .ls (U.ds l)
 |_=> .fl .non
def U.ds:List U->List D
 | []=>[]
 |u::l=>U.d u::U.ds l
end
mutual
def U.dt:Nat->U->Prop
 |_,.v _=>True
 |n+1,.tp l=>U.dts n l
 |n+1,.ls l=>U.dts n l
 |_,_=>False
def U.dts:Nat->List U->Prop
 |_,[]=>True
 |n,u::l=>U.dt n u/\U.dts n l
end
section
variable {W B:Addr->Prop}{H:Hp}{K:Ae}
mutual
theorem DU.den:∀(n:Nat)(u:U){v:V},u.dt n->DU W B H u v->Den K H u.d v
 |_,.v _,_,_,h=>h
 |n+1,.tp l,_,t,⟨p,xs,e,_,hp,ds⟩=>⟨p,xs,e,SqT.of hp,DUs.dens n l t ds⟩
 |n+1,.ls l,_,t,⟨p,xs,e,_,hp,ds⟩=>⟨p,xs,e,SqL.of hp,DUs.dens n l t ds⟩
theorem DUs.dens:∀(n:Nat)(l:List U){xs:List V},U.dts n l->DUs W B H l xs->xY K H (U.ds l) xs
 |_,[],_,_,h=>h
 |n,u::l,_,⟨t,t'⟩,⟨x,r,e,h,h'⟩=>⟨x,r,e,DU.den n u t h,DUs.dens n l t' h'⟩
end
mutual
theorem U.dep:∀(n:Nat)(u:U),u.dt n->u.d.dep<=n
 |_,.v _,_=>Bd _
 |n+1,.tp l,t=>Ss (U.deps n l t)
 |n+1,.ls l,t=>Ss (U.deps n l t)
theorem U.deps:∀(n:Nat)(l:List U),U.dts n l->D.deps (U.ds l)<=n
 |_,[],_=>Bd _
 |n,u::l,⟨t,t'⟩=>Nat.max_le.mpr ⟨U.dep n u t,U.deps n l t'⟩
end
def DB.den{n:Nat}{u:U}(t:u.dt n)(h:DB W B H u v):Den K H u.d v:=by
 rcases h with h|⟨l,p,xs,rfl,rfl,w,h1,h2⟩
 ·exact DU.den n u t h
 ·match n,t with
  |n+1,t=>exact⟨p,xs,rfl,SqL.of h1,DUs.dens n l t h2⟩
end
def U.eq(u v:U):Bool:=u.d.eq v.d
def gEq(neg:Bool):U->U->(Sl->Prop)->Prop:=λu v R=>u.dt 40/\v.dt 40/\R (.sh (.b (if neg then !u.eq v else u.eq v)))
def cV{K:Ae}{neg:Bool}:O2 (aUp K neg) (gEq neg):=λ{W B H u v x y R Q} e d1 d2 ⟨t1,t2,h⟩ q=>by
 have h1:=U.dep 40 u t1;have h2:=U.dep 40 v t2;exact⟨u.d,v.d,d1.den t1,d2.den t2,∅,q _ _ _ h e.refl ⟨rfl,rfl⟩⟩
structure aEz where
 nx:EV->Prop
 rt:Sl->Prop
 bk:EV->Prop:=λ_=>False
 ct:EV->Prop:=λ_=>False
 mr:EV->U->Prop:=λ_ _=>False
abbrev TVS:=aEz->EV->Prop
def Bx(B:Addr->Prop)(A:Nat->Addr->Prop)(p:Addr):Prop:=B p∨∃i,A i p
def Sl.brd:Sl->Bool
 |.br _=>true
 |.bo _=>true
 |_=>false
structure EO(W B:Addr->Prop)(H0:Hp)(A:Nat->Addr->Prop)(ρ:EV)(σ:St)(H:Hp):Prop where
 eb:EB W B H0
 fw:Fw W H0 H
 len:ρ.length=σ.length
 an:∀i p,A i p->H0 p=none
 aw:∀i p,A i p->∃o,H p=some o/\Mt o
 inj:∀i j p,A i p->A j p->i=j
 sh:∀(i:Nat)(u:U),ρ[i]? =some (Sl.sh u)->∃v,σ[i]? =some (some v)/\DU W (Bx B A) H u v
 hd:∀(i:Nat)(s:Sl)(w:Own),ρ[i]? =some s->s.hold=some w->∃p,σ[i]? =some (some (V.ref p))/\w.φ W (Bx B A) (A i) H p
 nb:∀(i:Nat)(s:Sl),ρ[i]? =some s->s.brd=false
def EO.ow{W B:Addr->Prop}{H0 H:Hp}{A:Nat->Addr->Prop}{ρ:EV}{σ:St}(o:EO W B H0 A ρ σ H)(i:Nat)(l:List U)(h:ρ[i]? =some (Sl.ow l)):∃p xs,σ[i]? =some (some (V.ref p))/\(∀b,A i b↔b=p)/\H p=some (.lst xs)/\DUs W (Bx B A) H l xs:=let⟨p,h1,h2,xs,h3⟩:=o.hd i _ _ h rfl;⟨p,xs,h1,h2,h3⟩
structure aZ1(W B:Addr->Prop)(H0:Hp)(E:aEz)(D:Ends):Prop where
 nx:∀{A ρ σ H},EO W B H0 A ρ σ H->E.nx ρ->D.nx σ H
 bk:∀{A ρ σ H},EO W B H0 A ρ σ H->E.bk ρ->D.bk σ H
 ct:∀{A ρ σ H},EO W B H0 A ρ σ H->E.ct ρ->D.ct σ H
 rt:∀{s v H},Fw W H0 H->RO W B H0 H s v->E.rt s->D.rt v H
 mr:∀{A ρ σ H u v},EO W B H0 A ρ σ H->DU W (Bx B A) H u v->E.mr ρ u->D.rt v H
def VTs(t:TS)(G:TVS):Prop:=∀{W B:Addr->Prop}{H0:Hp}{A:Nat->Addr->Prop}{ρ:EV}{σ:St}{H:Hp}{E:aEz}{D:Ends},EO W B H0 A ρ σ H->G E ρ->aZ1 W B H0 E D->t D σ H
def VS(X:Cx)(st:Stmt)(G:TVS):Prop:=∃t,PS X st t/\VTs t G
def VSs(X:Cx)(st:List Stmt)(G:TVS):Prop:=∃t,PSs X st t/\VTs t G
section
variable {W B:Addr->Prop}{H0 H H1:Hp}{A:Nat->Addr->Prop}{ρ:EV}{σ:St}
def EO.now(o:EO W B H0 A ρ σ H)(h:H0 p=none):¬B p:=λz=>o.eb.dm p z h
def EO.awn(o:EO W B H0 A ρ σ H)(h:A i p):H p≠none:=λn=>by
 obtain⟨xs,q,_⟩:=o.aw i p h;rw[q]at n;cases n
def EO.nw(o:EO W B H0 A ρ σ H)(h:A i p):¬W p:=λz=>o.now (o.an i p h) (o.eb.wb p z)
def EO.ee(o:EO W B H0 A ρ σ H):EE W (Bx B A) H ρ σ:=
 ⟨⟨λp h=>h.elim ((o.eb.to o.fw).bl p) λ⟨i,h⟩=>o.aw i p h,λp w=> .inl (o.eb.wb p w),o.fw.wo⟩,o.len,o.sh,λi s w h hs=>let⟨p,h1,h3⟩:=o.hd i s w h hs;⟨p,_,h1,λ_=>o.nw,h3⟩⟩
def EO.to(o:EO W B H0 A ρ σ H)(f:Fw W H H1):EO W B H0 A ρ σ H1:=by
 have e:=o.ee;have e1:=e.to f;refine⟨o.eb,o.fw.trans f,o.len,o.an,λi p h=>e1.eb.bl p (.inr ⟨i,h⟩),o.inj,e1.sh,λi s w h hs=>?_,o.nb⟩;obtain⟨p,h1,h3⟩:=o.hd i s w h hs;exact⟨p,h1,w.to e.eb f (λ_=>o.nw) h3⟩
def cC{α:Type}{l:List α}{i j:Nat}{x y:α}(h:(l.set i x)[j]? =some y):(j=i/\y=x/\i<l.length)∨(j≠i/\l[j]? =some y):=by
 rw[Me]at h;split at h
 ·rename_i e;split at h
  ·cases h;exact .inl ⟨e.symm,rfl,by assumption⟩
  ·cases h
 ·rename_i e;exact .inr ⟨λz=>e z.symm,h⟩
def get_set{α:Type}{l:List α}{x:α}(h:i<l.length):(l.set i x)[i]? =some x:=by rw[Me];simp[h]
def fO{α:Type}{l:List α}{i j:Nat}{x:α}(h:j≠i):(l.set i x)[j]? =l[j]? :=by rw[Me,if_neg (Cg h)]
def EO.kp:∀b o,¬Bx B A b->H b=some o->¬Bx B (λj q=>j≠i/\A j q) b/\H b=some o:=λb o n h=>⟨λz=>n (z.elim .inl λ⟨j,h⟩=> .inr ⟨j,h.2⟩),h⟩
def Own.at_(w:Own)(h:w.φ W B S H p)(e:∀b,T b↔S b):w.φ W B T H p:=by
 rw[show T=S from funext λb=>propext (e b)];exact h
def aDp{i j:Nat}(n:j≠i):∀b,(j≠i/\A j b)↔A j b:=λ_=>⟨λh=>h.2,λh=>⟨n,h⟩⟩
def EO.setSh(o:EO W B H0 A ρ σ H){u:U}(d:DU W (Bx B A) H u v):EO W B H0 (λj q=>j≠i/\A j q) (ρ.set i (.sh u)) (σ.set i (some v)) H:=by
 refine⟨o.eb,o.fw,by rw[Cu,Cu,o.len],λj p h=>o.an j p h.2,λj p h=>o.aw j p h.2,λj j' p h h'=>o.inj j j' p h.2 h'.2,λj u' h=>?_,λj s w h hs=>?_,λj s h=>?_⟩
 ·rcases cC h with ⟨rfl,e,hl⟩|⟨ne,h⟩
  ·cases e;exact⟨v,get_set (o.len▸hl),DU.mono EO.kp u d⟩
  ·obtain⟨v',h1,h2⟩:=o.sh j u' h;exact⟨v',by rw[fO ne];exact h1,DU.mono EO.kp u' h2⟩
 ·rcases cC h with ⟨rfl,rfl,hl⟩|⟨ne,h⟩
  ·cases hs
  ·obtain⟨p,h1,h3⟩:=o.hd j s w h hs;exact⟨p,by rw[fO ne];exact h1,w.at_ (w.mono EO.kp (λ_ _=>rfl) h3) (aDp ne)⟩
 ·rcases cC h with ⟨rfl,rfl,hl⟩|⟨ne,h⟩
  ·rfl
  ·exact o.nb j s h
def EO.setOo(o:EO W B H0 A ρ σ H)(f:Fw W H H1){s:Sl}{w:Own}{S:Addr->Prop}(hs:s.hold=some w)(hb:s.brd=false)(n:∀b,S b->H b=none)(d:w.φ W (λb=>Bx B A b∨S b) S H1 p):
  EO W B H0 (λj q=>(j=i/\S q)∨(j≠i/\A j q)) (ρ.set i s) (σ.set i (some (.ref p))) H1:=by
 have o1:=o.to f;have k0:∀b o,¬(Bx B A b∨S b)->H1 b=some o->¬Bx B (λj q=>(j=i/\S q)∨(j≠i/\A j q)) b/\H1 b=some o:=λb o n h=>⟨λz=>n (z.elim (λz=> .inl (.inl z)) λ⟨j,h⟩=>h.elim (λz=> .inr z.2) λz=> .inl (.inr ⟨j,z.2⟩)),h⟩;have k:∀b o,¬Bx B A b->H b=some o->¬Bx B (λj q=>(j=i/\S q)∨(j≠i/\A j q)) b/\H1 b=some o:=λb x nb h=>k0 b x (λz=>z.elim nb λz=>by rw[n b z]at h;cases h) (o.ee.eb.keep f b x nb h).2;refine⟨o.eb,o1.fw,by rw[Cu,Cu,o.len],λj q h=>?_,λj q h=>?_,λj j' q h h'=>?_,λj u' h=>?_,λj s' w' h hs'=>?_,λj s' h=>?_⟩
 ·rcases h with ⟨_,h⟩|⟨_,h⟩
  ·exact o.fw.none_ (n q h)
  ·exact o.an j q h
 ·rcases h with ⟨_,h⟩|⟨_,h⟩
  ·exact w.th d q h
  ·exact o1.aw j q h
 ·rcases h with ⟨e1,e2⟩|⟨_,h⟩
  ·rcases h' with ⟨e3,_⟩|⟨_,h'⟩
   ·rw[e1,e3]
   ·exact(o.awn h' (n q e2)).elim
  ·rcases h' with ⟨_,e3⟩|⟨_,h'⟩
   ·exact(o.awn h (n q e3)).elim
   ·exact o.inj j j' q h h'
 ·rcases cC h with ⟨rfl,rfl,hl⟩|⟨ne,h⟩
  ·cases hs
  ·obtain⟨v',h1,h2⟩:=o.sh j u' h;exact⟨v',by rw[fO ne];exact h1,DU.mono k u' h2⟩
 ·rcases cC h with ⟨rfl,rfl,hl⟩|⟨ne,h⟩
  ·rw[hs]at hs';cases hs';exact⟨p,get_set (o.len▸hl),w.at_ (w.mono k0 (λ_ _=>rfl) d) λb=>⟨λh=>h.elim (λh=>h.2) λh=>absurd rfl h.1,λh=> .inl ⟨rfl,h⟩⟩⟩
  ·obtain⟨q,h1,h3⟩:=o.hd j s' w' h hs';exact⟨q,by rw[fO ne];exact h1,w'.at_ (w'.mono k (λb hb=>let⟨x,hx,_⟩:=w'.th h3 b hb;(f.fr b x (o.nw hb) hx).trans hx.symm) h3) λb=>⟨λh=>h.elim (λh=>absurd h.1 ne) λh=>h.2,λh=> .inr ⟨ne,h⟩⟩⟩
 ·rcases cC h with ⟨rfl,rfl,hl⟩|⟨ne,h⟩
  ·exact hb
  ·exact o.nb j s' h
def EO.setOw(o:EO W B H0 A ρ σ H)(f:Fw W H H1){l:List U}(n:H p=none)(hp:H1 p=some (.lst xs))(d:DUs W (λb=>Bx B A b∨b=p) H1 l xs):
  EO W B H0 (λj q=>(j=i/\q=p)∨(j≠i/\A j q)) (ρ.set i (.ow l)) (σ.set i (some (.ref p))) H1:=o.setOo f (s:=.ow l) (S:=(·=p)) rfl rfl (λb hb=>by rw[hb];exact n) ⟨λ_=>Mm,xs,hp,d⟩
end
section
variable {W B:Addr->Prop}{H0 H H1:Hp}{A:Nat->Addr->Prop}{ρ:EV}{σ:St}
def EO.chg(o:EO W B H0 A ρ σ H){s':Sl}{w':Own}{x:HO}{p q:Addr}(hg:σ[i]? =some (some (V.ref p)))(hq:A i q)(hs':s'.hold=some w')(hb:s'.brd=false)(d:w'.φ W (Bx B A) (A i) (upd H q x) p):EO W B H0 A (ρ.set i s') σ (upd H q x):=by
 have k:∀b y,¬Bx B A b->H b=some y->¬Bx B A b/\upd H q x b=some y:=λb y n h=>⟨n,(aO (λz:b=q=>n (by rw[z];exact .inr ⟨i,hq⟩))).trans h⟩;refine⟨o.eb,⟨λb y w h=>?_,λr hr=>?_⟩,by rw[Cu,o.len],o.an,λj r h=>?_,o.inj,λj u h=>?_,λj m v h hm=>?_,λj m h=>?_⟩
 ·rw[aO (aN h (o.an i q hq))];exact o.fw.fr b y w h
 ·obtain⟨x,y,z,h⟩:=o.fw.wo r hr;exact⟨x,y,z,(aO (λe:r=q=>o.nw hq (by rw[<-e];exact hr))).trans h⟩
 ·by_cases e:r=q
  ·rw[e];exact w'.th d q hq
  ·rw[aO e];exact o.aw j r h
 ·rcases cC h with ⟨rfl,rfl,hl⟩|⟨ne,h⟩
  ·cases hs'
  ·obtain⟨v',h1,h2⟩:=o.sh j u h;exact⟨v',h1,DU.mono k u h2⟩
 ·rcases cC h with ⟨rfl,rfl,hl⟩|⟨ne,h⟩
  ·rw[hs']at hm;cases hm;exact⟨p,hg,d⟩
  ·obtain⟨r,h1,h3⟩:=o.hd j m v h hm;exact⟨r,h1,v.mono k (λb hb=>aO (λe:b=q=>ne (o.inj j i q (by rw[<-e];exact hb) hq))) h3⟩
 ·rcases cC h with ⟨rfl,rfl,hl⟩|⟨ne,h⟩
  ·exact hb
  ·exact o.nb j m h
def EO.own(o:EO W B H0 A ρ σ H){l':List U}{xs':List V}(hg:σ[i]? =some (some (V.ref p)))(hp:∀b,A i b↔b=p)(d:DUs W (Bx B A) H l' xs'):EO W B H0 A (ρ.set i (.ow l')) σ (upd H p (.lst xs')):=
 o.chg hg ((hp p).mpr rfl) (s':=.ow l') rfl rfl ⟨hp,xs',aM,DUs.mono (λb y n h=>⟨n,(aO (λz:b=p=>n (by rw[z];exact .inr ⟨i,(hp p).mpr rfl⟩))).trans h⟩) l' d⟩
def EO.frz(o:EO W B H0 A ρ σ H){i:Nat}{s:Sl}{w:Own}{u:U}(hi:ρ[i]? =some s)(hs:s.hold=some w)(hu:∀{W B S H p},(∀b,S b->¬B b)->w.φ W B S H p->DU W B H u (.ref p)):EO W B H0 (λj q=>j≠i/\A j q) (ρ.set i (.sh u)) σ H:=by
 refine⟨o.eb,o.fw,by rw[Cu,o.len],λj p h=>o.an j p h.2,λj p h=>o.aw j p h.2,λj j' p h h'=>o.inj j j' p h.2 h'.2,λj u' h=>?_,λj m v h hm=>?_,λj m h=>?_⟩
 ·rcases cC h with ⟨rfl,e,hl⟩|⟨ne,h⟩
  ·cases e;obtain⟨p,h1,h3⟩:=o.hd j s w hi hs;exact⟨_,h1,hu (λb hb z=>z.elim (o.now (o.an j b hb)) λ⟨j',h⟩=>h.1 (o.inj j' j b h.2 hb)) (w.mono EO.kp (λ_ _=>rfl) h3)⟩
  ·obtain⟨v',h1,h2⟩:=o.sh j u' h;exact⟨v',h1,DU.mono EO.kp u' h2⟩
 ·rcases cC h with ⟨rfl,rfl,hl⟩|⟨ne,h⟩
  ·cases hm
  ·obtain⟨p,h1,h3⟩:=o.hd j m v h hm;exact⟨p,h1,v.at_ (v.mono EO.kp (λ_ _=>rfl) h3) (aDp ne)⟩
 ·rcases cC h with ⟨rfl,rfl,hl⟩|⟨ne,h⟩
  ·rfl
  ·exact o.nb j m h
def aY4{l:List U}:∀{W B S H p},(∀b,S b->¬B b)->(lsO l).φ W B S H p->DU W B H (.ls l) (.ref p):=λn ⟨s,xs,h,d⟩=>⟨_,xs,rfl,n _ ((s _).mpr rfl),h,d⟩
def aYv{w:Own}:∀{W B S H p},(∀b,S b->¬B b)->w.φ W B S H p->DU W B H (.op w.fz) (.ref p):=λn h=>⟨_,_,rfl,n,h⟩
structure Rb(W:Addr->Prop)(H0 H1:Hp):Prop where
 le:∀b o,¬W b->H0 b=some o->H1 b=some o
 no:∀p,H1 p=none->H0 p=none
def EO.un{H0':Hp}(o:EO W B H0' A ρ σ H)(e:EB W B H0)(r:Rb W H0 H0'):EO W B H0 A ρ σ H:=
 ⟨e,⟨λb x w h=>o.fw.fr b x w (r.le b x w h),o.fw.wo⟩,o.len,λi p h=>r.no p (o.an i p h),o.aw,o.inj,o.sh,o.hd,o.nb⟩
def RO.un{H0':Hp}{s:Sl}(r:Rb W H0 H0')(h:RO W B H0' H s v):RO W B H0 H s v:=by
 match s,h with
 |.sh u,h=>exact h
 |.ow l,⟨p,xs,e1,n1,h2,h3⟩=>exact⟨p,xs,e1,r.no p n1,h2,h3⟩
 |.br l,h=>exact h
 |.oo w,⟨p,S,e1,n1,h⟩=>exact⟨p,S,e1,λb hb=>r.no b (n1 b hb),h⟩
 |.bo w,h=>exact h
open Classical in
def EO.reb(o:EO W B H0 A ρ σ H):∃H0',EO W B H0' A ρ σ H/\Rb W H0 H0'/\∀b x,(¬ ∃i,A i b)->H b=some x->H0' b=some x:=by
 refine⟨λb=>if∃i,A i b then none else H b,?_,?_,λb x n h=>(if_neg n).trans h⟩
 ·have nb:∀p,B p->¬ ∃i,A i p:=λp hp ⟨i,h⟩=>o.now (o.an i p h) hp;refine⟨⟨λp hp=>by rw[if_neg (nb p hp)];exact o.ee.eb.bl p (.inl hp),o.eb.wb,λp hp=>?_⟩,⟨λb x w h=>?_,o.fw.wo⟩,o.len,λi p h=>if_pos ⟨i,h⟩,o.aw,o.inj,o.sh,o.hd,o.nb⟩
  ·obtain⟨x,y,z,h⟩:=o.fw.wo p hp;exact⟨x,y,z,(if_neg (nb p (o.eb.wb p hp))).trans h⟩
  ·split at h
   ·cases h
   ·exact h
 ·refine⟨λb x w h=>?_,λp h=>?_⟩
  ·refine(if_neg λ⟨i,q⟩=>?_).trans (o.fw.fr b x w h);rw[o.an i b q]at h;cases h
  ·split at h
   ·rename_i q;obtain⟨i,q⟩:=q;exact o.an i p q
   ·cases q:H0 p with
    |none=>rfl
    |some x=>
     by_cases w:W p
     ·obtain⟨_,_,_,z⟩:=o.fw.wo p w;rw[z]at h;cases h
     ·rw[o.fw.fr p x w q]at h;cases h
end
def aZg(t u:TVS):TVS:=λE ρ=>t {E with nx:=u E} ρ
def aYw:TVS:=λE ρ=>E.nx ρ
def vIf(c:TVc)(t u:TVS):TVS:=λE ρ=>c ρ λb=>(b=true->t E ρ)/\(b=false->u E ρ)
def aQf(i:Nat)(ρ:EV)(k:EV->Prop):Sl->Prop
 |.sh u=>k (ρ.set i (.sh u))
 |.ow l=>k (ρ.set i (.ow l))
 |.oo w=>k (ρ.set i (.oo w))
 |_=>False
def aPi(i:Nat)(F:TV):TVS:=λE ρ=>F ρ (aQf i ρ E.nx)
def aZv(F:TV):TVS:=λE ρ=>F ρ λs=>match s with
 |.br _=>False
 |.bo _=>False
 |s=>E.rt s
def aOi(i:Nat):TVS:=λE ρ=>match (ρ[i]? :Option Sl)with
 |some (.sh u)=>E.rt (.sh u)
 |some (.ow l)=>E.rt (.ow l)
 |some (.oo w)=>E.rt (.oo w)
 |_=>False
def vDo(F:TV):TVS:=λE ρ=>F ρ λ_=>E.nx ρ
def aXx(i:Nat)(G:TVS):TVS:=λE ρ=>match (ρ[i]? :Option Sl)with
 |some (.ow l)=>G E (ρ.set i (.sh (.ls l)))
 |some (.oo w)=>G E (ρ.set i (.sh (.op w.fz)))
 |_=>G E ρ
def aWp(i:Nat)(F:TV):TVS:=λE ρ=>match (ρ[i]? :Option Sl)with
 |some (.ow l)=>l.length<10000/\F ρ λs=>s.es λu=>E.nx (ρ.set i (.ow (l++[u])))
 |_=>False
def aUn(i:Nat)(F:TV):TVS:=λE ρ=>match (ρ[i]? :Option Sl)with
 |some (.ow l)=>F ρ λs=>match s.rd with
  |.ls m=>l.length+m.length<10000/\E.nx (ρ.set i (.ow (l++m)))
  |_=>False
 |_=>False
abbrev TVg:=U->EV->(EV->Prop)->Prop
def VTg(g:TG)(G:TVg):Prop:=∀{W B:Addr->Prop}{H0:Hp}{A:Nat->Addr->Prop}{ρ:EV}{σ:St}{H:Hp}{u:U}{v:V}{k:EV->Prop}{Q:St->Hp->Prop},EO W B H0 A ρ σ H->DU W (Bx B A) H u v->G u ρ k->(∀A' ρ' σ',EO W B H0 A' ρ' σ' H->k ρ'->Q σ' H)->g v σ H Q
def VG(X:Cx)(tg:Expr)(G:TVg):Prop:=∃g,PG X tg g/\VTg g G
def aZ9(g:TGs)(is:List Nat):Prop:=∀{W B:Addr->Prop}{H0:Hp}{A:Nat->Addr->Prop}{ρ:EV}{σ:St}{H:Hp}{us:List U}{vs:List V}{k:EV->Prop}{Q:St->Hp->Prop},EO W B H0 A ρ σ H->DUs W (Bx B A) H us vs->us.length=is.length->k ((is.zip us).foldl (λρ x=>ρ.set x.1 (.sh x.2)) ρ)->(∀A' ρ' σ',EO W B H0 A' ρ' σ' H->k ρ'->Q σ' H)->g vs σ H Q
def VGs(X:Cx)(es:List Expr)(is:List Nat):Prop:=∃g,PGs X es g/\aZ9 g is
def gR(i:Nat):TVg:=λu ρ k=>k (ρ.set i (.sh u))
def zT(is:List Nat):TVg:=λu ρ k=>match u with
 |.tp us=>us.length=is.length/\k ((is.zip us).foldl (λρ x=>ρ.set x.1 (.sh x.2)) ρ)
 |_=>False
def eF(g:TVg)(b:TVS)(E:aEz):List U->EV->Prop
 | [],ρ=>E.nx ρ
 |u::r,ρ=>g u ρ λρ1=>b {E with nx:=eF g b E r,ct:=eF g b E r,bk:=E.nx} ρ1
def aZz(g:TVg)(F:TVa)(b:TVS):TVS:=λE ρ=>F ρ λl=>eF g b E l ρ
def aW:VSs X [] aYw:=⟨_,nQ,λo h i=>i.nx o h⟩
def aF{st:Stmt}{G:TVS}(h:VS X st G):VSs X [st] G:=let⟨_,p,f⟩:=h;⟨_,eG p,f⟩
def aC{st:Stmt}{rest:List Stmt}{F G:TVS}(h:VS X st F)(h':VSs X rest G):VSs X (st::rest) (aZg F G):=
 let⟨_,p,f⟩:=h;let⟨_,p',f'⟩:=h';⟨_,bO p p',λo h i=>f o h ⟨λo1 h1=>f' o1 h1 i,i.bk,i.ct,i.rt,i.mr⟩⟩
def dU{st:List Stmt}{G:TVS}(i:Nat)(h:VSs X st G):VSs X st (aXx i G):=let⟨_,p,f⟩:=h;⟨_,p,λo h j=>by
 unfold aXx at h;split at h
 ·rename_i hi;exact f (o.frz hi rfl aY4) h j
 ·rename_i hi;exact f (o.frz hi rfl aYv) h j
 ·exact f o h j⟩
def bQ{c:Expr}{a b:List Stmt}{C:TVc}{F G:TVS}(hc:VC X c C)(ha:VSs X a F)(hb:VSs X b G):VS X (.If c a b pos) (vIf C F G):=
 let⟨_,p,f⟩:=hc;let⟨_,p1,f1⟩:=ha;let⟨_,p2,f2⟩:=hb;⟨_,yL p p1 p2,λo h i=>f o.ee h λc H1 h1 w=>by
  cases c with
  |true=>exact aFv (f1 (o.to w) (h1.1 rfl) i)
  |false=>exact wZ (f2 (o.to w) (h1.2 rfl) i)⟩
def aBb{W B:Addr->Prop}{H0 H H1:Hp}{A:Nat->Addr->Prop}{ρ:EV}{σ:St}{s:Sl}{k:EV->Prop}{Q:St->Hp->Prop}(o:EO W B H0 A ρ σ H)(f:Fw W H H1)(r:RO W (Bx B A) H H1 s v)(h:aQf i ρ k s)(q:∀{A' ρ' σ'},EO W B H0 A' ρ' σ' H1->k ρ'->Q σ' H1):Q (σ.set i (some v)) H1:=by
 match s,r,h with
 |.sh u,r,h=>exact q ((o.to f).setSh r) h
 |.ow l,⟨p,xs,e1,h1,h2,h3⟩,h=>
  subst e1;exact q (o.setOw f h1 h2 h3) h
 |.oo w,⟨p,S,e1,h1,h2⟩,h=>
  subst e1;exact q (o.setOo f (s:=.oo w) rfl rfl h1 h2) h
def aP{x:Str}{e:Expr}{pos pos':Pos}{F:TV}(hN:X.N.Nodup)(he:VE X e F)(hi:X.N[i]? =some x:=by rfl)(hx:Loc X.env.scope x:=by first|exact Dc rfl|exact Dl rfl)(hs:swapsWith e (some (.Name x pos')) pos.line X.env=pure false:=by rfl)(hf:FL X x:=by trivial):
  VS X (.Assign [.Name x pos'] e pos) (aPi i F):=
 let⟨_,p,f⟩:=he;⟨_,aEc hN hi hx p hs hf,λo h j=>f o.ee h λs v H1 h1 w r=>aBb o w r h1 j.nx⟩
def aQ{e:Expr}{F:TV}(he:VE X e F):VS X (.Return (some e) pos) (aZv F):=
 let⟨_,p,f⟩:=he;⟨_,xV p,λ{W B H0 A ρ σ H E D} o h j=>f o.ee h λs v H1 h1 w r=>by
  have fw:=o.fw.trans w;have less:∀{H:Hp} b(x:HO),¬Bx B A b->H b=some x->¬B b/\H b=some x:=λb x n h=>⟨λz=>n (.inl z),h⟩;match s,h1,r with
  |.sh u,h1,r=>exact j.rt fw (s:=.sh u) (DU.mono less u r) h1
  |.ow l,h1,⟨p,xs,e1,h2,h3,h4⟩=>
   refine j.rt fw (s:=.ow l) ?_ h1;exact RO.back (s:=.ow l) o.fw ⟨p,xs,e1,h2,h3,DUs.mono (λb x n h=>⟨λz=>n (z.elim (λz=> .inl (.inl z)) .inr),h⟩) l h4⟩
  |.oo w,h1,⟨p,S,e1,h2,h3⟩=>
   refine j.rt fw (s:=.oo w) ?_ h1;exact RO.back (s:=.oo w) o.fw ⟨p,S,e1,h2,w.mono (λb x n h=>⟨λz=>n (z.elim (λz=> .inl (.inl z)) .inr),h⟩) (λ_ _=>rfl) h3⟩
  |.no,_,r=>exact r.elim⟩
def cZ{x:Str}{pos p':Pos}(i:Nat)(hN:X.N[i]? =some x:=by rfl)(hv:Vis X.env.scope x:=by trivial)(hd:ND x:=by decide)
  (hcd:NC x:=by decide):VS X (.Return (some (.Name x p')) pos) (aOi i):=⟨_,xV (pR hN hv hd hcd),λ{W B H0 A ρ σ H E D} o h j=>by
 unfold aOi at h;have less:∀{H:Hp} b(x:HO),¬Bx B A b->H b=some x->¬B b/\H b=some x:=λb x n h=>⟨λz=>n (.inl z),h⟩;split at h
 ·rename_i u hs;obtain⟨v,h1,h2⟩:=o.sh i u hs;exact⟨v,h1,j.rt (s:=.sh u) o.fw (DU.mono less u h2) h⟩
 ·rename_i l hs;obtain⟨p,xs,h1,h2,h3,h4⟩:=o.ow i l hs;exact⟨_,h1,j.rt (s:=.ow l) o.fw ⟨p,xs,rfl,o.an i p ((h2 p).mpr rfl),h3,DUs.mono (λb x n h=>⟨λz=>n (z.elim .inl λe=> .inr ⟨i,(h2 b).mpr e⟩),h⟩) l h4⟩ h⟩
 ·rename_i w hs;obtain⟨p,h1,h3⟩:=o.hd i _ w hs rfl;exact⟨_,h1,j.rt (s:=.oo w) o.fw ⟨p,_,rfl,o.an i,w.mono (λb x n h=>⟨λz=>n (z.elim .inl λe=> .inr ⟨i,e⟩),h⟩) (λ_ _=>rfl) h3⟩ h⟩
 ·exact h.elim⟩
def wY{x:Str}{p' apos cpos pos:Pos}{F:TV}(i:Nat)(ha:VE X a F)(hN:X.N[i]? =some x:=by rfl)(hv:Vis X.env.scope x:=by trivial)(hd:ND x:=by decide)
  (hcd:NC x:=by decide)
  (hbase:attributeBase (.Name x p') "append" X.env (eval (.Name x p') X.env)=eval (.Name x p') X.env:=by rfl)
  (hfew:((backTo cpos (starEach [a] X.env)).all (λx=> !x.1) && (backToKw cpos (keywordEach [] X.env)).all (λx=>x.1.isSome)
   && decide ([a].length+([]:List Keyword).length+(if([]:List Keyword).isEmpty then 0 else 1)<30))=true:=by rfl)
  (hline:EL apos cpos:=by rfl) (hs:SE X a []:=by rfl) (hplain:BT X cpos []:=by rfl)
  (hsw:swapsWith (.Call (.Attribute (.Name x p') "append" apos) [a] [] cpos) none pos.line X.env=pure false:=by rfl):
  VS X (.Expr (.Call (.Attribute (.Name x p') "append" apos) [a] [] cpos) pos) (aWp i F):=
 let⟨_,p,f⟩:=ha;⟨_,qT (aLw Jp PySem.F.slot_list_append PySem.F.type_list_append aCs (pR hN hv hd hcd) (cF p eO hs) hbase hfew hline hs hplain) hsw,λ{W B H0 A ρ σ H E D} o h j=>by
  unfold aWp at h;split at h
  ·rename_i l hi;obtain⟨q,xs,h1,h2,h3,h4⟩:=o.ow i l hi;refine⟨_,h1,.inl ⟨rfl,_,SqL.of h3⟩,f o.ee h.2 λs v H1 h5 w r=>?_⟩;obtain⟨u,h6,d⟩:=r.du o.ee.eb h5;have o1:=o.to w;obtain⟨q',ys,g1,g2,g3,g4⟩:=o1.ow i l hi;rw[h1]at g1;cases g1;refine⟨q,ys,v,rfl,rfl,g3,?_,j.nx (o1.own h1 h2 (g4.app (DUs.one d))) h6⟩;have:=g4.length;have:(10000:Nat)<=sizeLine:=by decide
   lia
  ·exact h.elim⟩
def aDw{x:Str}{p' apos cpos pos:Pos}{F:TV}(i:Nat)(ha:VE X a F)(hN:X.N[i]? =some x:=by rfl)(hv:Vis X.env.scope x:=by trivial)(hd:ND x:=by decide)
  (hcd:NC x:=by decide)
  (hbase:attributeBase (.Name x p') "extend" X.env (eval (.Name x p') X.env)=eval (.Name x p') X.env:=by rfl)
  (hfew:((backTo cpos (starEach [a] X.env)).all (λx=> !x.1) && (backToKw cpos (keywordEach [] X.env)).all (λx=>x.1.isSome)
   && decide ([a].length+([]:List Keyword).length+(if([]:List Keyword).isEmpty then 0 else 1)<30))=true:=by rfl)
  (hline:EL apos cpos:=by rfl) (hs:SE X a []:=by rfl) (hplain:BT X cpos []:=by rfl)
  (hsw:swapsWith (.Call (.Attribute (.Name x p') "extend" apos) [a] [] cpos) none pos.line X.env=pure false:=by rfl):
  VS X (.Expr (.Call (.Attribute (.Name x p') "extend" apos) [a] [] cpos) pos) (aUn i F):=
 let⟨_,p,f⟩:=ha;⟨_,qT (aLw Jp PySem.F.slot_list_extend PySem.F.type_list_extend aJy (pR hN hv hd hcd) (cF p eO hs) hbase hfew hline hs hplain) hsw,λ{W B H0 A ρ σ H E D} o h j=>by
  unfold aUn at h
  split at h
  ·rename_i l hi
   obtain⟨q,xs,h1,h2,h3,h4⟩:=o.ow i l hi
   refine⟨_,h1,.inl ⟨rfl,_,SqL.of h3⟩,f o.ee h λs v H1 h5 w r=>?_⟩
   have d:=r.db o.ee.eb
   revert h5 d
   generalize s.rd=u
   intro h5 d
   split at h5<;>try exact h5.elim
   rename_i m
   have o1:=o.to w
   obtain⟨q',ys,g1,g2,g3,g4⟩:=o1.ow i l hi
   rw[h1]at g1
   cases g1
   obtain⟨b,zs,rfl,_,b2,b3⟩:=d.ls (o.ee.to w).eb
   refine⟨q,b,ys,zs,rfl,rfl,g3,b2,?_,j.nx (o1.own h1 h2 (g4.app b3)) h5.2⟩
   have:=g4.length
   have:=b3.length
   have:(10000:Nat)<=sizeLine:=by decide
   lia
  ·exact h.elim⟩
def cI{x:Str}(hN:X.N.Nodup)(hi:X.N[i]? =some x:=by rfl)(hx:Loc X.env.scope x:=by first|exact Dc rfl|exact Dl rfl)(hf:FL X x:=by trivial):VG X (.Name x pos) (gR i):=
 ⟨_,aZ hN hi hx hf,λo d h q=>q _ _ _ (o.setSh d) h⟩
def iD:VGs X [] []:=⟨_,wF,λ{W B H0 A ρ σ H us vs k Q} o d l h q=>by
 match us,l with
 | [],_=>exact⟨d,q _ _ _ o h⟩⟩
def bU{is:List Nat}{x:Str}{es:List Expr}(hN:X.N.Nodup)(h2:VGs X es is)(hi:X.N[i]? =some x:=by rfl)(hx:Loc X.env.scope x:=by first|exact Dc rfl|exact Dl rfl)(hf:FL X x:=by trivial)
  (hs:(assignEach (.Name x pos::es) X.env).map (·.2)=assign (.Name x pos) X.env::(assignEach es X.env).map (·.2):=by rfl):VGs X (.Name x pos::es) (i::is):=
 let⟨_,p,f⟩:=h2;⟨_,iR (aZ hN hi hx hf) p hs,λ{W B H0 A ρ σ H us vs k Q} o d l h q=>by
  match us,d,l with
  |u::us,⟨v,r,e,d1,d2⟩,l=>
   refine⟨v,r,e,f (o.setSh (i:=i) d1) (DUs.mono (λb x n h=>⟨λz=>n (z.elim .inl λ⟨j,e⟩=> .inr ⟨j,e.2⟩),h⟩) us d2) (Hq l) h q⟩⟩
def mF{es:List Expr}{c:Nat}{is:List Nat}{n:Nat}(hc:X.calm=true)(h:VGs X es is)(hl:is.length=n:=by rfl)(hn:(assignEach es X.env).length=n:=by rfl)(hst:(assignEach es X.env).findIdx? (·.1)=none:=by rfl):VG X (.Tuple es c pos) (zT is):=
 let⟨_,p,f⟩:=h;⟨_,zX hc p hn hst,λ{W B H0 A ρ σ H u v k Q} o d h q=>by
  match u,d,h with
  |.tp us,⟨a,xs,e,_,ha,ds⟩,⟨l,h⟩=>exact⟨a,xs,e,SqT.of ha,by rw[<-ds.length,l,hl],f o ds l h q⟩⟩
abbrev Tr(B:Addr->Prop)(H1:Hp)(B2:Addr->Prop)(H2:Hp):Prop:=∀b o,¬B b->H1 b=some o->¬B2 b/\H2 b=some o
structure WkU(W B:Addr->Prop)(H1:Hp)(J:It)(l:List U):Prop where
 stop:∀{B2 H2},Tr B H1 B2 H2->J.stop l.length H2
 go:∀{B2 H2} i,Tr B H1 B2 H2->i<l.length->J.go i H2
 yld:∀{B2 H2}(i:Nat){x H' u},EB W B2 H2->Tr B H1 B2 H2->l[i]? =some u->J.yld i H2 x H'->Fw W H2 H'/\DU W B2 H' u x
def VTi(wi:TI)(F:TVa):Prop:=∀{W B:Addr->Prop}{ρ:EV}{σ:St}{H:Hp}{R:List U->Prop}{Q:It->Hp->Prop},EE W B H ρ σ->F ρ R->(∀l J H',R l->Fw W H H'->WkU W B H' J l->Q J H')->wi σ H Q
def VI(X:Cx)(tg iter:Expr)(F:TVa):Prop:=∃wi,PI X tg iter wi/\VTi wi F
def vLs(F:TV):TVa:=λρ R=>F ρ λs=>s.es λu=>match u with
 |.ls l=>R l
 |_=>False
def vTp(F:TV):TVa:=λρ R=>F ρ λs=>s.es λu=>match u with
 |.tp l=>R l
 |_=>False
def aQ7{W B:Addr->Prop}{H:Hp}{K:Ae}{a:Addr}{l:List U}(nb:¬B a)(ha:H a=some (.lst xs))(ds:DUs W B H l xs):WkU W B H (Itl K a) l:=
 ⟨λt=>⟨xs,SqL.of (t a _ nb ha).2,by rw[ds.length];exact Ak _⟩,λi t h=>⟨xs,xs[i]'(by rw[<-ds.length];exact h),SqL.of (t a _ nb ha).2,Ag _⟩,λi x H' u e t h y=>by
  obtain⟨rfl,y⟩:=y;obtain⟨x',h1,d⟩:=ds.get h;rw[y xs (SqL.of (t a _ nb ha).2)]at h1;cases h1;exact⟨e.refl,DU.mono t u d⟩⟩
def aT6{W B:Addr->Prop}{H:Hp}{K:Ae}{a:Addr}{l:List U}(nb:¬B a)(ha:H a=some (.tup xs))(ds:DUs W B H l xs):WkU W B H (Itt K a) l:=
 ⟨λt=>⟨xs,SqT.of (t a _ nb ha).2,by rw[ds.length];exact Ak _⟩,λi t h=>⟨xs,xs[i]'(by rw[<-ds.length];exact h),SqT.of (t a _ nb ha).2,Ag _⟩,λi x H' u e t h y=>by
  obtain⟨rfl,y⟩:=y;obtain⟨x',h1,d⟩:=ds.get h;rw[y xs (SqT.of (t a _ nb ha).2)]at h1;cases h1;exact⟨e.refl,DU.mono t u d⟩⟩
def jZ(lo:Int)(n:Nat):List U:=(Bk n).map λi:Nat=> .n (lo+(i:Int))
def aFt{W B:Addr->Prop}{H:Hp}{lo:Int}{n:Nat}:WkU W B H (Itr lo n) (jZ lo n):=
 ⟨λ_=>by show n<=_;simp[jZ],λi _ h=>by show i<n;simpa[jZ]using h,λi x H' u e _ h y=>by
  obtain⟨rfl,rfl⟩:=y;unfold jZ at h;rw[As]at h;cases q:(Bk n)[i]? with
  |none=>rw[q]at h;cases h
  |some j=>
   rw[q]at h;cases h;have hj:=(List.getElem?_eq_some_iff.mp q).2;rw[List.getElem_range]at hj;subst hj;exact⟨e.refl,rfl,rfl⟩⟩
def aX{tg e:Expr}{F:TV}(h:VE X e F):VI X tg e (vLs F):=let⟨_,p,f⟩:=h;⟨_,aI5 p,λe h q=>f e h λs v H1 h1 w r=>by
 obtain⟨u,h2,d⟩:=r.du e.eb h1;match u,h2,d with
 |.ls l,h2,⟨a,xs,e1,nb,ha,ds⟩=>exact⟨a,e1,⟨xs,SqL.of ha⟩,q l _ _ h2 w (aQ7 nb ha ds)⟩⟩
def aV3{tg e:Expr}{F:TV}(h:VE X e F):VI X tg e (vTp F):=let⟨_,p,f⟩:=h;⟨_,aV2 p,λe h q=>f e h λs v H1 h1 w r=>by
 obtain⟨u,h2,d⟩:=r.du e.eb h1;match u,h2,d with
 |.tp l,h2,⟨a,xs,e1,nb,ha,ds⟩=>exact⟨a,e1,⟨xs,SqT.of ha⟩,q l _ _ h2 w (aT6 nb ha ds)⟩⟩
def vRg(F:TVa):TVa:=λρ R=>F ρ λus=>match us with
 | [.v (.int j)]=> -(2 ^ 62)<=j/\j<2 ^ 62/\R (jZ 0 j.toNat)
 |_=>False
def bAi(F:TVa):TVa:=λρ R=>F ρ λus=>match us with
 | [.v (.int i),.v (.int j)]=>(-(2 ^ 62)<=i/\i<2 ^ 62/\ -(2 ^ 62)<=j/\j<2 ^ 62)/\R (jZ i (j-i).toNat)
 |_=>False
def mV{tg a:Expr}{F:TVa}{p pos:Pos}(hm:X.mg "range"=none)(hi:VB X [a] F)(hgl:Gl X "range":=by rfl)(hs1:starEach [a] X.env=[(false,eval a X.env)]:=by rfl):VI X tg (.Call (.Name "range" p) [a] [] pos) (vRg F):=
 let⟨_,p,f⟩:=hi;⟨_,aJs hgl hm p hs1,λe h q=>f e h λus vs H1 h1 w d=>by
  match us,h1,d with
  | [.v (.int i)],⟨h2,h3,h4⟩,⟨x,r,e,d1,d2⟩=>
   obtain rfl:r=[]:=d2;rw[d1.int]at e;exact⟨i,e,h2,h3,q _ _ _ h4 w aFt⟩⟩
def aC0{tg a b:Expr}{F:TVa}{p pos:Pos}(hm:X.mg "range"=none)(hi:VB X [a,b] F)(hgl:Gl X "range":=by rfl)(hs1:starEach [a,b] X.env=[(false,eval a X.env),(false,eval b X.env)]:=by rfl)(hs2:starEach [b] X.env=[(false,eval b X.env)]:=by rfl):VI X tg (.Call (.Name "range" p) [a,b] [] pos) (bAi F):=
 let⟨_,p,f⟩:=hi;⟨_,aKm hgl hm p hs1 hs2,λe h q=>f e h λus vs H1 h1 w d=>by
  match us,h1,d with
  | [.v (.int i),.v (.int j)],⟨h2,h4⟩,d=>
   obtain⟨x,_,e,d1,y,r,rfl,d2,d3⟩:=d;obtain rfl:r=[]:=d3;rw[d1.int,d2.int]at e;exact⟨i,j,e,h2,q _ _ _ h4 w aFt⟩⟩
def rF(l:List U):List U:=l.zipIdx.map λx=> .tp [.n (x.2:Nat),x.1]
def aQm{W B:Addr->Prop}{H:Hp}{K:Ae}{a:Addr}{l:List U}(nb:¬B a)(ha:H a=some (.lst xs))(ds:DUs W B H l xs):WkU W B H (Ite K a) (rF l):=
 ⟨λt=>⟨xs,SqL.of (t a _ nb ha).2,by simp[rF,ds.length]⟩,λi t h=>⟨xs,xs[i]'(by rw[<-ds.length];simpa[rF]using h),SqL.of (t a _ nb ha).2,Ag _⟩,λi x H' u e t h y=>by
  obtain⟨p,x',n,rfl,rfl,y⟩:=y;have hx:=y xs (SqL.of (t a _ nb ha).2);obtain⟨u',hu,d⟩:=ds.getV hx;have hu2:(rF l)[i]? =some (.tp [.n (i:Nat),u']):=by simp[rF,As,Qi,hu]
  rw[h]at hu2;cases hu2;have f:=e.new (o:=.tup [.int i,x']) n;exact⟨f,p,_,rfl,e.nw n,aM,_,_,rfl,⟨rfl,rfl⟩,_,_,rfl,DU.mono (λb o n h=>e.keep f b o (t b o n h).1 (t b o n h).2) u' d,rfl⟩⟩
def vEn(F:TVa):TVa:=λρ R=>F ρ λus=>match us with
 | [.ls l]=>R (rF l)
 |_=>False
def lU{es:List Expr}{F:TVa}{p pos:Pos}(hm:X.mg "enumerate"=none)(hi:VA X [a] F)(hgl:Gl X "enumerate":=by rfl)(hs1:starEach [a] X.env=[(false,eval a X.env)]:=by rfl):VI X (.Tuple es k pos') (.Call (.Name "enumerate" p) [a] [] pos) (vEn F):=
 let⟨_,p,f⟩:=hi;⟨_,aRe hgl hm p hs1,λe h q=>f e h λus vs H1 h1 _ w d=>by
  match us,h1,d with
  | [.ls l],h4,d=>
   obtain⟨x,r,e,⟨a,xs,rfl,nb,ha,ds⟩,d2⟩:=d;obtain rfl:r=[]:=d2;exact⟨a,e,⟨xs,SqL.of ha⟩,q _ _ _ h4 w (aQm nb ha ds)⟩⟩
def aD1:List U->List U->List U:=List.zipWith λa b=> .tp [a,b]
def aVi{l m:List U}{u v:U}(h1:l[i]? =some u)(h2:m[i]? =some v):(aD1 l m)[i]? =some (.tp [u,v]):=by simp[aD1,List.getElem?_zipWith,h1,h2]
def aVf{W B:Addr->Prop}{H:Hp}{K:Ae}{a b:Addr}{l m:List U}{xs ys:List V}(hl:l.length<=m.length)(nb:¬B a)(ha:H a=some (.tup xs))(ds:DUs W B H l xs)(nb':¬B b)(hb:H b=some (.lst ys))(ds':DUs W B H m ys):WkU W B H (Itz K a b) (aD1 l m):=by
 have e1:=ds.length;have e2:=ds'.length;have e3:(aD1 l m).length=l.length:=by simp[aD1];lia
 refine⟨λt=>⟨xs,SqT.of (t a _ nb ha).2,∅⟩,λi t h=>⟨xs,ys,xs[i]'∅,ys[i]'∅,SqT.of (t a _ nb ha).2,SqL.of (t b _ nb' hb).2,Ag _,Ag _⟩,λi x H' u e t h y=>?_⟩;obtain⟨p,x',y',n,rfl,rfl,hx,hy⟩:=y;obtain⟨u1,hu1,d1⟩:=ds.getV (hx xs (SqT.of (t a _ nb ha).2));obtain⟨u2,hu2,d2⟩:=ds'.getV (hy ys (SqL.of (t b _ nb' hb).2));rw[aVi hu1 hu2]at h;cases h;have f:=e.new (o:=.tup [x',y']) n;have k:=λb o n h=>e.keep f b o (t b o n h).1 (t b o n h).2;exact⟨f,p,_,rfl,e.nw n,aM,_,_,rfl,DU.mono k u1 d1,_,_,rfl,DU.mono k u2 d2,rfl⟩
def vZp(F:TVa):TVa:=λρ R=>F ρ λus=>match us with
 | [.tp l,.ls m]=>l.length<=m.length/\R (aD1 l m)
 |_=>False
def aU4{es:List Expr}{a b:Expr}{F:TVa}{p pos:Pos}(hm:X.mg "zip"=none)(hi:VA X [a,b] F)(hgl:Gl X "zip":=by rfl)(hs1:starEach [a,b] X.env=[(false,eval a X.env),(false,eval b X.env)]:=by rfl)(hs2:starEach [b] X.env=[(false,eval b X.env)]:=by rfl):VI X (.Tuple es k pos') (.Call (.Name "zip" p) [a,b] [] pos) (vZp F):=
 let⟨_,p,f⟩:=hi;⟨_,aWc hgl hm p hs1 hs2,λe h q=>f e h λus vs H1 h1 _ w d=>by
  match us,h1,d with
  | [.tp l,.ls m],⟨hl,h4⟩,d=>
   obtain⟨x,_,e,⟨a,xs,rfl,nb,ha,ds⟩,y,r,rfl,⟨b,ys,rfl,nb',hb,ds'⟩,d2⟩:=d;obtain rfl:r=[]:=d2;exact⟨a,b,e,⟨xs,SqT.of ha⟩,⟨ys,SqL.of hb⟩,q _ _ _ h4 w (aVf hl nb ha ds nb' hb ds')⟩⟩
def bW{tg iter:Expr}{F:TVa}{G:TVg}{b:TVS}(hp:PassesOwn (model X.prog X.w) X.A X.env X.xe)(hc:X.calm=true)(hi:VI X tg iter F)(hg:VG X tg G)(hb:VSs X body b)
  (hs:FS X iter:=by intro _;rfl):VS X (.For tg iter body [] pos) (aZz G F b):=
 let⟨_,p,f⟩:=hi;let⟨_,p1,f1⟩:=hg;let⟨_,p2,f2⟩:=hb;⟨_,aTm hp hc p p1 p2 hs,λ{W B H0 A0 ρ0 σ0 H E D} o0 h j=>f o0.ee h λl J H1 h1 w wk=>by
  have o:=o0.to w;obtain⟨H0',o',rb,kp⟩:=o.reb;have st:∀{A ρ σ H},EO W B H0' A ρ σ H->Tr (Bx B A0) H1 (Bx B A) H:=λ{A ρ σ H} o2 p x n hp=>by
   have h0:=kp p x (λz=>n (.inr z)) hp;refine⟨λz=>z.elim (λz=>n (.inl z)) λ⟨i,z⟩=>?_,o2.fw.fr p x (λw=>n (.inl (o.eb.wb p w))) h0⟩;rw[o2.an i p z]at h0;cases h0
  refine⟨λi m σ H=>m=l.length-i/\i<=l.length/\∃A ρ,EO W B H0' A ρ σ H/\eF G b E (l.drop i) ρ,⟨l.length,by simp,Bd _,A0,ρ0,o',h1⟩,?_⟩;rintro i m σ H ⟨rfl,hi,A,ρ,o2,h2⟩;by_cases hlt:i<l.length
  ·have e:l.drop i=l[i]::l.drop (i+1):=Bf hlt;rw[e]at h2;refine .inr ⟨wk.go i (st o2) hlt,λσ H=>∃A ρ,EO W B H0' A ρ σ H/\eF G b E (l.drop (i+1)) ρ,λσ' H' h=>⟨l.length-(i+1),∅,rfl,hlt,h⟩,λx H' y=>?_⟩;obtain⟨w2,d⟩:=wk.yld i o2.ee.eb (st o2) (Ag hlt) y;exact f1 (o2.to w2) d h2 λA' ρ' σ' o3 h3=>f2 o3 h3 ⟨λo4 h4=>⟨_,_,o4,h4⟩,λo4 h4=>j.nx (o4.un o.eb rb) h4,λo4 h4=>⟨_,_,o4,h4⟩,λw r h4=>j.rt ⟨λb x nw hb=>w.fr b x nw (rb.le b x nw hb),w.wo⟩ (r.un rb) h4,λo4 d4 h4=>j.mr (o4.un o.eb rb) d4 h4⟩
  ·have e:i=l.length:=by lia
   subst e;rw[Se]at h2;exact .inl ⟨wk.stop (st o2),j.nx (o2.un o.eb rb) h2⟩⟩
def vfn{K:Ae}{mg:Str->#v[14]}{base:Heap}{x qual:Str}{st:Stmt}{f:Addr}{fd:FuncData}{N ps:List Str}{G:TVS}{F:List U->(Sl->Prop)->Prop}(Fn:Fun K x qual st f fd)(S:aK N ps (aD st))
  (hb:∀(cdv:Value)(A:Around)(outer:List Env)(s:Shared)(H:Hp)(E:XK),cW k (A.deeper (envOfC qual (aD st) #v[0] f cdv))->VSs (aG9 CX0 P w K mg base N qual (aD st) f cdv A outer s H E).nox (fX st) G)
  (hF:∀us R,F us R->us.length=ps.length/\G {nx:=λ_=>R (.sh .no),rt:=R} (us.map .sh++Jk (N.length-us.length) .no)):↥(k+1) f fd ps (spV F):=by
 refine Fn.ok S (λvs H Q E h=>?_) (λcdv A outer s H vs Q E hr h=>?_)
 ·obtain⟨W,B,us,R,eb,d,h,_⟩:=h;rw[<-d.length];exact(hF us R h).1
 ·obtain⟨t,p,g⟩:=hb cdv A outer s H E hr;obtain⟨W,B,us,R,eb,d,h,q⟩:=h;refine⟨t,p,g (W:=W) (B:=B) (H0:=H) (A:=λ_ _=>False) ⟨eb,eb.refl,?_,λ_ _ z=>z.elim,λ_ _ z=>z.elim,λ_ _ _ z=>z.elim,λi u h=>?_,λi s w h hs=>?_,λi s h=>?_⟩ (hF us R h).2 ⟨λo h=>?_,λ_ z=>z.elim,λ_ z=>z.elim,λw r h=>q _ _ _ h w r,λ_ _ z=>z.elim⟩⟩
  ·simp only[start,An,Ab,Ex,d.length]
  ·rw[Im]at h;split at h
   ·rename_i hl;rw[Ab]at hl;rw[As,Ag hl]at h;cases h;obtain⟨v,h1,h2⟩:=d.get (Ag hl);refine⟨v,?_,DU.mono (λb x n h=>⟨λz=>z.elim n λ⟨_,z⟩=>z,h⟩) _ h2⟩;unfold start;rw[Ef (by rw[Ab, <-d.length];exact hl),As,h1];rfl
   ·rw[Eo]at h;split at h<;>cases h
  ·rw[Im]at h;split at h
   ·rw[As]at h;cases hu:us[i]? <;>rw[hu]at h<;>cases h;cases hs
   ·rw[Eo]at h;split at h<;>cases h;cases hs
  ·rw[Im]at h;split at h
   ·rw[As]at h;cases hu:us[i]? <;>rw[hu]at h<;>cases h;rfl
   ·rw[Eo]at h;split at h<;>cases h;rfl
  ·exact q _ _ _ h o.fw ⟨rfl,rfl⟩
inductive ItV(F:TV)(σ:St)(H:Hp)(Q:VK):Prop
 |mk (W B ρ R:_) (q0_:EE W B H ρ σ) (q1_:F ρ R) (q2_:∀s v H',R s->Fw W H H'->RO W B H H' s v->Q v H'):ItV F σ H Q
def tV(F:TV):TE:=λσ H Q=>ItV F σ H Q
inductive aW1(F:TVc)(σ:St)(H:Hp)(Q:(Bool->Hp->Prop)):Prop
 |mk (W B ρ R:_) (q0_:EE W B H ρ σ) (q1_:F ρ R) (q2_:∀c H',R c->Fw W H H'->Q c H'):aW1 F σ H Q
def tVc(F:TVc):TT:=λσ H Q=>aW1 F σ H Q
def VE.can{X:Cx}{e:Expr}{F:TV}(h:VE X e F):PE X e (tV F):=let⟨_,p,f⟩:=h;λpins s σ H Q I ⟨_,_,_,_,e,h,q⟩=>p pins s σ H Q I (f e h q)
def VC.can{X:Cx}{e:Expr}{F:TVc}(h:VC X e F):PT X e (tVc F):=let⟨_,p,f⟩:=h;λpins s σ H Q I ⟨_,_,_,_,e,h,q⟩=>p pins s σ H Q I (f e h q)
def VTh(own:Nat)(g:TG)(G:TVg):Prop:=∀{W B:Addr->Prop}{H:Hp}{ρ:EV}{σ:St}{u:U}{v:V}{k:EV->Prop}{Q:St->Hp->Prop},EE W B H ρ σ->DU W B H u v->G u ρ k->(∀ρ' σ',EE W B H ρ' σ'->σ'.length=σ.length->(∀i,own<=i->σ'[i]? =σ[i]?)->k ρ'->Q σ' H)->g v σ H Q
def EE.set{W B:Addr->Prop}{H:Hp}{ρ:EV}{σ:St}{u:U}(e:EE W B H ρ σ)(d:DU W B H u v):EE W B H (ρ.set i (.sh u)) (σ.set i (some v)):=by
 refine⟨e.eb,by rw[Cu,Cu,e.len],λj u' h=>?_,λj s w h hs=>?_⟩
 ·rcases cC h with ⟨rfl,q,hl⟩|⟨ne,h⟩
  ·cases q;exact⟨v,get_set (e.len▸hl),d⟩
  ·obtain⟨v',h1,h2⟩:=e.sh j u' h;exact⟨v',by rw[fO ne];exact h1,h2⟩
 ·rcases cC h with ⟨rfl,rfl,hl⟩|⟨ne,h⟩
  ·cases hs
  ·obtain⟨p,S,h1,h2⟩:=e.hd j s w h hs;exact⟨p,S,by rw[fO ne];exact h1,h2⟩
def bL{own i:Nat}(h:i<own):VTh own (mU i) (gR i):=λe d h1 q=>q _ _ (e.set d) (Cu ..) (λj hj=>fO ∅) h1
def aG7:List Nat->TGs
 | []=>aW5
 |i::is=>aR3 (mU i) (aG7 is)
theorem aFg{own:Nat}{W B:Addr->Prop}{H:Hp}{Q:St->Hp->Prop}{k:EV->Prop}:∀{is:List Nat}{us:List U}{vs:List V}{ρ:EV}{σ:St},(∀i∈is,i<own)->EE W B H ρ σ->DUs W B H us vs->us.length=is.length->k ((is.zip us).foldl (λρ x=>ρ.set x.1 (.sh x.2)) ρ)->
  (∀ρ' σ',EE W B H ρ' σ'->σ'.length=σ.length->(∀i,own<=i->σ'[i]? =σ[i]?)->k ρ'->Q σ' H)->aG7 is vs σ H Q
 | [],[],_,_,_,_,e,d,_,h,q=>⟨d,q _ _ e rfl (λ_ _=>rfl) h⟩
 |i::is,u::us,_,ρ,σ,hi,e,⟨v,r,e1,d1,d2⟩,l,h,q=>⟨v,r,e1,aFg (λj hj=>hi j (Af _ hj)) (e.set (i:=i) d1) d2 (Hq l) h λρ' σ' e' l' a' h'=>q ρ' σ' e' (l'.trans (Cu ..)) (λj hj=>(a' j hj).trans (fO (by have:=hi i Ah;lia))) h'⟩
def aEa{own:Nat}{K:Ae}{is:List Nat}{n:Nat}(hl:is.length=n)(h:∀i∈is,i<own):VTh own (aWx K n (aG7 is)) (zT is):=λ{W B H ρ σ u v k Q} e d h1 q=>by
 match u,d,h1 with
 |.tp us,⟨a,xs,e1,_,ha,ds⟩,⟨l,h1⟩=>exact⟨a,xs,e1,SqT.of ha,by rw[<-ds.length,l,hl],aFg h e ds l h1 q⟩
def aT9:Sl->Sl
 |.ow l=> .br l
 |.oo w=> .bo w
 |s=>s
def aKt:∀s:Sl,(aT9 s).hold=s.hold
 |.no=>rfl
 |.sh _=>rfl
 |.ow _=>rfl
 |.br _=>rfl
 |.oo _=>rfl
 |.bo _=>rfl
def wR(no:Nat)(cap:#v[12])(ρ:EV):EV:=Jk no .no++cap.map λp=>match (ρ[p.2]? :Option Sl)with
 |some s=>aT9 s
 |_=> .no
def aEj{no:Nat}{cap:#v[12]}{ρ:EV}{s:Sl}(h:(wR no cap ρ)[i]? =some s)(hs:s≠.no):∃(j:Nat)(s0:Sl),no<=i/\(∀σ:St,(nY no cap σ)[i]? =some ((σ[j]? :Option (Option V))).join)/\ρ[j]? =some s0/\s=aT9 s0:=by
 unfold wR at h;rw[Im]at h;split at h
 ·rw[Eo]at h;split at h
  ·cases h;exact(hs rfl).elim
  ·cases h
 ·rename_i hn;rw[Ex]at hn h;rw[As]at h;cases hc:cap[i-no]? with
  |none=>rw[hc]at h;cases h
  |some p=>
   rw[hc]at h;have h':=Bl h;dsimp only at h';split at h'
   ·rename_i s0 h0;refine⟨p.2,s0,∅,λσ=>?_,h0,h'.symm⟩;unfold nY;rw[Dz (by rw[Ex];lia),Ex,As,hc];rfl
   ·exact(hs h'.symm).elim
def EE.cap{W B:Addr->Prop}{H:Hp}{ρ:EV}{σ:St}{no:Nat}{cap:#v[12]}(e:EE W B H ρ σ):EE W B H (wR no cap ρ) (nY no cap σ):=by
 refine⟨e.eb,by simp[wR,nY],λi u h=>?_,λi s w h hs=>?_⟩
 ·obtain⟨j,s0,_,c,h,e0⟩:=aEj h (by intro z;cases z);have:s0=.sh u:=by cases s0<;>cases e0<;>rfl
  obtain⟨v,h1,h2⟩:=e.sh j u (this▸h);exact⟨v,by rw[c,h1];rfl,h2⟩
 ·obtain⟨j,s0,_,c,h0,rfl⟩:=aEj h (by rintro rfl;cases hs);rw[aKt]at hs;obtain⟨p,S,h1,h2⟩:=e.hd j s0 w h0 hs;exact⟨p,S,by rw[c,h1];rfl,h2⟩
def cO(f:U->(Option U->Prop)->Prop):List U->List U->(List U->Prop)->Prop
 | [],acc,R=>R acc
 |u::r,acc,R=>f u λo=>match o with
  |some x=>cO f r (acc++[x]) R
  |none=>cO f r acc R
def aXr(G:TVg)(F:TV)(ρ:EV):U->(Option U->Prop)->Prop:=λu k=>G u ρ λρ1=>F ρ1 λs=>s.es λx=>k (some x)
def aOd(G:TVg)(C:TVc)(F:TV)(ρ:EV):U->(Option U->Prop)->Prop:=λu k=>G u ρ λρ1=>C ρ1 λc=>(c=true->F ρ1 λs=>s.es λx=>k (some x))/\(c=false->k none)
structure CI(W B:Addr->Prop)(H1:Hp)(D:Addr)(ρ:EV)(us:List U)(acc:List V)(σ:St)(H:Hp):Prop where
 ee:EE W (λb=>B b∨b=D) H ρ σ
 od:∀(i:Nat)(s:Sl)(w:Own),ρ[i]? =some s->s.hold=some w->∃p S,σ[i]? =some (some (V.ref p))/\(∀b,S b->¬W b)/\¬S D/\w.φ W (λb=>B b∨b=D) S H p
 fw:Fw W H1 H
 dl:H D=some (.lst acc)
 du:DUs W (λb=>B b∨b=D) H us acc
def EE.plus{W B:Addr->Prop}{H:Hp}{ρ:EV}{σ:St}{D:Addr}{x:HO}(e:EE W B H ρ σ)(n:H D=none)(m:Mt x:=by trivial):EE W (λb=>B b∨b=D) (upd H D x) ρ σ:=by
 have f:=e.eb.new (o:=x) n;have k:∀b o,¬B b->H b=some o->¬(B b∨b=D)/\upd H D x b=some o:=λb o nb h=>⟨λz=>z.elim nb (aN h n),(e.eb.keep f b o nb h).2⟩;refine⟨⟨λp hp=>?_,λp hp=> .inl (e.eb.wb p hp),f.wo⟩,e.len,λi u h=>?_,λi s w h hs=>?_⟩
 ·rcases hp with hp|hp
  ·exact(e.eb.to f).bl p hp
  ·rw[hp,aM];exact⟨_,rfl,m⟩
 ·obtain⟨v,h1,h2⟩:=e.sh i u h;exact⟨v,h1,DU.mono k u h2⟩
 ·obtain⟨p,S,h1,h2,h3⟩:=e.hd i s w h hs;exact⟨p,S,h1,h2,w.mono k (λb hb=>let⟨y,hx,_⟩:=w.th h3 b hb;aO (aN hx n)) h3⟩
def EE.as{W B:Addr->Prop}{H:Hp}{ρ:EV}{σ σ':St}(e:EE W B H ρ σ)(ρo:∀(i:Nat)(s:Sl),ρ[i]? =some s->s≠Sl.no->σ'[i]? =σ[i]?)(l:σ'.length=σ.length):EE W B H ρ σ':=
 ⟨e.eb,e.len.trans l.symm,λi u h=>by rw[ρo i _ h (by intro z;cases z)];exact e.sh i u h,λi s w h hs=>by
  rw[ρo i s h (by rintro rfl;cases hs)];exact e.hd i s w h hs⟩
def CI.to{W B:Addr->Prop}{H1 H H2:Hp}{D:Addr}{ρ:EV}{us:List U}{acc:List V}{σ σ':St}(c:CI W B H1 D ρ us acc σ H)(nw:¬W D)(f:Fw W H H2)(ρo:∀(i:Nat)(s:Sl),ρ[i]? =some s->s≠Sl.no->σ'[i]? =σ[i]?)(l:σ'.length=σ.length):CI W B H1 D ρ us acc σ' H2:=
 ⟨(c.ee.to f).as ρo l,λi m w h hs=>by
  rw[ρo i m h (by rintro rfl;cases hs)];obtain⟨p,S,h1,h2,h3,h4⟩:=c.od i m w h hs;exact⟨p,S,h1,h2,h3,w.to c.ee.eb f h2 h4⟩,c.fw.trans f,f.fr _ _ nw c.dl,DUs.mono (c.ee.eb.keep f) us c.du⟩
def CI.put{W B:Addr->Prop}{H1 H:Hp}{D:Addr}{ρ:EV}{us:List U}{acc:List V}{σ:St}{u:U}(c:CI W B H1 D ρ us acc σ H)(n1:H1 D=none)(nw:¬W D)(d:DU W (λb=>B b∨b=D) H u v):CI W B H1 D ρ (us++[u]) (acc++[v]) σ (upd H D (.lst (acc++[v]))):=by
 have k:∀b o,¬(B b∨b=D)->H b=some o->¬(B b∨b=D)/\upd H D (.lst (acc++[v])) b=some o:=λb o nb h=>⟨nb,(aO (λz=>nb (.inr z))).trans h⟩;have ww:∀p,W p->Wll (upd H D (.lst (acc++[v]))) p:=λp hp=>by
  obtain⟨x,y,z,h⟩:=c.fw.wo p hp;exact⟨x,y,z,(aO (λq:p=D=>nw (by rw[<-q];exact hp))).trans h⟩
 have od:∀(i:Nat)(s:Sl)(w:Own),ρ[i]? =some s->s.hold=some w->∃p S,σ[i]? =some (some (V.ref p))/\(∀b,S b->¬W b)/\¬S D/\w.φ W (λb=>B b∨b=D) S (upd H D (.lst (acc++[v]))) p:=λi s w h hs=>by
  obtain⟨p,S,h1,h2,h3,h4⟩:=c.od i s w h hs;exact⟨p,S,h1,h2,h3,w.mono k (λb hb=>aO (λq:b=D=>h3 (by rw[<-q];exact hb))) h4⟩
 refine⟨⟨⟨λp hp=>?_,c.ee.eb.wb,ww⟩,c.ee.len,λi u' h=>?_,λi m w h hs=>let⟨p,S,h1,h2,_,h4⟩:=od i m w h hs;⟨p,S,h1,h2,h4⟩⟩,od,⟨λb o w h=>?_,ww⟩,aM,DUs.mono k _ (c.du.app (DUs.one d))⟩
 ·by_cases z:p=D
  ·rw[z,aM];exact⟨_,rfl,trivial⟩
  ·rw[aO z];exact c.ee.eb.bl p hp
 ·obtain⟨v',h1,h2⟩:=c.ee.sh i u' h;exact⟨v',h1,DU.mono k u' h2⟩
 ·rw[aO (aN h n1)];exact c.fw.fr b o w h
def aO9{no:Nat}{cap:#v[12]}{ρ:EV}{σ σ':St}(a:∀i,no<=i->σ'[i]? =σ[i]?):∀(i:Nat)(s:Sl),(wR no cap ρ)[i]? =some s->s≠Sl.no->σ'[i]? =σ[i]? :=λi s h n=>let⟨_,_,q,_⟩:=aEj h n;a i q
structure WkC(W B:Addr->Prop)(H1:Hp)(J:It)(l:List U):Prop where
 stop:∀{B2 H2},Tr B H1 B2 H2->Fw W H1 H2->J.stop l.length H2
 go:∀{B2 H2} i,Tr B H1 B2 H2->Fw W H1 H2->i<l.length->J.go i H2
 yld:∀{B2 H2}(i:Nat){x H' u},EB W B2 H2->Tr B H1 B2 H2->Fw W H1 H2->l[i]? =some u->J.yld i H2 x H'->Fw W H2 H'/\DU W B2 H' u x
def aTh(wi:TI)(F:TVa):Prop:=∀{W B:Addr->Prop}{ρ:EV}{σ:St}{H:Hp}{R:List U->Prop}{Q:It->Hp->Prop},EE W B H ρ σ->F ρ R->(∀l J H',R l->Fw W H H'->WkC W B H' J l->Q J H')->wi σ H Q
def VIc(X:Cx)(tg iter:Expr)(F:TVa):Prop:=∃wi,PI X tg iter wi/\aTh wi F
def vic{X:Cx}{tg iter:Expr}{F:TVa}(h:VI X tg iter F):VIc X tg iter F:=let⟨wi,p,f⟩:=h;⟨wi,p,λe h q=>f e h λl J H' h1 w k=>q l J H' h1 w ⟨λt _=>k.stop t,λi t _ hi=>k.go i t hi,λi _ _ _ e t _ h y=>k.yld i e t h y⟩⟩
def bAg(F:TV):TVa:=λρ R=>F ρ λs=>match s.rd with
 |.ls l=>R l
 |_=>False
def aZh{X:Cx}{tg e:Expr}{F:TV}(h:VE X e F):VIc X tg e (bAg F):=let⟨_,p,f⟩:=h;⟨_,aI5 p,λ{W B ρ σ H R Q} e h q=>f e h λs v H1 h1 w r=>by
 have d:=r.db e.eb;revert h1 d;generalize s.rd=u;intro h1 d;split at h1
 ·obtain⟨a,xs,rfl,nw,ha,ds⟩:=d.ls (e.to w).eb;refine⟨a,rfl,⟨xs,SqL.of ha⟩,q _ _ _ h1 w ⟨λ_ f=>⟨xs,SqL.of (f.fr _ _ nw ha),by rw[ds.length];exact Ak _⟩,λi _ f h=>⟨xs,xs[i]'(by rw[<-ds.length];exact h),SqL.of (f.fr _ _ nw ha),Ag _⟩,λi x H' u e t f h y=>?_⟩⟩;obtain⟨rfl,y⟩:=y;obtain⟨x',g1,g2⟩:=ds.get h;rw[y xs (SqL.of (f.fr _ _ nw ha))]at g1;cases g1;exact⟨e.refl,DU.mono t u g2⟩
 ·exact h1.elim⟩
def aCx(no:Nat)(cap:#v[12])(Fi:TVa)(G:TVg)(F:TV):TV:=λρ R=>Fi ρ λl=>l.length<=10000/\cO (aXr G F (wR no cap ρ)) l [] λus=>R (.ow us)
def aAp(no:Nat)(cap:#v[12])(Fi:TVa)(G:TVg)(C:TVc)(F:TV):TV:=λρ R=>Fi ρ λl=>l.length<=10000/\cO (aOd G C F (wR no cap ρ)) l [] λus=>R (.ow us)
def CW(W B:Addr->Prop)(H1:Hp)(D:Addr)(ρ:EV)(l:List U)(f:U->(Option U->Prop)->Prop)(R:List U->Prop)(i m:Nat)(σ:St)(H:Hp):Prop:=m=l.length-i/\i<=l.length/\∃us acc,CI W B H1 D ρ us acc σ H/\us.length<=i/\cO f (l.drop i) us R
def CW.beg{W B:Addr->Prop}{H1:Hp}{D:Addr}{ρ:EV}{σ:St}{no:Nat}{cap:#v[12]}{l:List U}{f:U->(Option U->Prop)->Prop}{R:List U->Prop}(e:EE W B H1 ρ σ)(n1:H1 D=none)(h:cO f l [] R):CW W B H1 D (wR no cap ρ) l f R 0 l.length (nY no cap σ) (upd H1 D (.lst [])):=by
 refine⟨by simp,Bd _,[],[],⟨e.cap.plus n1,λi m w h hs=>?_,e.eb.new n1,aM,rfl⟩,Ak _,h⟩;obtain⟨p,S,h1,h2,h3⟩:=e.cap.hd i m w h hs;have f:=e.eb.new (o:=.lst []) n1;refine⟨p,S,h1,h2,λz=>?_,w.mono (λb o nb h=>⟨λz=>z.elim nb (aN h n1),(e.eb.keep f b o nb h).2⟩) (λb hb=>let⟨x,hx,_⟩:=w.th h3 b hb;aO (aN hx n1)) h3⟩;obtain⟨x,hx,_⟩:=w.th h3 D z;rw[n1]at hx;cases hx
def CW.turn{W B:Addr->Prop}{H1 H H3:Hp}{D:Addr}{ρ:EV}{σ σ0:St}{no:Nat}{cap:#v[12]}{l:List U}{f:U->(Option U->Prop)->Prop}{R:List U->Prop}{i m:Nat}{J:It}{x:V}(e:EE W B H1 ρ σ0)(n1:H1 D=none)(ll:l.length<=10000)(wk:WkC W B H1 J l)(hlt:i<l.length)(c:CW W B H1 D (wR no cap ρ) l f R i m σ H)(y:J.yld i H x H3):
  ∃u us,EE W (λb=>B b∨b=D) H3 (wR no cap ρ) σ/\DU W (λb=>B b∨b=D) H3 u x/\f u (λo=>match o with|some y=>cO f (l.drop (i+1)) (us++[y]) R|none=>cO f (l.drop (i+1)) us R)/\
   (∀(y:U)(v:V)(σ':St)(H':Hp),cO f (l.drop (i+1)) (us++[y]) R->Fw W H3 H'->DU W (λb=>B b∨b=D) H' y v->σ'.length=σ.length->(∀i,no<=i->σ'[i]? =σ[i]?)->∃ys,H' D=some (.lst ys)/\ys.length<sizeLine/\∃m',m'<m/\CW W B H1 D (wR no cap ρ) l f R (i+1) m' σ' (upd H' D (.lst (ys++[v]))))/\
   (∀(σ':St)(H':Hp),cO f (l.drop (i+1)) us R->Fw W H3 H'->σ'.length=σ.length->(∀i,no<=i->σ'[i]? =σ[i]?)->∃m',m'<m/\CW W B H1 D (wR no cap ρ) l f R (i+1) m' σ' H'):=by
 have nw:¬W D:=λw=>e.eb.dm D (e.eb.wb D w) n1;obtain⟨rfl,hi,us,acc,c,hl,h2⟩:=c;rw[Bf hlt]at h2;have tr:Tr B H1 (λb=>B b∨b=D) H:=λb o nb h=>⟨λz=>z.elim nb (aN h n1),(e.eb.keep c.fw b o nb h).2⟩;obtain⟨w3,d⟩:=wk.yld i c.ee.eb tr c.fw (Ag hlt) y;have c3:=c.to (σ':=σ) nw w3 (λ_ _ _ _=>rfl) rfl;have hz:(10000:Nat)<sizeLine:=by decide
 refine⟨l[i],us,c3.ee,d,h2,λy v σ' H' h3 f3 d3 l3 a3=>?_,λσ' H' h3 f3 l3 a3=>⟨l.length-(i+1),∅,rfl,hlt,us,acc,c3.to nw f3 (aO9 a3) l3,∅,h3⟩⟩;have c4:=c3.to nw f3 (aO9 a3) l3;have hz2:=c4.du.length;refine⟨acc,c4.dl,∅,l.length-(i+1),∅,rfl,hlt,us++[y],acc++[v],c4.put n1 nw d3,?_,h3⟩;rw[An];show us.length+1<=i+1
 lia
def CW.end_{W B:Addr->Prop}{H0 H1 H:Hp}{D:Addr}{ρ:EV}{σ:St}{l:List U}{f:U->(Option U->Prop)->Prop}{R:Sl->Prop}{m:Nat}(w:Fw W H0 H1)(n1:H1 D=none)(c:CW W B H1 D ρ l f (λus=>R (.ow us)) l.length m σ H)(q:∀s v H',R s->Fw W H0 H'->RO W B H0 H' s v->Q v H'):Q (.ref D) H:=by
 obtain⟨_,_,us,acc,c,_,h2⟩:=c;rw[Se]at h2;exact q _ _ _ h2 (w.trans c.fw) (RO.back (s:=.ow us) w ⟨D,acc,rfl,n1,c.dl,c.du⟩)
def zK{no:Nat}{cap:#v[12]}{Fi:TVa}{G:TVg}{F:TV}(hi:aTh wi Fi)(hg:VTh no g G):VT (aBi no cap wi g (tV F)) (aCx no cap Fi G F):=λ{W B ρ σ H R Q} e h q=>hi e h λl J H1 h1 w wk D n1=>by
 have e1:=e.to w;refine⟨CW W B H1 D (wR no cap ρ) l _ _,⟨_,CW.beg e1 n1 h1.2⟩,λi m σ2 H2 c=>?_⟩;have tr:Tr B H1 (λb=>B b∨b=D) H2:=let⟨_,_,_,_,c,_⟩:=c;λb o nb h=>⟨λz=>z.elim nb (aN h n1),(e1.eb.keep c.fw b o nb h).2⟩;have fw:Fw W H1 H2:=let⟨_,_,_,_,c,_⟩:=c;c.fw;by_cases hlt:i<l.length
 ·refine .inr ⟨wk.go i tr fw hlt,λx H3 y=>?_⟩;obtain⟨u,us,e3,d3,h3,put,_⟩:=c.turn e1 n1 h1.1 wk hlt y;refine hg e3 d3 h3 λρ' σ' e' l' a' h'=>⟨W,_,ρ',_,e',h',λs v H5 h5 w5 r5=>?_⟩;obtain⟨y,hy,dy⟩:=r5.du e'.eb h5;exact put y v σ' H5 hy w5 dy l' a'
 ·have hi':=c.2.1;obtain rfl:i=l.length:=by lia
  exact .inl ⟨wk.stop tr fw,c.end_ w n1 q⟩
def vD{no:Nat}{cap:#v[12]}{Fi:TVa}{G:TVg}{C:TVc}{F:TV}(hi:aTh wi Fi)(hg:VTh no g G):VT (rA no cap wi g (tVc C) (tV F)) (aAp no cap Fi G C F):=λ{W B ρ σ H R Q} e h q=>hi e h λl J H1 h1 w wk D n1=>by
 have e1:=e.to w;refine⟨CW W B H1 D (wR no cap ρ) l _ _,⟨_,CW.beg e1 n1 h1.2⟩,λi m σ2 H2 c=>?_⟩;have tr:Tr B H1 (λb=>B b∨b=D) H2:=let⟨_,_,_,_,c,_⟩:=c;λb o nb h=>⟨λz=>z.elim nb (aN h n1),(e1.eb.keep c.fw b o nb h).2⟩;have fw:Fw W H1 H2:=let⟨_,_,_,_,c,_⟩:=c;c.fw;by_cases hlt:i<l.length
 ·refine .inr ⟨wk.go i tr fw hlt,λx H3 y=>?_⟩;obtain⟨u,us,e3,d3,h3,put,skip⟩:=c.turn e1 n1 h1.1 wk hlt y;refine hg e3 d3 h3 λρ' σ' e' l' a' h'=>⟨W,_,ρ',_,e',h',λc H4 h4 w4=>?_⟩;cases c with
  |true=>
   refine aFv ⟨W,_,ρ',_,e'.to w4,h4.1 rfl,λs v H5 h5 w5 r5=>?_⟩;obtain⟨y,hy,dy⟩:=r5.du (e'.to w4).eb h5;exact put y v σ' H5 hy (w4.trans w5) dy l' a'
  |false=>exact wZ (skip σ' H4 (h4.2 rfl) w4 l' a')
 ·have hi':=c.2.1;obtain rfl:i=l.length:=by lia
  exact .inl ⟨wk.stop tr fw,c.end_ w n1 q⟩
def gD{elt iter tg:Expr}{own:List Str}{cap:#v[12]}{Fi:TVa}{G:TVg}{F:TV}(sc0:Scope)(N0:List Str)(hsc:X.env.scope=sc0)(hN:X.N=N0)(hcell:HC X)
  (ok:pQ scope sc0 cap N0) (hc:X.calm=true) (hi:VIc X tg iter Fi) (hg:∀cl C s2 H2 fp,PG #v[3] tg g) (hG:VTh own.length g G) (he:∀cl C s2 H2 fp,VE #v[3] elt F)
  (hs:FS X iter:=by intro _;rfl):VE X #v[11] (aCx own.length cap Fi G F):=
 let⟨_,p,f⟩:=hi;⟨_,aXt sc0 N0 hsc hN hcell ok hc p hg (λcl C s2 H2 fp=>(he cl C s2 H2 fp).can) hs,zK f hG⟩
def aAz{elt iter tg ci:Expr}{own:List Str}{cap:#v[12]}{Fi:TVa}{G:TVg}{C:TVc}{F:TV}(sc0:Scope)(N0:List Str)(hsc:X.env.scope=sc0)(hN:X.N=N0)(hcell:HC X)
  (ok:pQ scope sc0 cap N0) (hc:X.calm=true) (hi:VIc X tg iter Fi) (hg:∀cl C s2 H2 fp,PG #v[3] tg g) (hG:VTh own.length g G) (hC:∀cl C' s2 H2 fp,VC (aY X (bV own cap) scope cl C' s2 H2 fp) ci C) (he:∀cl C s2 H2 fp,VE #v[3] elt F)
  (hs:FS X iter:=by intro _;rfl):VE X #v[10] (aAp own.length cap Fi G C F):=
 let⟨_,p,f⟩:=hi;⟨_,aUt sc0 N0 hsc hN hcell ok hc p hg (λcl C s2 H2 fp=>(hC cl C s2 H2 fp).can) (λcl C s2 H2 fp=>(he cl C s2 H2 fp).can) hs,vD f hG⟩
def aWt{x:Str}{elt iter tg:Expr}{own:List Str}{cap:#v[12]}{pos spos py:Pos}{Fi:TVa}{G:TVg}{F:TV}(hnd:X.N.Nodup)(sc0:Scope)(N0:List Str)(hsc:X.env.scope=sc0)(hN:X.N=N0)(hcell:HC X)
  (ok:pQ scope sc0 cap N0) (hc:X.calm=true) (hi:VIc X tg iter Fi) (hg:∀cl C s2 H2 fp,PG #v[3] tg g) (hG:VTh own.length g G) (he:∀cl C s2 H2 fp,VE #v[3] elt F)
  (hi':X.N[i]? =some x:=by rfl) (hx:Loc X.env.scope x:=by exact Dc rfl) (hsw:swapsWith #v[11] (some (.Name x py)) spos.line X.env=pure true:=by rfl)
  (hs:FS X iter:=by intro _;rfl) (hf:FL X x:=by trivial):VS X (.Assign [.Name x py] #v[11] spos) (aPi i (aCx own.length cap Fi G F)):=
 let⟨_,p,f⟩:=hi;⟨_,aW7 hnd hi' hx sc0 N0 hsc hN hcell ok hc p hg (λcl C s2 H2 fp=>(he cl C s2 H2 fp).can) hsw hs hf,λo h j=>zK f hG o.ee h λs v H1 h1 w r=>aBb o w r h1 j.nx⟩
def aUj{x:Str}{elt iter tg ci:Expr}{own:List Str}{cap:#v[12]}{pos spos py:Pos}{Fi:TVa}{G:TVg}{C:TVc}{F:TV}(hnd:X.N.Nodup)(sc0:Scope)(N0:List Str)(hsc:X.env.scope=sc0)(hN:X.N=N0)(hcell:HC X)
  (ok:pQ scope sc0 cap N0) (hc:X.calm=true) (hi:VIc X tg iter Fi) (hg:∀cl C s2 H2 fp,PG #v[3] tg g) (hG:VTh own.length g G) (hC:∀cl C' s2 H2 fp,VC (aY X (bV own cap) scope cl C' s2 H2 fp) ci C) (he:∀cl C s2 H2 fp,VE #v[3] elt F)
  (hi':X.N[i]? =some x:=by rfl) (hx:Loc X.env.scope x:=by exact Dc rfl) (hsw:swapsWith #v[10] (some (.Name x py)) spos.line X.env=pure true:=by rfl)
  (hs:FS X iter:=by intro _;rfl) (hf:FL X x:=by trivial):VS X (.Assign [.Name x py] #v[10] spos) (aPi i (aAp own.length cap Fi G C F)):=
 let⟨_,p,f⟩:=hi;⟨_,aTy hnd hi' hx sc0 N0 hsc hN hcell ok hc p hg (λcl C s2 H2 fp=>(hC cl C s2 H2 fp).can) (λcl C s2 H2 fp=>(he cl C s2 H2 fp).can) hsw hs hf,λo h j=>vD f hG o.ee h λs v H1 h1 w r=>aBb o w r h1 j.nx⟩
def pP{op}{F:TV}(h:VE X a F):VE X (.BoolOp op [a] pos) F:=let⟨_,p,f⟩:=h;⟨_,aUe p,f⟩
def aMs(g:List U->(Sl->Prop)->Prop)(G:TVa):TV:=λρ R=>G ρ λus=>g us R
def bB{id:String}{g:List U->(Sl->Prop)->Prop}{x:Str}{es:List Expr}{G:TVa}{p pos:Pos}(hc:dY X (.builtin id) r)(cb:CB r g)(hm:X.mg x=none)(hv:bootBuiltins x=some (.builtin id))(ha:VB X (a::es) G)(hg:Gl X x:=by rfl)(hn:x≠"__name__":=by decide)(hdb:ND x:=by decide)
  (he:SE X a es:=by rfl) (hpl:BT X pos es:=by rfl):VE X (.Call (.Name x p) (a::es) [] pos) (aMs g G):=
 let⟨_,p,f⟩:=ha;⟨_,iW hc hg hm hv p hn hdb he hpl,λe h q=>f e h λus vs H1 h1 w d=>cb (e.to w).eb d h1 λs z H2 h2 w2 r=>q _ _ _ h2 (w.trans w2) (r.back w)⟩
def kE{T:String}{g:List U->(Sl->Prop)->Prop}{x:Str}{es:List Expr}{G:TVa}{p pos:Pos}(hc:dY X (.type T) r)(cb:CB r g)(hm:X.mg x=none)(hv:bootBuiltins x=some (.type T))(ha:VB X (a::es) G)(hg:Gl X x:=by rfl)(hn:x≠"__name__":=by decide)(hdb:ND x:=by decide)
  (he:SE X a es:=by rfl) (hpl:BT X pos es:=by rfl):VE X (.Call (.Name x p) (a::es) [] pos) (aMs g G):=
 let⟨_,p,f⟩:=ha;⟨_,iB hc hg hm hv p hn hdb he hpl,λe h q=>f e h λus vs H1 h1 w d=>cb (e.to w).eb d h1 λs z H2 h2 w2 r=>q _ _ _ h2 (w.trans w2) (r.back w)⟩
def gIx:U->U->(Sl->Prop)->Prop
 |.ls l,.v (.int i),R=>∃u,atI l i=some u/\R (.sh u)
 |.tp l,.v (.int i),R=>∃u,atI l i=some u/\R (.sh u)
 |_,_,_=>False
def bG{K:Ae}:O2 (rIx K) gIx:=λ{W B H u v x y R Q} e d1 d2 h q=>by
 unfold gIx at h;split at h
 ·exact .inl (aT3 e d1 d2 h q)
 ·exact .inr (.inl (aUi e d1 d2 h q))
 ·exact h.elim
def aW8:U->U->(Sl->Prop)->Prop
 |.v (.int i),.v (.int j),R=>R (.sh (.n (i+j)))
 |.v (.str a),.v (.str b),R=>a.length+b.length<=10000/\R (.sh (.s (a++b)))
 |.ls l,.ls m,R=>l.length+m.length<=10000/\R (.ow (l++m))
 |.tp l,.tp m,R=>l.length+m.length<=10000/\R (.sh (.tp (l++m)))
 |_,_,_=>False
def sz4{n:Nat}(h:n<=10000):n<=sizeLine:=Ba h ⋯
def aSn(X:Cx):R2:=λx y H Q=>(∃i j,x=.int i/\y=.int j/\Q (.int (i+j)) H)∨(∃i j,x=.str i/\y=.str j/\i.length+j.length<=sizeLine/\Q (.str (i++j)) H)∨aXa x y H Q∨aR6 X.K x y H Q∨∃a b ys,x=.ref a/\y=.ref b/\SqT X.K H a []/\SqT X.K H b ys/\Q (.ref b) H
def dG:OpR X (binaryOp .Add) (aSn X):=wX.or (aHw.or (aTv.or (aPt.or aPc)))
def fB:O2 (aSn X) aW8:=λ{W B H u v x y R Q} e d1 d2 h q=>by
 unfold aW8 at h;split at h
 ·exact .inl ⟨_,_,d1.int,d2.int,q _ _ _ h e.refl ⟨rfl,rfl⟩⟩
 ·exact .inr (.inl ⟨_,_,d1.fl.1,d2.fl.1,sz4 h.1,q _ _ _ h.2 e.refl ⟨rfl,rfl⟩⟩)
 ·obtain⟨p,xs,rfl,_,h1,ds⟩:=d1.ls e;obtain⟨p',ys,rfl,_,h2,ds'⟩:=d2.ls e;have:=ds.length;have:=ds'.length;refine .inr (.inr (.inl ⟨p,p',xs,ys,rfl,rfl,h1,h2,sz4 ∅,λr n=>?_⟩));have f:=e.new (o:=.lst (xs++ys)) n;exact q _ _ _ h.2 f ⟨r,_,rfl,n,aM,DUs.mono (λb o nb h=>⟨λz=>z.elim nb (aN h n),(e.keep f b o nb h).2⟩) _ (ds.app ds')⟩
 ·rename_i l m;obtain⟨p,xs,rfl,_,h1,ds⟩:=d1.tp;obtain⟨p',ys,rfl,nb,h2,ds'⟩:=d2.tp;have:=ds.length;have:=ds'.length;cases l with
  |nil=>
   rw[show xs=[]from ds]at h1;exact .inr (.inr (.inr (.inr ⟨p,p',ys,rfl,rfl,SqT.of h1,SqT.of h2,q (.sh (.tp m)) _ _ h.2 e.refl ⟨p',ys,rfl,nb,h2,ds'⟩⟩)))
  |cons a l=>
   refine .inr (.inr (.inr (.inl ⟨p,p',xs,ys,rfl,rfl,SqT.of h1,SqT.of h2,?_,sz4 ∅,λz=>?_,λ_ r n=>?_⟩)))
   ·intro z;rw[z]at ds;obtain⟨_,_,e1,_⟩:=ds;cases e1
   ·subst z;have hm:m=[]:=List.length_eq_zero_iff.mp (by simpa using this);subst hm;exact q _ _ _ h.2 e.refl ⟨p,xs,rfl,by assumption,h1,by rw[Ax];exact ds⟩
   ·have f:=e.new (o:=.tup (xs++ys)) n;exact q _ _ _ h.2 f ⟨r,_,rfl,e.nw n,aM,DUs.mono (e.keep f) _ (ds.app ds')⟩
 ·exact h.elim
def aG8(g g':U->U->(Sl->Prop)->Prop)(a b c:TV):TV:=λρ R=>a ρ λs=>b ρ λs'=>g s.rd s'.rd λr=>match r.rd with
 |.v (.bl k)=>(k=true->c ρ λs''=>g' s'.rd s''.rd R)/\(k=false->R (.sh (.b false)))
 |_=>False
def aFw{r r':R2}{g g':U->U->(Sl->Prop)->Prop}{ta tb tc:TE}{F G E:TV}(o:O2 r g)(o':O2 r' g')(ha:VT ta F)(hb:VT tb G)(hc:VT tc E):VT (aH7 r r' ta tb tc) (aG8 g g' F G E):=λe h q=>by
 refine ha e h λs v H1 h1 f1 r1=>?_;have e1:=e.to f1;refine hb e1 h1 λs' v' H2 h2 f2 r2=>?_;have e2:=e1.to f2;have db2:=r2.db e1.eb;refine o e2.eb ((r1.db e.eb).to e1.eb f2) db2 h2 λs3 z H3 h3 f3 r3=>?_;have d:=r3.db e2.eb;revert h3 d;generalize s3.rd=u;intro h3 d;split at h3
 ·rename_i k;refine⟨k,d.fl.1,?_⟩;have e3:=e2.to f3;cases k with
  |true=>
   refine aFv (hc e3 (h3.1 rfl) λs4 v4 H4 h4 f4 r4=>?_);refine o' (e3.to f4).eb ((db2.to e2.eb f3).to e3.eb f4) (r4.db e3.eb) h4 λs5 v5 H5 h5 f5 r5=>?_;have ff:=((f1.trans f2).trans f3).trans f4;exact q _ _ _ h5 (ff.trans f5) (r5.back ff)
  |false=>exact wZ (q _ _ _ (h3.2 rfl) ((f1.trans f2).trans f3) ⟨rfl,rfl⟩)
 ·exact h3.elim
def aL5{op op':CmpOp}{r r':R2}{g g':U->U->(Sl->Prop)->Prop}{a b c:Expr}{F G E:TV}(ho:OpR X (compareOp op) r)(ho':OpR X (compareOp op') r')(o:O2 r g)(o':O2 r' g')(ha:VE X a F)(hb:VE X b G)(hc:VE X c E)(hm:lastMarks [op,op'] [b,c]=false:=by with_unfolding_all rfl):VE X (.Compare a [op,op'] [b,c] pos) (aG8 g g' F G E):=
 let⟨_,p,f⟩:=ha;let⟨_,p1,f1⟩:=hb;let⟨_,p2,f2⟩:=hc;⟨_,aOu ho ho' p p1 p2 hm,aFw o o' f f1 f2⟩
def tH{op op':CmpOp}{r r':R2}{g g':U->U->(Sl->Prop)->Prop}{a b c:Expr}{F G E:TV}(ho:OpR X (compareOp op) r)(ho':OpR X (compareOp op') r')(o:O2 r g)(o':O2 r' g')(ha:VE X a F)(hb:VE X b G)(hc:VE X c E)(hm:lastMarks [op,op'] [b,c]=false:=by with_unfolding_all rfl):VC X (.Compare a [op,op'] [b,c] pos) (nH (aG8 g g' F G E)):=
 let⟨_,p,f⟩:=ha;let⟨_,p1,f1⟩:=hb;let⟨_,p2,f2⟩:=hc;⟨_,aMu ho ho' p p1 p2 hm,zF (aFw o o' f f1 f2)⟩
def vUn(g:Int->Int)(a:TV):TV:=λρ R=>a ρ λs=>match s.rd with
 |.v (.int i)=>R (.sh (.n (g i)))
 |_=>False
def aMg{F:TV}(ha:VE X a F):VE X (.UnaryOp .USub a pos) (vUn (λi=> -i) F):=let⟨_,p,f⟩:=ha;⟨_,aY1 aVs p,λe h q=>f e h λs v H1 h1 f1 r=>by
 have d:=r.db e.eb;revert h1 d;generalize s.rd=u;intro h1 d;split at h1
 ·exact⟨_,d.int,q _ _ _ h1 f1 ⟨rfl,rfl⟩⟩
 ·exact h1.elim⟩
def DBs.one{W B:Addr->Prop}{H:Hp}{u:U}(h:DBs W B H [u] vs):∃x,vs=[x]/\DB W B H u x:=by
 obtain⟨x,r,e,d,t⟩:=h;obtain rfl:r=[]:=t;exact⟨x,e,d⟩
def DBs.two{W B:Addr->Prop}{H:Hp}{u v:U}(h:DBs W B H [u,v] vs):∃x y,vs=[x,y]/\DB W B H u x/\DB W B H v y:=by
 obtain⟨x,r,e,d,y,r',rfl,d',t⟩:=h;obtain rfl:r'=[]:=t;exact⟨x,y,e,d,d'⟩
def aW0:List U->(Sl->Prop)->Prop
 | [.ls l],R=>R (.sh (.n l.length))
 | [.tp l],R=>R (.sh (.n l.length))
 |_,_=>False
def cU{K:Ae}:CB (λxs H Q=>∃p ys,xs=[.ref p]/\(SqL K H p ys∨SqT K H p ys)/\Q (.int ys.length) H) aW0:=λ{W B H us vs R Q} e d h q=>by
 unfold aW0 at h;split at h
 ·obtain⟨x,rfl,dd⟩:=DBs.one d;obtain⟨p,xs,rfl,_,hp,ds⟩:=dd.ls e;exact⟨p,xs,rfl,.inl (SqL.of hp),by rw[<-ds.length];exact q _ _ _ h e.refl ⟨rfl,rfl⟩⟩
 ·obtain⟨x,rfl,dd⟩:=DBs.one d;obtain⟨p,xs,rfl,_,hp,ds⟩:=dd.tp;exact⟨p,xs,rfl,.inr (SqT.of hp),by rw[<-ds.length];exact q _ _ _ h e.refl ⟨rfl,rfl⟩⟩
 ·exact h.elim
def DUs.bls{W B:Addr->Prop}{H:Hp}:∀{bs:List Bool}{xs:List V},DUs W B H (bs.map U.b) xs->xs=bs.map V.bl
 | [],_,h=>h
 |_::_,_,⟨x,r,e,d,t⟩=>by rw[e,d.1,DUs.bls t];rfl
def DUs.ints{W B:Addr->Prop}{H:Hp}:∀{ns:List Int}{xs:List V},DUs W B H (ns.map U.n) xs->xs=ns.map V.int
 | [],_,h=>h
 |_::_,_,⟨x,r,e,d,t⟩=>by rw[e,d.1,DUs.ints t];rfl
inductive aSv(f:List Bool->Bool)(us:List U)(R:(Sl->Prop)):Prop
 |mk (bs:List Bool) (q0_:us=[.ls (bs.map U.b)]) (q1_:R (.sh (.b (f bs)))):aSv f us R
def aZ5(f:List Bool->Bool):List U->(Sl->Prop)->Prop:=λus R=>aSv f us R
def xU{X:Cx}{f:List Bool->Bool}(hc:X.calm=true):CB (λxs H Q=>∃(p:Addr)(bs:List Bool),xs=[.ref p]/\SqL X.K H p (bs.map V.bl)/\X.calm=true/\Q (.bl (f bs)) H) (aZ5 f):=λ{W B H us vs R Q} e d ⟨bs,eu,h⟩ q=>by
 subst eu;obtain⟨x,rfl,dd⟩:=DBs.one d;obtain⟨p,xs,rfl,_,hp,ds⟩:=dd.ls e;rw[ds.bls]at hp;exact⟨p,bs,rfl,SqL.of hp,hc,q _ _ _ h e.refl ⟨rfl,rfl⟩⟩
def aYc:List U->(Sl->Prop)->Prop
 | [.v (.int i)],R=>R (.sh (.n i))
 | [.v (.bl k)],R=>R (.sh (.n (if k then 1 else 0)))
 |_,_=>False
def aTt:CB (λxs H Q=>(∃i,xs=[.int i]/\Q (.int i) H)∨∃k,xs=[.bl k]/\Q (.int (if k then 1 else 0)) H) aYc:=λ{W B H us vs R Q} e d h q=>by
 unfold aYc at h;split at h
 ·obtain⟨x,rfl,dd⟩:=DBs.one d;exact .inl ⟨_,by rw[dd.int],q _ _ _ h e.refl ⟨rfl,rfl⟩⟩
 ·obtain⟨x,rfl,dd⟩:=DBs.one d;exact .inr ⟨_,by rw[dd.fl.1],q _ _ _ h e.refl ⟨rfl,rfl⟩⟩
 ·exact h.elim
def aTg:List U->(Sl->Prop)->Prop
 | [.ls l],R=>R (.ow l)
 | [.tp l],R=>R (.ow l)
 |_,_=>False
def vG{K:Ae}:CB (aNn K) aTg:=λ{W B H us vs R Q} e d h q=>by
 have fin:∀{l ys}(ds:DUs W B H l ys)(h:R (.ow l)) r,H r=none->Q (.ref r) (upd H r (.lst ys)):=λ{l ys} ds h r n=>by
  have f:=e.new (o:=.lst ys) n;exact q _ _ _ h f ⟨r,_,rfl,n,aM,DUs.mono (λb o nb h=>⟨λz=>z.elim nb (aN h n),(e.keep f b o nb h).2⟩) _ ds⟩
 unfold aTg at h;split at h
 ·obtain⟨x,rfl,dd⟩:=DBs.one d;obtain⟨p,xs,rfl,_,hp,ds⟩:=dd.ls e;exact⟨p,xs,rfl,.inl (SqL.of hp),fin ds h⟩
 ·obtain⟨x,rfl,dd⟩:=DBs.one d;obtain⟨p,xs,rfl,_,hp,ds⟩:=dd.tp;exact⟨p,xs,rfl,.inr (SqT.of hp),fin ds h⟩
 ·exact h.elim
def aL1:List U->(Sl->Prop)->Prop
 | [.ls l],R=>R (.sh (.tp l))
 | [.tp l],R=>R (.sh (.tp l))
 |_,_=>False
def aF7{K:Ae}:CB (aIz K) aL1:=λ{W B H us vs R Q} e d h q=>by
 unfold aL1 at h;split at h
 ·obtain⟨x,rfl,dd⟩:=DBs.one d;obtain⟨p,xs,rfl,_,hp,ds⟩:=dd.ls e;refine⟨p,xs,rfl,.inl ⟨SqL.of hp,λr n=>?_⟩⟩;have f:=e.new (o:=.tup xs) n;exact q _ _ _ h f ⟨r,_,rfl,e.nw n,aM,DUs.mono (e.keep f) _ ds⟩
 ·obtain⟨x,rfl,dd⟩:=DBs.one d;obtain⟨p,xs,rfl,nb,hp,ds⟩:=dd.tp;exact⟨p,xs,rfl,.inr ⟨SqT.of hp,q _ _ _ h e.refl ⟨p,xs,rfl,nb,hp,ds⟩⟩⟩
 ·exact h.elim
def dR{x:Str}{i:Int}{t:Tok}(hm:X.mg x=some (.int i t))(hg:Gl X x:=by rfl)(hd:ND x:=by decide):VE X (.Name x pos) (vC (.n i)):=⟨_,aQx (v:=.int i) hg hm ⟨_,rfl⟩ hd,aNf rfl⟩
def jB{st:Stmt}:VS X st (λ_ _=>False):=⟨_,oY,λ_ h _=>h⟩
def aSt{e:Expr}{F:TV}(he:VE X e F)(hs:swapsWith e none pos.line X.env=pure false:=by rfl):VS X (.Expr e pos) (vDo F):=let⟨_,p,f⟩:=he;⟨_,qT p hs,λo h j=>f o.ee h λs v H1 h1 w r=>j.nx (o.to w) h1⟩
def aL6(neg:Bool)(F:TV):TV:=λρ R=>F ρ λs=>match s.rd with
 |.v x=>R (.sh (.b (if neg then !decide (x=.non)else decide (x=.non))))
 |.op _=>False
 |_=>R (.sh (.b neg))
def DB.non{W B:Addr->Prop}{H:Hp}{u:U}(e:EB W B H)(d:DB W B H u y)(h1:∀x,u≠.v x)(h2:∀o,u≠.op o):y≠.non:=by
 intro z;subst z;cases u with
 |v x=>exact h1 x rfl
 |op o=>exact h2 o rfl
 |tp l=>obtain⟨_,_,q,_⟩:=d.tp;cases q
 |ls l=>obtain⟨_,_,q,_⟩:=d.ls e;cases q
 |ob C ns us=>obtain⟨_,_,_,q,_⟩:=d.ob;cases q
 |dk ns us=>obtain⟨_,_,q,_⟩:=d.dk;cases q
 |wl=>
  rcases d with ⟨_,q,_⟩|⟨_,_,_,q,_⟩<;>cases q
def aLe{F:TV}(f:VT t F):VT (aWy t) (aL6 false F):=λe h q=>f e h λs v H1 h1 w r=>by
 have d:=r.db e.eb;revert h1 d;generalize s.rd=u;intro h1 d;split at h1
 ·rw[d.fl.1];exact q _ _ _ h1 w ⟨rfl,rfl⟩
 ·exact h1.elim
 ·rename_i n1 n2;rw[decide_eq_false (d.non (e.to w).eb n1 n2)];exact q _ _ _ h1 w ⟨rfl,rfl⟩
def aRu{F:TV}(f:VT t F):VT (aSx t) (aL6 true F):=λe h q=>f e h λs v H1 h1 w r=>by
 have d:=r.db e.eb;revert h1 d;generalize s.rd=u;intro h1 d;split at h1
 ·rw[d.fl.1];exact q _ _ _ h1 w ⟨rfl,rfl⟩
 ·exact h1.elim
 ·rename_i n1 n2;rw[decide_eq_false (d.non (e.to w).eb n1 n2)];exact q _ _ _ h1 w ⟨rfl,rfl⟩
def aWa{j pos pos'}{F:TV}(ha:VE X a F):VE X (.Compare a [.Is] [.Constant .none j pos'] pos) (aL6 false F):=let⟨_,p,f⟩:=ha;⟨_,aTu (aLv p),aLe f⟩
def aSa{F:TV}(h:VT t F):VTc (tB t) (nH F):=zF h
def aVn{j pos pos'}{F:TV}(ha:VE X a F):VC X (.Compare a [.Is] [.Constant .none j pos'] pos) (nH (aL6 false F)):=let⟨_,p,f⟩:=ha;⟨_,aOk (aLv p),aSa (aLe f)⟩
def aDd{j pos pos'}{F:TV}(ha:VE X a F):VC X (.Compare a [.IsNot] [.Constant .none j pos'] pos) (nH (aL6 true F)):=let⟨_,p,f⟩:=ha;⟨_,aOk (aP7 p),aSa (aRu f)⟩
inductive Tg where
 |non|bl|int|str|tp|ls|dk
def tyU:U->Option Tg
 |.v .non=>some .non
 |.v (.bl _)=>some .bl
 |.v (.int _)=>some .int
 |.v (.str _)=>some .str
 |.tp _=>some .tp
 |.ls _=>some .ls
 |.dk _ _=>some .dk
 |_=>none
def Tg.nm:Tg->String
 |.non=>"NoneType"|.bl=>"bool"|.int=>"int"|.str=>"str"|.tp=>"tuple"|.ls=>"list"|.dk=>"dict"
def isT:Tg->Tg->Bool
 |.non,.non=>true
 |.bl,.bl=>true
 |.bl,.int=>true
 |.int,.int=>true
 |.str,.str=>true
 |.tp,.tp=>true
 |.ls,.ls=>true
 |.dk,.dk=>true
 |_,_=>false
def aY3{W B:Addr->Prop}{H:Hp}{u:U}{t:Tg}{K:Ae}(e:EB W B H)(d:DB W B H u y)(h:tyU u=some t):vJ K H y (.type t.nm):=by
 unfold tyU at h;split at h<;>cases h
 ·rw[d.fl.1];exact .non
 ·rw[d.fl.1];exact .bl _
 ·rw[d.fl.1];exact .int _
 ·rw[d.fl.1];exact .str _
 ·obtain⟨p,xs,rfl,_,h,_⟩:=d.tp;exact .tup h
 ·obtain⟨p,xs,rfl,_,h,_⟩:=d.ls e;exact .lst h
 ·obtain⟨p,xs,rfl,_,h,_⟩:=d.dk;exact .dK h
def aV9{K:Ae}{t n:Tg}(hn:n≠.non):Mu K (.type t.nm) (.type n.nm)=some (isT t n):=by
 cases t<;>cases n<;>first|rfl|exact(hn rfl).elim
def aZ3(n:Tg)(F:TV):TV:=λρ R=>F ρ λs=>∃t,tyU s.rd=some t/\R (.sh (.b (isT t n)))
def oR{x:Str}{F:TV}{p p' pos:Pos}(n:Tg)(hn:n≠.non)(hm:X.mg "isinstance"=none)(hm2:X.mg x=none)(hv:bootBuiltins x=some (.type n.nm))(ha:VE X a F)(hg:Gl X "isinstance":=by rfl)(hg2:Gl X x:=by rfl)(h1:x≠"__name__":=by decide)(h2:ND x:=by decide)
  (hs:starEach [a,.Name x p'] X.env=(false,eval a X.env)::starEach [.Name x p'] X.env:=by rfl) (hs2:starEach [.Name x p'] X.env=(false,eval (.Name x p') X.env)::starEach [] X.env:=by rfl) (hpl:BT X pos [.Name x p']:=by rfl):
  VE X (.Call (.Name "isinstance" p) [a,.Name x p'] [] pos) (aZ3 n F):=
 let⟨_,q,f⟩:=ha;⟨_,iW aF5 hg hm boot_isinstance (cF q (cF (aQl (v:=.ty n.nm) hg2 hm2 hv rfl h1 h2) eO hs2) hs) ⋯ ⋯ hs hpl,λe h q=>f e h λs v H1 ⟨t,ht,h1⟩ w r=>
  ⟨_,_,_,_,rfl,aY3 (K:=X.K) (e.to w).eb (r.db e.eb) ht,aV9 hn,q _ _ _ h1 w ⟨rfl,rfl⟩⟩⟩
def gIn(neg:Bool):U->U->(Sl->Prop)->Prop
 |u,.ls l,R=>u.dt 40/\U.dts 40 l/\R (.sh (.b (if neg then !(l.any λe=>e.eq u)else l.any λe=>e.eq u)))
 |u,.tp l,R=>u.dt 40/\U.dts 40 l/\R (.sh (.b (if neg then !(l.any λe=>e.eq u)else l.any λe=>e.eq u)))
 |_,_,_=>False
theorem aHs(u:U):∀l:List U,((U.ds l).any λe=>e.eq u.d)=l.any λe=>e.eq u
 | []=>rfl
 |a::l=>by rw[U.ds,Fp,Fp,aHs u l];rfl
def aCm{K:Ae}{neg:Bool}:O2 (aVk K neg) (gIn neg):=λ{W B H u v x y R Q} e d1 d2 h q=>by
 unfold gIn at h;split at h
 ·obtain⟨t1,t2,h⟩:=h;obtain⟨p,xs,rfl,_,hp,ds⟩:=d2.ls e;have h1:=U.dep 40 u t1;have h2:=U.deps 40 _ t2;exact⟨u.d,p,xs,_,d1.den t1,rfl,.inl (SqL.of hp),DUs.dens 40 _ t2 ds,∅,by rw[aHs];exact q _ _ _ h e.refl ⟨rfl,rfl⟩⟩
 ·obtain⟨t1,t2,h⟩:=h;obtain⟨p,xs,rfl,_,hp,ds⟩:=d2.tp;have h1:=U.dep 40 u t1;have h2:=U.deps 40 _ t2;exact⟨u.d,p,xs,_,d1.den t1,rfl,.inr (SqT.of hp),DUs.dens 40 _ t2 ds,∅,by rw[aHs];exact q _ _ _ h e.refl ⟨rfl,rfl⟩⟩
 ·exact h.elim
inductive aS8(us:List U)(R:(Sl->Prop)):Prop
 |mk (ns:List Int) (q0_:us=[.ls (ns.map U.n)]) (q1_:ns.length<=1000) (q2_:(∀n∈ns,0<=n/\n<=1000)) (q3_:R (.sh (.n ns.sum))):aS8 us R
def bAa:List U->(Sl->Prop)->Prop:=λus R=>aS8 us R
def aV8{K:Ae}:CB (aW6 K) bAa:=λ{W B H us vs R Q} e d ⟨ns,eu,hl,hn,h⟩ q=>by
 subst eu;obtain⟨x,rfl,dd⟩:=DBs.one d;obtain⟨p,xs,rfl,_,hp,ds⟩:=dd.ls e;rw[ds.ints]at hp;exact⟨p,ns,rfl,SqL.of hp,hl,hn,q _ _ _ h e.refl ⟨rfl,rfl⟩⟩
def gII(f:Int->Int->Int):List U->(Sl->Prop)->Prop
 | [.v (.int i),.v (.int j)],R=>R (.sh (.n (f i j)))
 |_,_=>False
def aWj{f:Int->Int->Int}:CB (λxs H Q=>∃i j,xs=[.int i,.int j]/\Q (.int (f i j)) H) (gII f):=λ{W B H us vs R Q} e d h q=>by
 unfold gII at h;split at h
 ·obtain⟨x,y,rfl,d1,d2⟩:=DBs.two d;exact⟨_,_,by rw[d1.int,d2.int],q _ _ _ h e.refl ⟨rfl,rfl⟩⟩
 ·exact h.elim
def aXz(F:TVa)(D:TV):TV:=λρ R=>F ρ λus=>D ρ λs=>∃ns:List Int,us=[.ls (ns.map U.n)]/\match s.rd with
 |.v (.int d)=>(ns=[]->R (.sh (.n d)))/\∀m:Int,m∈ns->(∀a∈ns,a<=m)->R (.sh (.n m))
 |_=>False
def aEb{k:Expr}{kp:Pos}{F:TVa}{D:TV}{p pos:Pos}(hc:X.calm=true)(hm:X.mg "max"=none)(ha:VB X [a] F)(hk:VE X k D)(hg:Gl X "max":=by rfl)
  (hkw:∀{tk:TE},PE X k tk->PK X [⟨some "default",k,kp⟩] (aNm tk aRf):=by exactλh=>aRo h aUd)
  (hall:(backToKw pos (keywordEach [⟨some "default",k,kp⟩] X.env)).all (·.1.isSome)=true:=by rfl) (hks:(backToKw pos (keywordEach [⟨some "default",k,kp⟩] X.env)).filterMap (·.1)=[("default":Str)]:=by rfl)
  (he:SE X a []:=by rfl) (hpl:BT X pos [a]:=by rfl) (hpk:(backToKw pos (keywordEach [⟨some "default",k,kp⟩] X.env)).any (·.1.isNone)=false:=by rfl):
  VE X (.Call (.Name "max" p) [a] [⟨some "default",k,kp⟩] pos) (aXz F D):=
 let⟨_,q1,f1⟩:=ha;let⟨_,q2,f2⟩:=hk;⟨_,aKi (aJe hc) hg hm boot_max q1 (hkw q2) hall hks ⋯ ⋯ he hpl hpk,λe h q=>f1 e h λus vs H1 h1 w1 d1=>f2 (e.to w1) h1 λs v H2 h2 w2 r2=>by
  obtain⟨ns,eu,h2⟩:=h2;subst eu;have e2:=(e.to w1).to w2;obtain⟨x,rfl,d⟩:=DBs.one (DBs.to (e.to w1).eb w2 d1);obtain⟨p,xs,rfl,_,hp,ds⟩:=d.ls e2.eb;rw[ds.ints]at hp;have dd:=r2.db (e.to w1).eb;revert h2 dd;generalize s.rd=u;intro h2 dd;split at h2
  ·rw[dd.int];exact⟨p,ns,_,rfl,rfl,SqL.of hp,λz=>q _ _ _ (h2.1 z) (w1.trans w2) ⟨rfl,rfl⟩,λm hm ha=>q _ _ _ (h2.2 m hm ha) (w1.trans w2) ⟨rfl,rfl⟩⟩
  ·exact h2.elim⟩
def huD{A:Around}(hr:cW k A):A.units+101<cLine:=by have:=hr.un;lia
def Rbl{R:Sl->Prop}{c d:Bool}(q:R (.sh (.b d)))(h:c=d):R (.sh (.b c)):=h▸q
theorem bC{g:TVg}{b:TVS}{E:aEz}(I:List U->EV->Prop)(hn:∀ρ,I [] ρ->E.nx ρ)(hc:∀u r ρ,I (u::r) ρ->(∀ρ',I r ρ'->eF g b E r ρ')->eF g b E (u::r) ρ):∀{l ρ},I l ρ->eF g b E l ρ
 | [],ρ,h=>hn ρ h
 |u::r,ρ,h=>hc u r ρ h λ_ h'=>bC I hn hc h'
theorem eY{f:U->(Option U->Prop)->Prop}{R:List U->Prop}{h:U->U}:∀{l acc:List U},(∀u∈l,∀k,k (some (h u))->f u k)->R (acc++l.map h)->cO f l acc R
 | [],acc,_,r=>by rw[Ep,Ax]at r;exact r
 |u::l,acc,hf,r=>hf u Ah _ (eY (λx hx=>hf x (Af _ hx)) (by rw[Bu];exact r))
abbrev Tke:Type:=Int×List Int
def tkU(x:Tke):U:=.tp [.n x.1,.tp (x.2.map U.n)]
theorem zU{W B:Addr->Prop}{H:Hp}:∀{xs:List Tke}{zs:List V},DUs W B H (xs.map tkU) zs->∃ps:List (Tke×Addr),zs=ps.map (λx=>V.ref x.2)/\ps.map (·.1)=xs/\∀x∈ps,PKy H x/\DU W B H (tkU x.1) (.ref x.2)
 | [],_,h=>⟨[],h,rfl,λ_ z=>nomatch z⟩
 |x::xs,_,⟨v,r,e,d,t⟩=>by
  obtain⟨ps,e1,e2,h⟩:=zU t;obtain⟨a,ys,rfl,nb,ha,y1,_,rfl,f1,y2,r2,rfl,⟨q,zs,rfl,nq,hq,dz⟩,e3⟩:=id d;obtain rfl:r2=[]:=e3;rw[f1.1]at ha;refine⟨(x,a)::ps,by rw[e,e1];rfl,by rw[Bo,e2],λz hz=>?_⟩;rcases List.mem_cons.mp hz with rfl|hz
  ·exact⟨⟨q,ha,by rw[dz.ints]at hq;exact hq⟩,d⟩
  ·exact h z hz
theorem aAo{W B:Addr->Prop}{H:Hp}:∀{ps:List (Tke×Addr)},(∀x∈ps,DU W B H (tkU x.1) (.ref x.2))->DUs W B H ((ps.map (·.1)).map tkU) (ps.map λx=>V.ref x.2)
 | [],_=>rfl
 |x::ps,h=>⟨_,_,rfl,h x Ah,aAo λy hy=>h y (Af _ hy)⟩
def aYa(F:TVa):TV:=λρ R=>F ρ λus=>∃xs:List Tke,us=[.ls (xs.map tkU)]/\xs.length<=60/\∀ys:List Tke,ys.Pairwise (λx y=>gU x y=true)->(∀y,y∈ys↔y∈xs)->R (.ow (ys.map tkU))
def aUk(F:TVa):TV:=λρ R=>F ρ λus=>∃(ns:List Nat)(x:Nat),us=[.ls (ns.map λk:Nat=>U.n k)]/\(∀n∈ns,n=x)/\x∈[1,2,3]/\R (.ow ((zs1 x (decide (0<ns.length))).map λk:Nat=>U.n k))
def DUs.nats{W B:Addr->Prop}{H:Hp}:∀{ns:List Nat}{xs:List V},DUs W B H (ns.map λk:Nat=>U.n k) xs->xs=yJ ns
 | [],_,h=>h
 |_::_,_,⟨x,r,e,d,t⟩=>by rw[e,d.1,DUs.nats t];rfl
def DUs.ofNats{W B:Addr->Prop}{H:Hp}:∀{ns:List Nat},DUs W B H (ns.map λk:Nat=>U.n k) (yJ ns)
 | []=>rfl
 |_::_=>⟨_,_,rfl,⟨rfl,rfl⟩,DUs.ofNats⟩
def aI4{F:TVa}{p p' pos pos':Pos}(hr:cW k X.A)(hc:X.calm=true)(h1:X.mg "sorted"=none)(h2:X.mg "set"=none)(ha:VB X [a] F)(g1:Gl X "sorted":=by rfl)(g2:Gl X "set":=by rfl)(hs:SE X a []:=by rfl)(hpl:BT X pos' []:=by rfl)
  (hs':starEach [.Call (.Name "set" p') [a] [] pos'] X.env=(false,eval (.Call (.Name "set" p') [a] [] pos') X.env)::starEach [] X.env:=by rfl) (hpl':BT X pos []:=by rfl):VE X (.Call (.Name "sorted" p) [.Call (.Name "set" p') [a] [] pos'] [] pos) (aYa F):=
 let⟨_,q,f⟩:=ha;⟨_,iW (aDv (by have:=hr.un;lia) hc) g1 h1 Pd (cF (iB (aC1 (by have:=hr.un;lia) hc) g2 h2 Ub q ⋯ ⋯ hs hpl) eO hs') ⋯ ⋯ hs' hpl',λ{W B ρ σ H R Q} e h q=>f e h λus vs H1 ⟨xs,eu,xl,h1⟩ w1 d=>by
  subst eu;have e1:=e.to w1;obtain⟨x,rfl,dd⟩:=DBs.one d;obtain⟨p,zs,rfl,_,hp,ds⟩:=dd.ls e1.eb;obtain⟨ps,rfl,rfl,hk⟩:=zU ds;rw[Ab]at xl;refine⟨p,ps,rfl,SqL.of hp,λx hx=>(hk x hx).1,∅,⟨ps.map (·.1),by rw[Ab];lia,λx hx=>List.mem_map.mpr ⟨x,hx,rfl⟩⟩,λl zs nl nd sub all zl=>?_⟩;have w2:=e1.eb.new (o:=.ext (jF X.prog X.w l zs)) nl;have k2:∀x∈zs,PKy (upd H1 l (.ext (jF X.prog X.w l zs))) x/\DU W B (upd H1 l (.ext (jF X.prog X.w l zs))) (tkU x.1) (.ref x.2):=λx hx=>by
   obtain⟨⟨q,a1,a2⟩,a3⟩:=hk x (sub x hx);exact⟨⟨q,(aO (aN a1 nl)).trans a1,(aO (aN a2 nl)).trans a2⟩,DU.mono (e1.eb.keep w2) _ a3⟩
  have e2:=e1.to w2;refine⟨l,zs,rfl,aM,λx hx=>(k2 x hx).1,∅,λm ys nm pm pw=>?_⟩;have w3:=e2.eb.new (o:=.lst (ys.map λx=>V.ref x.2)) nm;refine q (.ow ((ys.map (·.1)).map tkU)) _ _ (h1 _ ?_ λy=>?_) ((w1.trans w2).trans w3) (RO.back (s:=.ow _) (w1.trans w2) ⟨m,_,rfl,nm,aM,aAo λx hx=>?_⟩)
  ·rw[Dg];exact pw
  ·constructor
   ·intro hy;obtain⟨x,hx,rfl⟩:=List.mem_map.mp hy;exact List.mem_map.mpr ⟨x,sub x (pm.mem_iff.mp hx),rfl⟩
   ·intro hy;obtain⟨x,hx,rfl⟩:=List.mem_map.mp hy;obtain⟨z,hz,e⟩:=all x hx;exact List.mem_map.mpr ⟨z,pm.mem_iff.mpr hz,e⟩
  ·exact DU.mono (λb o nb h=>⟨λz=>z.elim nb (aN h nm),(e2.eb.keep w3 b o nb h).2⟩) _ (k2 x (pm.mem_iff.mp hx)).2⟩
def aM4{F:TVa}{p p' pos pos':Pos}(hc:X.calm=true)(h1:X.mg "sorted"=none)(h2:X.mg "set"=none)(ha:VB X [a] F)(g1:Gl X "sorted":=by rfl)(g2:Gl X "set":=by rfl)(hs:SE X a []:=by rfl)(hpl:BT X pos' []:=by rfl)
  (hs':starEach [.Call (.Name "set" p') [a] [] pos'] X.env=(false,eval (.Call (.Name "set" p') [a] [] pos') X.env)::starEach [] X.env:=by rfl) (hpl':BT X pos []:=by rfl):VE X (.Call (.Name "sorted" p) [.Call (.Name "set" p') [a] [] pos'] [] pos) (aUk F):=
 let⟨_,q,f⟩:=ha;⟨_,iW (aDs hc) g1 h1 Pd (cF (iB (aJ8 hc) g2 h2 Ub q ⋯ ⋯ hs hpl) eO hs') ⋯ ⋯ hs' hpl',λ{W B ρ σ H R Q} e h q=>f e h λus vs H1 ⟨ns,y,eu,hn,h3,h1⟩ w1 d=>by
  subst eu;have e1:=e.to w1;obtain⟨x,rfl,dd⟩:=DBs.one d;obtain⟨p,zs,rfl,_,hp,ds⟩:=dd.ls e1.eb;rw[ds.nats]at hp;refine⟨p,ns,y,rfl,SqL.of hp,hn,h3,λl nl=>?_⟩;have w2:=e1.eb.new (o:=.ext (aCj X.w l y (decide (0<ns.length)))) nl;have e2:=e1.to w2;refine⟨l,y,_,rfl,aM,h3,λm nm=>?_⟩;have w3:=e2.eb.new (o:=.lst (yJ (zs1 y (decide (0<ns.length))))) nm;exact q (.ow _) _ _ h1 ((w1.trans w2).trans w3) (RO.back (s:=.ow _) (w1.trans w2) ⟨m,_,rfl,nm,aM,DUs.ofNats⟩)⟩
inductive aWq(C:Addr)(F:List U->(List Str->List U->Prop)->Prop)(vs:List V)(H:Hp)(Q:VK)(z3_:XK):Prop
 |mk (x dx vs' H1 W B us R:_) (q0_:vs=.ref x::vs') (q1_:H1 x=none) (q2_:H x=some (.ins C dx [])) (q3_:aWs H1 H) (q4_:EB W B H1) (q5_:DUs W B H1 us vs') (q6_:F us R) (q7_:∀ns ws xs H',R ns ws->Fw W H1 H'->H' x=some (.ins C dx (ns.zip xs))->ns.length=xs.length->DUs W B H' ws xs->Q .non H'):aWq C F vs H Q z3_
def spI(C:Addr)(F:List U->(List Str->List U->Prop)->Prop):Sp:=λvs H Q z3_=>aWq C F vs H Q z3_
structure MkU(P:Program)(w:World)(K:Ae)(mg:Str->#v[14])(base:Heap)(k:Nat)(C:Addr)(x:Str)(ps:List Str)(F:List U->(List Str->List U->Prop)->Prop):Prop where
 ex:∃f fd,↥k f fd ps (spI C F)/\Mk K C f/\mg x=some (.ref C)/\Binds K fd ps []
def aXn(C:Addr)(F:List U->(List Str->List U->Prop)->Prop)(a:TVa):TV:=λρ R=>a ρ λus=>F us λns ws=>R (.sh (.ob C ns ws))
def qL{x:Str}{F:List U->(List Str->List U->Prop)->Prop}{es:List Expr}{G:TVa}{p pos:Pos}(M:MkU X.prog X.w X.K X.mg X.base k C x ps F)(hr:cW (k+1) X.A)(ha:VA X (a::es) G)(hg:Gl X x:=by rfl)
  (hdb:ND x:=by decide) (he:SE X a es:=by rfl) (hpl:BT X pos es:=by rfl):VE X (.Call (.Name x p) (a::es) [] pos) (aXn C F G):=by
 obtain⟨f,fd,Fo,Mk_,hm,hb⟩:=M.ex;obtain⟨_,p,g⟩:=ha;refine⟨_,aRd Mk_ Fo hr hg hm hb .nil (E:=E0) aB2 p hdb he hpl,λ{W B ρ σ H R Q} e h q=>g e h λus vs H1 h1 _ w d=>λx dx nx nd ne=>?_⟩;have e1:=(e.to w).eb;refine⟨x,dx,vs,H1,W,B,us,_,by rw[Ax],nx,aM,λb o hb=>?_,e1,d,h1,λns ws xs H' hR fw hx hl ds=>⟨rfl,q (.sh (.ob C ns ws)) _ _ hR (w.trans fw) ⟨x,dx,xs,rfl,e1.nw nx,hx,hl,ds⟩⟩⟩;rw[aO (aN hb nx),aO (aN hb nd)];exact hb
def aCp{F:TV}{σ:St}{H:Hp}{W B:Addr->Prop}{ρ:EV}{R:Sl->Prop}(e:EE W B H ρ σ)(h:F ρ R)(q:∀s v H',R s->Fw W H H'->RO W B H H' s v->Q v H'):tV F σ H Q:=⟨W,B,ρ,R,e,h,q⟩
def aAv{F:TVc}{σ:St}{H:Hp}{Q:Bool->Hp->Prop}{W B:Addr->Prop}{ρ:EV}{R:Bool->Prop}(e:EE W B H ρ σ)(h:F ρ R)(q:∀c H',R c->Fw W H H'->Q c H'):tVc F σ H Q:=⟨W,B,ρ,R,e,h,q⟩
section
variable {W B:Addr->Prop}{H H':Hp}
def nU{ρ:EV}{σ:St}{u:U}(d:DU W B H u v)(e:EE W B H ρ σ):EE W B H (.sh u::ρ) (some v::σ):=by
 refine⟨e.eb,by rw[Am,Am,e.len],λi u' h=>?_,λi s w h hs=>?_⟩
 ·cases i with
  |zero=>cases h;exact⟨v,rfl,d⟩
  |succ i=>exact e.sh i u' h
 ·cases i with
  |zero=>cases h;cases hs
  |succ i=>exact e.hd i s w h hs
def aOp(e:EB W B H):EE W B H [] []:=⟨e,rfl,nofun,nofun⟩
def qR{ρ:EV}{σ:St}{v:Option V}(e:EE W B H ρ σ):EE W B H (.no::ρ) (v::σ):=by
 refine⟨e.eb,by rw[Am,Am,e.len],λi u' h=>?_,λi s w h hs=>?_⟩
 ·cases i with
  |zero=>cases h
  |succ i=>exact e.sh i u' h
 ·cases i with
  |zero=>cases h;cases hs
  |succ i=>exact e.hd i s w h hs
mutual
theorem DU.data(k:∀b o,¬B b->H b=some o->(∃xs,o=.tup xs)∨(∃xs,o=.lst xs)->H' b=some o):∀(n:Nat)(u:U){v:V},u.dt n->DU W B H u v->DU W B H' u v
 |_,.v _,_,_,h=>h
 |n+1,.tp l,_,t,⟨p,xs,e,nb,hp,ds⟩=>⟨p,xs,e,nb,k _ _ nb hp (.inl ⟨_,rfl⟩),DUs.data k n l t ds⟩
 |n+1,.ls l,_,t,⟨p,xs,e,nb,hp,ds⟩=>⟨p,xs,e,nb,k _ _ nb hp (.inr ⟨_,rfl⟩),DUs.data k n l t ds⟩
theorem DUs.data(k:∀b o,¬B b->H b=some o->(∃xs,o=.tup xs)∨(∃xs,o=.lst xs)->H' b=some o):∀(n:Nat)(l:List U){xs:List V},U.dts n l->DUs W B H l xs->DUs W B H' l xs
 |_,[],_,_,h=>h
 |n,u::l,_,⟨t,t'⟩,⟨x,r,e,h,h'⟩=>⟨x,r,e,DU.data k n u t h,DUs.data k n l t' h'⟩
end
def Fw.upd{H1:Hp}{x:Addr}{o:HO}(f:Fw W H1 H)(n:H1 x=none)(nw:¬W x):Fw W H1 (upd H x o):=⟨λb u w h=>(aO (aN h n)).trans (f.fr b u w h),λp hp=>by
 obtain⟨a,b,c,h⟩:=f.wo p hp;exact⟨a,b,c,(aO (λz:p=x=>nw (by rw[<-z];exact hp))).trans h⟩⟩
def fG{x C dx:Addr}{fs:List (Str×V)}{o:HO}(h:H x=some (.ins C dx fs)):∀b u,¬B b->H b=some u->(∃xs,u=.tup xs)∨(∃xs,u=.lst xs)->upd H x o b=some u:=λb u _ hb ht=>by
 refine(aO (λz:b=x=>?_)).trans hb;rw[z,h]at hb;rcases ht with ⟨xs,rfl⟩|⟨xs,rfl⟩<;>cases hb
end
section
variable {W W' B:Addr->Prop}{H:Hp}
mutual
def Nw:U->Prop
 |.v _=>True
 |.tp l=>Nws l
 |.ls l=>Nws l
 |.ob _ _ us=>Nws us
 |.dk _ us=>Nws us
 |_=>False
def Nws:List U->Prop
 | []=>True
 |u::l=>Nw u/\Nws l
end
mutual
theorem DU.nw:∀(u:U){v:V},Nw u->DU W B H u v->DU W' B H u v
 |.v _,_,_,h=>h
 |.tp l,_,n,⟨p,xs,e,nb,hp,t⟩=>⟨p,xs,e,nb,hp,DUs.nw l n t⟩
 |.ls l,_,n,⟨p,xs,e,nb,hp,t⟩=>⟨p,xs,e,nb,hp,DUs.nw l n t⟩
 |.ob _ _ us,_,n,⟨p,dx,xs,e,nb,hp,hl,t⟩=>⟨p,dx,xs,e,nb,hp,hl,DUs.nw us n t⟩
 |.dk _ us,_,n,⟨p,xs,e,nb,hp,hl,t⟩=>⟨p,xs,e,nb,hp,hl,DUs.nw us n t⟩
theorem DUs.nw:∀(l:List U){xs:List V},Nws l->DUs W B H l xs->DUs W' B H l xs
 | [],_,_,h=>h
 |u::l,_,⟨n,n'⟩,⟨x,r,e,h,t⟩=>⟨x,r,e,DU.nw u n h,DUs.nw l n' t⟩
end
end
def Sl.nw:Sl->Prop
 |.sh u=>Nw u
 |.ow l=>Nws l
 |_=>False
def vWl(i:Nat)(G:TVS):TVS:=λE ρ=>match (ρ[i]? :Option Sl)with
 |some (.ow [.v (.int _),.v (.int _),.v (.int _)])=>G {nx:=λ_=>False,rt:=λs=>s.nw/\E.rt s} (ρ.set i (.sh .wl))
 |_=>False
open Classical in
def aO3{X:Cx}{st:List Stmt}{G:TVS}(i:Nat)(h:VSs X st G):VSs X st (vWl i G):=let⟨_,p,f⟩:=h;⟨_,p,λ{W B H0 A ρ σ H E D} o h j=>by
 unfold vWl at h;split at h
 ·rename_i a b c hi;obtain⟨q,xs,h1,h2,h3,h4⟩:=o.ow i _ hi;have ex:xs=[.int a,.int b,.int c]:=DUs.ints (ns:=[a,b,c]) h4;subst ex;have hq:=(h2 q).mpr rfl;have nq:H0 q=none:=o.an i q hq;have nB:¬B q:=o.now nq;have bx:∀b,Bx (λb=>B b∨b=q) (λj q=>j≠i/\A j q) b↔Bx B A b:=λb=>by
   constructor
   ·rintro((h|rfl)|⟨j,h⟩)
    ·exact .inl h
    ·exact .inr ⟨i,hq⟩
    ·exact .inr ⟨j,h.2⟩
   ·rintro(hb|⟨j,hb⟩)
    ·exact .inl (.inl hb)
    ·by_cases e:j=i
     ·rw[e]at hb;exact .inl (.inr ((h2 b).mp hb))
     ·exact .inr ⟨j,e,hb⟩
  have k:∀b x,¬Bx B A b->H b=some x->¬Bx (λb=>B b∨b=q) (λj q=>j≠i/\A j q) b/\H b=some x:=λb x n h=>⟨λz=>n ((bx b).mp z),h⟩;have own:∀b,B b->¬ ∃j,j≠i/\A j b:=λb hb ⟨j,_,h⟩=>o.now (o.an j b h) hb;have ownq:¬ ∃j,j≠i/\A j q:=λ⟨j,n,h⟩=>n (o.inj j i q h hq);let H2:Hp:=λb=>if∃j,j≠i/\A j b then none else H b
  have hH2:∀b x,H2 b=some x->H b=some x:=λb x h=>by
   have h:(if∃j,j≠i/\A j b then none else H b)=some x:=h;split at h
   ·cases h
   ·exact h
  have hH:∀b,(¬ ∃j,j≠i/\A j b)->H2 b=H b:=λb n=>if_neg n;have e0:=o.ee.eb;have Wl:∀p,(W p∨p=q)->Wll H p:=λp hp=>hp.elim (o.fw.wo p) λe=>⟨a,b,c,by rw[e];exact h3⟩;have wq:∀p,(W p∨p=q)->¬ ∃j,j≠i/\A j p:=λp hp=>hp.elim (λw=>own p (o.eb.wb p w)) λe=>by rw[e];exact ownq
  have o2:EO (λp=>W p∨p=q) (λb=>B b∨b=q) H2 (λj q=>j≠i/\A j q) (ρ.set i (.sh .wl)) σ H:=by
   refine⟨⟨λp hp=>?_,λp hp=>hp.elim (λw=> .inl (o.eb.wb p w)) .inr,λp hp=>?_⟩,⟨λb x _ h=>hH2 b x h,Wl⟩,by rw[Cu,o.len],λj p h=>if_pos ⟨j,h⟩,λj p h=>o.aw j p h.2,λj j' p h h'=>o.inj j j' p h.2 h'.2,λj u h=>?_,λj m w h hm=>?_,λj m h=>?_⟩
   ·rcases hp with hp|hp
    ·obtain⟨xs,e,m⟩:=e0.bl p (.inl hp);exact⟨xs,(hH p (own p hp)).trans e,m⟩
    ·exact⟨.lst _,(hH p (wq p (.inr hp))).trans (by rw[hp];exact h3),trivial⟩
   ·obtain⟨x,y,z,e⟩:=Wl p hp;exact⟨x,y,z,(hH p (wq p hp)).trans e⟩
   ·rcases cC h with ⟨rfl,e,hl⟩|⟨ne,h⟩
    ·cases e;exact⟨_,h1,q,rfl,.inr rfl⟩
    ·obtain⟨v',g1,g2⟩:=o.sh j u h;exact⟨v',g1,DU.wm (λ_=> .inl) u (DU.mono k u g2)⟩
   ·rcases cC h with ⟨rfl,rfl,hl⟩|⟨ne,h⟩
    ·cases hm
    ·obtain⟨p,g1,g3⟩:=o.hd j m w h hm;exact⟨p,g1,w.at_ (w.wm (λ_=> .inl) (w.mono k (λ_ _=>rfl) g3)) (aDp ne)⟩
   ·rcases cC h with ⟨rfl,rfl,hl⟩|⟨ne,h⟩
    ·rfl
    ·exact o.nb j m h
  have keep:∀b x,H0 b=some x->H b=some x->H2 b=some x:=λb x h0 h=>(hH b λ⟨j,_,e⟩=>by rw[o.an j b e]at h0;cases h0).trans h;refine f o2 h ⟨λ_ z=>z.elim,λ_ z=>z.elim,λ_ z=>z.elim,λ{s v Hf} fw r hs=>?_,λ_ _ z=>z.elim⟩;have fW:Fw W H0 Hf:=⟨λb x w h0=>fw.fr b x (λz=>z.elim w λe=>by rw[e,nq]at h0;cases h0) (keep b x h0 (o.fw.fr b x w h0)),λp hp=>fw.wo p (.inl hp)⟩;have kb:∀b x,¬(B b∨b=q)->Hf b=some x->¬B b/\Hf b=some x:=λb x n h=>⟨λz=>n (.inl z),h⟩;refine j.rt fW ?_ hs.2;match s,r,hs.1 with
  |.sh u,r,n=>exact DU.nw u n (DU.mono kb u r)
  |.ow l,⟨p',ys,e1,e2,e3,e4⟩,n=>
   refine⟨p',ys,e1,?_,e3,DUs.nw l n (DUs.mono (λb x n h=>⟨λz=>n (z.elim (λz=> .inl (.inl z)) .inr),h⟩) l e4)⟩;cases z:H0 p' with
   |none=>rfl
   |some x=>
    by_cases w:W p'
    ·obtain⟨_,_,_,y⟩:=o2.eb.wo p' (.inl w);rw[y]at e2;cases e2
    ·rw[keep p' x z (o.fw.fr p' x w z)]at e2;cases e2
 ·exact h.elim⟩
theorem gH{f:U->(Option U->Prop)->Prop}{R:List U->Prop}(P:U->Prop):∀{l acc:List U},(∀u∈l,∀k:Option U->Prop,(∀x,P x->k (some x))->f u k)->(∀xs:List U,xs.length=l.length->(∀x∈xs,P x)->R (acc++xs))->cO f l acc R
 | [],acc,_,r=>by
  have:=r [] rfl nofun
  rw[Ax]at this;exact this
 |u::l,acc,hf,r=>hf u Ah _ λx hx=>gH P (λy hy=>hf y (Af _ hy)) λxs el hp=>by
  rw[Bu];exact r (x::xs) (by rw[Am,Am,el]) λy hy=>by
   rcases List.mem_cons.mp hy with rfl|hy
   ·exact hx
   ·exact hp y hy
def aL7(C:TVc)(b:TVS):TVS:=λE ρ=>∃I:Nat->EV->Prop,(∃m,I m ρ)/\∀m ρ,I m ρ->C ρ λc=>(c=true->b {E with nx:=λρ'=>∃m',m'<m/\I m' ρ',ct:=λρ'=>∃m',m'<m/\I m' ρ',bk:=E.nx} ρ)/\(c=false->E.nx ρ)
def aOs{c:Expr}{C:TVc}{b:TVS}(hp:PassesOwn (model X.prog X.w) X.A X.env X.xe)(hc:VC X c C)(hb:VSs X body b):VS X (.While c body [] pos) (aL7 C b):=
 let⟨_,p,f⟩:=hc;let⟨_,p',f'⟩:=hb;⟨_,aN5 hp p p',λ{W B H0 A ρ σ H E D} o h j=>by
  obtain⟨I,⟨m0,i0⟩,turn⟩:=h;refine⟨λm σ H=>∃A ρ,EO W B H0 A ρ σ H/\I m ρ,⟨m0,A,ρ,o,i0⟩,?_⟩;rintro m σ H ⟨A,ρ,o,hi⟩;refine f o.ee (turn m ρ hi) λc H1 h1 w=>?_;cases c with
  |true=>exact aFv ⟨λσ H=>∃m',m'<m/\∃A ρ,EO W B H0 A ρ σ H/\I m' ρ,λσ' H' z=>z,f' (o.to w) (h1.1 rfl) ⟨λo2 ⟨m',l,i⟩=>⟨m',l,_,_,o2,i⟩,λo2 h2=>j.nx o2 h2,λo2 ⟨m',l,i⟩=>⟨m',l,_,_,o2,i⟩,j.rt,j.mr⟩⟩
  |false=>exact wZ (j.nx (o.to w) (h1.2 rfl))⟩
section
variable {W B:Addr->Prop}{H H':Hp}{ρ ρ':EV}{σ:St}
end
def bN(P:Program)(w:World)(a:Addr)(xs:#v[13])(h:Heap):Prop:=(a==sysModules)=false/\∃o es ep,h.get? a=some o/\o.ExactDict/\o.data=.dict es ep/\es.toList=xs.map (entryOfKey (bM (intKind P w)))/\(xs.map (·.1)).Nodup
def bN.stay{a:Addr}{xs:#v[13]}(h1 h2:Heap)(p:bN P w a xs h1)(k:∀o,h1.get? a=some o->h2.get? a=some o):bN P w a xs h2:=let⟨y,o,es,ep,e,c⟩:=p;⟨y,o,es,ep,k _ e,c⟩
inductive PdR(W B:Addr->Prop)(H:Hp):List (Tke×U)->#v[13]->Prop
 |nil:PdR W B H [] []
 |cons {k:Tke} {u:U} {l:List (Tke×U)} {r:#v[13]} {c:Addr} {x:Value} {v:V}:DU W B H (tkU k) (.ref c)->RelV v x->DU W B H u v->PdR W B H l r->PdR W B H ((k,u)::l) ((k,c,x)::r)
def fD:List (Tke×U)->Tke->Option U
 | [],_=>none
 |p::l,k=>if p.1=k then some p.2 else fD l k
def pN(l:List (Tke×U))(k:Tke)(u:U):List (Tke×U):=if(fD l k).isSome then l.map (λp=>if p.1=k then(p.1,u)else p)else l++[(k,u)]
section
variable {l:List (Tke×U)}{b:Addr}
variable {W W' B B':Addr->Prop}{H H':Hp}
def PdR.mono{xs:#v[13]}(k:∀b o,¬B b->H b=some o->¬B' b/\H' b=some o)(h:PdR W B H l xs):PdR W B' H' l xs:=by
 induction h with
 |nil=>exact .nil
 |cons d rv dv t ih=>exact .cons (DU.mono k _ d) rv (DU.mono k _ dv) ih
def PdR.wm{xs:#v[13]}(k:∀p,W p->W' p)(h:PdR W B H l xs):PdR W' B H l xs:=by
 induction h with
 |nil=>exact .nil
 |cons d rv dv t ih=>exact .cons (DU.wm k _ d) rv (DU.wm k _ dv) ih
def PdR.keys{xs:#v[13]}(h:PdR W B H l xs):xs.map (·.1)=l.map (·.1)/\∀x∈xs,DU W B H (tkU x.1) (.ref x.2.1):=by
 induction h with
 |nil=>exact⟨rfl,nofun⟩
 |cons d rv dv t ih=>exact⟨congrArg (_::·) ih.1,λx hx=>(List.mem_cons.mp hx).elim (λz=>z▸d) (ih.2 x)⟩
def PdR.len{xs:#v[13]}(h:PdR W B H l xs):xs.length=l.length:=by
 have:=congrArg Bz h.keys.1;simpa using this
def PdR.val(k:Tke){xs:#v[13]}(h:PdR W B H l xs):(fD l k=none/\atKey xs k=none)∨∃u a r v,fD l k=some u/\atKey xs k=some (a,r)/\RelV v r/\DU W B H u v:=by
 induction h with
 |nil=>exact .inl ⟨rfl,rfl⟩
 |@cons k' u l r c x v d rv dv t ih=>
  by_cases z:k'=k
  ·exact .inr ⟨u,c,x,v,if_pos z,by simp[atKey,Fh,z],rv,dv⟩
  ·rw[show fD ((k',u)::l) k=fD l k from if_neg z,show atKey ((k',c,x)::r) k=atKey r k by simp[atKey,Fh,z]];exact ih
def PdR.snoc{k:Tke}{u:U}{x:Value}{xs:#v[13]}(d:DU W B H (tkU k) (.ref b))(rv:RelV v x)(dv:DU W B H u v)(h:PdR W B H l xs):PdR W B H (l++[(k,u)]) (xs++[(k,b,x)]):=by
 induction h with
 |nil=>exact .cons d rv dv .nil
 |cons d1 r1 d2 t ih=>exact .cons d1 r1 d2 ih
def PdR.repl{k:Tke}{u:U}{x:Value}{xs:#v[13]}(rv:RelV v x)(dv:DU W B H u v)(h:PdR W B H l xs):PdR W B H (l.map λp=>if p.1=k then(p.1,u)else p) (xs.map (putAt k x)):=by
 induction h with
 |nil=>exact .nil
 |@cons k' u' l r c y v' d r1 d2 t ih=>
  rw[Bo,Bo];unfold putAt;by_cases z:k'=k
  ·rw[if_pos z,if_pos z];exact .cons d rv dv ih
  ·rw[if_neg z,if_neg z];exact .cons d r1 d2 ih
def PdR.put{k:Tke}{u:U}{x:Value}{xs:#v[13]}(h:PdR W B H l xs)(d:DU W B H (tkU k) (.ref b))(rv:RelV v x)(dv:DU W B H u v):PdR W B H (pN l k u) (storedH xs k b x):=by
 unfold pN storedH;rcases h.val k with ⟨e1,e2⟩|⟨_,_,_,_,e1,e2,_⟩
 ·rw[e1,e2];exact PdR.snoc d rv dv h
 ·rw[e1,e2];exact PdR.repl rv dv h
def tK{k:Tke}(d:DU W B H (tkU k) y):∃b,y=.ref b/\PKy H (k,b):=by
 obtain⟨a,ys,rfl,nb,ha,y1,_,rfl,f1,y2,r2,rfl,⟨q,zs,rfl,nq,hq,dz⟩,e3⟩:=d;obtain rfl:r2=[]:=e3;rw[f1.1]at ha;exact⟨a,rfl,q,ha,by rw[dz.ints]at hq;exact hq⟩
def uQ{k:Tke}(d:DU W B H (tkU k) (.ref b)):PKy H (k,b):=by
 obtain⟨_,e,h⟩:=tK d;cases e;exact h
end
def pdO(P:Program)(w:World)(kvs:List (Tke×U)):Own:=⟨λW B S H p=>(∀b,S b↔b=p)/\∃xs,H p=some (.ext (bN P w p xs))/\PdR W B H kvs xs,λk e ⟨s,xs,h,r⟩=>⟨s,xs,(e _ ((s _).mpr rfl)).trans h,r.mono k⟩,λk ⟨s,xs,h,r⟩=>⟨s,xs,h,r.wm k⟩,λ⟨s,_,h,_⟩ b hb=>by rw[(s b).mp hb];exact⟨_,h,trivial⟩⟩
def aG5(P:Program)(w:World)(s:Sl)(kvs:List (Tke×U)):Prop:=s=.bo (pdO P w kvs)∨s=.oo (pdO P w kvs)∨s=.sh (.op (pdO P w kvs).fz)
def RO.pd{W B:Addr->Prop}{H H':Hp}{s:Sl}{kvs:List (Tke×U)}(h:aG5 P w s kvs)(r:RO W B H H' s v):∃p xs,v=.ref p/\H' p=some (.ext (bN P w p xs))/\PdR W B H' kvs xs:=by
 rcases h with rfl|rfl|rfl
 ·obtain⟨p,S,e,_,_,xs,h⟩:=r;exact⟨p,xs,e,h⟩
 ·obtain⟨p,S,e,_,h⟩:=r;obtain⟨_,xs,h⟩:=Own.less _ h;exact⟨p,xs,e,h⟩
 ·obtain⟨p,S,e,_,_,xs,h⟩:=r;exact⟨p,xs,e,h⟩
def pM{H:Hp}{h:Heap}{a:Addr}{xs:#v[13]}(ok:HOk P w H h)(e:H a=some (.ext (bN P w a xs)))(k:∀x∈xs,PKy H (x.1,x.2.1)):(a==sysModules)=false/\h.DictOfH (bM (intKind P w)) a xs:=by
 obtain⟨⟨y,o,es,ep,h1,h2,h3,h4,h5⟩,_,_⟩:=(show bR P w H h a (.ext (bN P w a xs))from ok a _ e);exact⟨y,o,es,ep,h1,h2,h3,h4,λx hx=>gK (x:=(x.1,x.2.1)) ok (k x hx),h5⟩
def tPg(P:Program)(w:World)(td ty:TE):TE:=λσ H Q=>td σ H λx H1=>ty σ H1 λy H2=>∃a b xs k r c v,x=.ref a/\y=.ref b/\H2 a=some (.ext (bN P w a xs))/\(∀x∈xs,PKy H2 (x.1,x.2.1))/\PKy H2 (k,b)/\atKey xs k=some (c,r)/\RelV v r/\Q v H2
def sPp(P:Program)(w:World)(td ty tv:TE):TS:=λD σ H=>tv σ H λv H1=>td σ H1 λx H2=>ty σ H2 λy H3=>∃a b xs k,x=.ref a/\y=.ref b/\H3 a=some (.ext (bN P w a xs))/\(∀x∈xs,PKy H3 (x.1,x.2.1))/\PKy H3 (k,b)/\xs.length<sizeLine/\∀r,RelV v r->D.nx σ (upd H3 a (.ext (bN P w a (storedH xs k b r))))
def aB4(P:Program)(w:World)(C:List Tke->Prop):Prop:=∀{A:Around}{E:#v[7]}{s:Shared}{a:Addr}{n:Nat}{ps:List (Tke×Addr)}{D:Fin->Shared->Prop},A.units+20<cLine->s.heap.get? a=some (seqObj "list" (ps.map λx=>Aj x.2).toArray n)->uM (bM (intKind P w)) (λ_=>True) s.heap ps->(ps.map (·.1)).Nodup->C (ps.map (·.1))->
 (∀ys:List (Tke×Addr),ys.Perm ps->ys.Pairwise (λx y=>gU x.1 y.1=true)->D (.done (.ret .none)) {s with heap:=sortedHeap s.heap a (ps.map λx=>Aj x.2) (ys.map λx=>Aj x.2).toArray})->wpAny (model P w) A (Builtin.«list.sort» ⟨[.ref a],[]⟩) D E s
def aSc:yI (bM (intKind P w)) (λ_=>True) gU:=aIq λk v hv=>by obtain⟨t,rfl⟩:=Eb hv;exact⟨_,_,rfl⟩
def aOq{P:Program}{w:World}:aB4 P w (λks=>ks.length<64):=λhu ho T nd hC h=>tG aSc hu ho T nd (by have z:(_:List Tke).length<64:=hC;rwa [Ab]at z) h
inductive aIc(P:Program)(w:World)(C:List Tke->Prop)(ys:List V)(H:Hp)(Q:VK):Prop
 |mk (p:Addr) (xs:#v[13]) (q0_:ys=[.ref p]) (q1_:H p=some (.ext (bN P w p xs))) (q2_:(∀x∈xs,PKy H (x.1,x.2.1))) (q3_:xs.length<=10000) (q4_:C (xs.map (·.1))) (q5_:∀(l:Addr)(zs:List (Tke×Addr)),H l=none->zs.Perm (xs.map λx=>(x.1,x.2.1))->zs.Pairwise (λx y=>gU x.1 y.1=true)->Q (.ref l) (upd H l (.lst (zs.map λx=>V.ref x.2)))):aIc P w C ys H Q
def aWg(P:Program)(w:World)(C:List Tke->Prop):List V->Hp->VK->Prop:=λys H Q=>aIc P w C ys H Q
variable {o i value:Expr}{pos pos':Pos}{td ty tv:TE}
def aQy{pins:#v[9]}{σ:St}{H:Hp}{s:Shared}{a:Addr}{xs:#v[13]}(I:#v[5])(e:H a=some (.ext (bN X.prog X.w a xs))):s.TypeIs (.ref a) "dict":=by
 obtain⟨⟨y,o,es,ep,h1,h2,_⟩,_,_⟩:=(show bR X.prog X.w H s.heap a (.ext (bN X.prog X.w a xs))from I.hok a _ e);exact⟨o,h1,h2.1⟩
def aWk(hu:X.A.units+2<cLine)(ho:PE X o td)(hi:PE X i ty)(hs:aUw i):PE X (.Subscript o i pos) (tPg X.prog X.w td ty):=by
 intro pins s σ H Q I h;refine aQg PySem.F.slot_dict_getitem.lookup hs (thn (ho pins s σ H _ I h) λu s1 ⟨x,H1,I1,rx,q1⟩=>thn (hi pins s1 σ H1 _ I1 q1) λiv s2 ⟨y,H2,I2,ry,a,b,xs,k,r,c,v,ex,ey,e,ks,eb,l,rv,q2⟩=>?_);subst ex ey;obtain rfl:u=Aj a:=rx;obtain rfl:iv=Aj b:=ry;refine⟨aQy I2 e,wpAny_getItem_heap (show X.A.in1.units+1<cLine from hu) (gK (x:=(k,b)) I2.hok eb) (pM I2.hok e ks).2 l ?_⟩;exact⟨v,H2,I2.tok _,rv,q2⟩
def aYf(hu:X.A.units+2<cLine)(ho:PE X o td)(hi:PE X i ty)(hv:PE X value tv)(hs:swapsWith value (some (.Subscript o i pos')) pos.line X.env=pure false):PS X (.Assign [.Subscript o i pos'] value pos) (sPp X.prog X.w td ty tv):=by
 intro pins s σ H D I h;refine Rj (thn (hv pins s σ H _ I h) λr s1 ⟨v,H1,I1,rv,q1⟩=>thn (ho pins s1 σ H1 _ I1 q1) λu s2 ⟨x,H2,I2,rx,q2⟩=>thn (hi pins s2 σ H2 _ I2 q2) λiv s3 ⟨y,H3,I3,ry,a,b,xs,k,ex,ey,e,ks,eb,hl,q3⟩=>?_) hs;subst ex ey;obtain rfl:u=Aj a:=rx;obtain rfl:iv=Aj b:=ry;obtain⟨lo,dd⟩:=pM I3.hok e ks;refine Tx (hsz:=Ez hl) (show X.A.in1.units+1<cLine from hu) (gK (x:=(k,b)) I3.hok eb) dd λh' dd' hs=>?_;obtain⟨q,es,ep,hq,h2,h3,h4,_,h5⟩:=dd';have ok:bR X.prog X.w (upd H3 a (.ext (bN X.prog X.w a (storedH xs k b r)))) h' a (.ext (bN X.prog X.w a (storedH xs k b r))):=⟨⟨lo,q,es,ep,hq,h2,h3,h4,h5⟩,⟨q,hq⟩,λh1 h2 p k=>bN.stay h1 h2 p k⟩;exact⟨σ,_,zH I3 (by rw[e];exact Fe) hs ⟨q,hq⟩ ok,q3 r rv⟩
def wM{C:List Tke->Prop}(L:aB4 X.prog X.w C)(hu:X.A.units+40<cLine){pins:#v[9]}{s:Shared}{σ:St}{H:Hp}{ps:List (Tke×Addr)}(I:#v[5])(hk:∀x∈ps,PKy H x)(nd:(ps.map (·.1)).Nodup)(pl:ps.length<=10000)(hC:C (ps.map (·.1)))
  (col:∀(R:List Value->Shared->Prop)(E:#v[7]),(∀(g:Heap)(tk:Nat),(∀b o,s.heap.get? b=some o->g.get? b=some o)->#v[0]<g.objs.size->R (ps.map λx=>Aj x.2) {s with heap:=g,toks:=tk})->wpAny (model X.prog X.w) X.A.in1 (collect (.ref p)) R E s)
  (q:∀(l:Addr)(zs:List (Tke×Addr)),H l=none->zs.Perm ps->zs.Pairwise (λx y=>gU x.1 y.1=true)->Q (.ref l) (upd H l (.lst (zs.map λx=>V.ref x.2)))):#v[6] (call (.builtin "sorted") [.ref p]) (EP X pins σ Q) X.xe s:=by
 refine Jh Tf Ru Rv (Rx _) ?_;unfold Builtin.«sorted»;refine Aa (m:=checkCount "sorted" 1 1 _) (Ac ?_);refine Aa (col _ _ λh' tk hkp hgt=>?_);refine Aa (Mq ?_ (by rw[Ab,Co];lia));have hoL:(h'.push (seqObj "list" (ps.map λx=>Aj x.2).toArray 0)).get? h'.objs.size=some (seqObj "list" (ps.map λx=>Aj x.2).toArray 0):=Al _ rfl;have T1:uM (bM (intKind X.prog X.w)) (λ_=>True) (h'.push (seqObj "list" (ps.map λx=>Aj x.2).toArray 0)) ps:=λx hx=>by
  exact⟨trivial,aSc.set.mono (gK I.hok (hk x hx)) λb o _ e=>Ad _ (hkp b o e)⟩
 refine Aa (Bs (Bm slot_list_sort ⟨_,hoL,rfl⟩ entry_list_sort (L (show X.A.units+2+20<cLine by lia) hoL T1 nd hC λzs py hy=>⟨_,rfl,?_⟩) (Pw _)));refine Ac ⟨_,rfl,?_⟩;obtain⟨e,he⟩:=Qs (out:=(zs.map λx=>Aj x.2).toArray) hoL;have keep:∀b o,s.heap.get? b=some o->(sortedHeap (h'.push (seqObj "list" (ps.map λx=>Aj x.2).toArray 0)) h'.objs.size (ps.map λx=>Aj x.2) (zs.map λx=>Aj x.2).toArray).get? b=some o:=λb o q=>by
  have hb:b<h'.objs.size:=Ap (hkp b o q);rw[Pu (Ar hb) (by rw[Cc];exact Fl hb)];exact Ad _ (hkp b o q)
 have hge:#v[0]<=h'.objs.size:=Ez hgt;refine⟨.ref h'.objs.size,_,I.laid (t':=tk) (o:=.lst (zs.map λx=>V.ref x.2)) keep hge ⟨?_,_,e,qD,he⟩,rfl,q _ zs (I.hok.fresh hge) py hy⟩;rw[Ab,py.length_eq,Co]
 lia
def aH6{C:List Tke->Prop}(L:aB4 X.prog X.w C)(hu:X.A.units+40<cLine)(hc:X.calm=true):dY X (.builtin "sorted") (aWg X.prog X.w C):=by
 intro pins s σ H ys us Q I r h;obtain⟨p,xs,rfl,hp,hk,hz,hC,q⟩:=h;obtain⟨u,rfl,ru⟩:=vals1 r;cases ru;obtain⟨lo,o,es,ep,h1,h2,h3,h4,h5,h6⟩:=pM I.hok hp hk;have el:es.size=xs.length:=by rw[<-Aq,h4,Ab]
 refine wM L hu I (ps:=xs.map λx=>(x.1,x.2.1)) (λx hx=>by obtain⟨y,hy,rfl⟩:=List.mem_map.mp hx;exact hk y hy) (by rw[Az];exact h6) (by rw[Ab];exact hz) (by rw[Az];exact hC) (λR E k=>gather (A:=X.A.in1) (aQs (es:=es) (ep:=ep) lo) (I.ok.hd hc) ⟨o,h1,h2,h3⟩ (by rw[el,Co];lia) λh' tk acc hkp hgt hacc=>?_) q;have ea:acc.toList=(xs.map λx=>(x.1,x.2.1)).map λx=>Aj x.2:=by
  refine Gi λj=>?_;rw[Az,As];cases hj:xs[j]? with
  |none=>
   have:xs.length<=j:=List.getElem?_eq_none_iff.mp hj;exact De (by rw[Aq,hacc.1,el];exact this)
  |some x=>
   have hlt:j<acc.size:=by rw[hacc.1,el];exact(List.getElem?_eq_some_iff.mp hj).1
   obtain⟨e,e1,e2⟩:=hacc.2 j _ (Aw hlt);have e3:es.toList[j]? =some e:=by rw[Bn];exact e1
   rw[h4,As,hj]at e3;cases e3;rw[Bn,Aw hlt,e2];rfl
 rw[ea];exact k h' tk hkp hgt
def vPg(P:Program)(w:World)(a b:TV):TV:=λρ R=>a ρ λs=>b ρ λs'=>∃kvs k u,aG5 P w s kvs/\s'.rd=tkU k/\fD kvs k=some u/\R (.sh u)
def aXj(P:Program)(w:World):TV:=λ_ R=>R (.oo (pdO P w []))
def aUs(P:Program)(w:World)(C:List Tke->Prop)(a:TV):TV:=λρ R=>a ρ λs=>∃kvs,aG5 P w s kvs/\kvs.length<=10000/\C (kvs.map (·.1))/\∀ys:List Tke,ys.Perm (kvs.map (·.1))->ys.Pairwise (λx y=>gU x y=true)->R (.ow (ys.map tkU))
def aXl(P:Program)(w:World)(j:Nat)(Fk Fv:TV):TVS:=λE ρ=>Fv ρ λsv=>sv.es λu=>∃kvs,ρ[j]? =some (.oo (pdO P w kvs))/\kvs.length<10000/\Fk ρ λsk=>sk.es λku=>∃k,ku=tkU k/\E.nx (ρ.set j (.oo (pdO P w (pN kvs k u))))
variable {P:Program}{w:World}
def tU(hP:X.prog=P)(hw:X.w=w){pos:Pos}:VE X (.Dict [] [] pos) (aXj P w):=by
 subst hP hw;refine⟨λσ H Q=>∀p,H p=none->Q (.ref p) (upd H p (.ext (bN X.prog X.w p []))),λpins s σ H Q I h=>?_,λe h q p n=>q _ _ _ h (e.eb.new n) ⟨p,(·=p),rfl,λb hb=>by rw[hb];exact n,λ_=>Mm,[],aM,.nil⟩⟩;have hp:bN X.prog X.w #v[0] [] (s.heap.push #v[8]):=⟨beq_eq_false_iff_ne.mpr (Cg (Ar I.big)),_, #[],0,Al _ rfl,⟨rfl,rfl,rfl⟩,rfl,rfl,Ib⟩;have ok:bR X.prog X.w (upd H #v[0] (.ext (bN X.prog X.w #v[0] []))) (s.heap.push #v[8]) #v[0] (.ext (bN X.prog X.w #v[0] [])):=⟨hp,⟨_,Al _ rfl⟩,λh1 h2 p k=>bN.stay h1 h2 p k⟩;exact Vp ⟨.ref #v[0],_,I.laid (a:=#v[0]) (o:=.ext (bN X.prog X.w #v[0] [])) (t':=s.toks) (λ_ _ q=>Ad _ q) (Ak _) ok,rfl,h _ (I.hok.fresh (Ak _))⟩
def yK{o i:Expr}{pos:Pos}{F G:TV}(hP:X.prog=P)(hw:X.w=w)(hr:cW k X.A)(ha:VE X o F)(hb:VE X i G)(hs:aUw i:=by exactλ_ _=>rfl):VE X (.Subscript o i pos) (vPg P w F G):=by
 subst hP hw;obtain⟨_,p,f⟩:=ha;obtain⟨_,p',f'⟩:=hb;refine⟨_,aWk (by have:=hr.un;lia) p p' hs,λ{W B ρ σ H R Q} e h q=>f e h λs v H1 h1 w1 r1=>f' (e.to w1) h1 λs' v' H2 h2 w2 r2=>?_⟩;obtain⟨kvs,k,u,hs,ek,ev,h3⟩:=h2;have e1:=e.to w1;obtain⟨a,xs,rfl,g1,g2⟩:=r1.pd hs;have g1:=w2.fr a _ (λz=>by
  obtain⟨_,_,_,y⟩:=e1.eb.wo a z;rw[g1]at y;cases y) g1
 have g2:=g2.mono (e1.eb.keep w2);have d:=r2.db e1.eb;rw[ek]at d;have dk:DU W B H2 (tkU k) v':=d.tp;obtain⟨b,rfl,kb⟩:=tK dk;rcases g2.val k with ⟨z,_⟩|⟨u',c,r,v,z1,z2,rv,dv⟩
 ·rw[ev]at z;cases z
 ·rw[ev]at z1;cases z1;exact⟨a,b,xs,k,r,c,v,rfl,rfl,g1,λx hx=>uQ (g2.keys.2 x hx),kb,z2,rv,q _ _ _ h3 (w1.trans w2) dv⟩
def aOo{C:List Tke->Prop}{p pos:Pos}{F:TV}(L:aB4 P w C)(hP:X.prog=P)(hw:X.w=w)(hr:cW k X.A)(hc:X.calm=true)(hm:X.mg "sorted"=none)(ha:VE X a F)(hg:Gl X "sorted":=by rfl)(hs:SE X a []:=by rfl)(hpl:BT X pos []:=by rfl):VE X (.Call (.Name "sorted" p) [a] [] pos) (aUs P w C F):=by
 subst hP hw;obtain⟨_,p,f⟩:=ha;refine⟨_,iW (aH6 L (by have:=hr.un;lia) hc) hg hm Pd (cF p eO hs) ⋯ ⋯ hs hpl,λ{W B ρ σ H R Q} e h q=>f e h λs v H1 h1 w1 r1=>?_⟩;obtain⟨kvs,hs,hl,hC,h2⟩:=h1;obtain⟨a,xs,rfl,g1,g2⟩:=r1.pd hs;have e1:=e.to w1;refine⟨a,xs,rfl,g1,λx hx=>uQ (g2.keys.2 x hx),by rw[g2.len];exact hl,by rw[g2.keys.1];exact hC,λl zs nl pm pw=>?_⟩;have w3:=e1.eb.new (o:=.lst (zs.map λx=>V.ref x.2)) nl;refine q (.ow ((zs.map (·.1)).map tkU)) _ _ (h2 _ ?_ ?_) (w1.trans w3) (RO.back (s:=.ow _) w1 ⟨l,_,rfl,nl,aM,aAo λx hx=>?_⟩)
 ·have:=pm.map (·.1);rw[Az]at this;rw[<-g2.keys.1];exact this
 ·rw[Dg];exact pw
 ·obtain⟨y,hy,rfl⟩:=List.mem_map.mp (pm.mem_iff.mp hx);exact DU.mono (λb o nb h=>⟨λz=>z.elim nb (aN h nl),(e1.eb.keep w3 b o nb h).2⟩) _ (g2.keys.2 y hy)
def pW{x:Str}{i value:Expr}{pos pos' p':Pos}{Fk Fv:TV}(j:Nat)(hP:X.prog=P)(hw:X.w=w)(hr:cW k X.A)(hk:VE X i Fk)(hv:VE X value Fv)(hN:X.N[j]? =some x:=by rfl)(hvs:Vis X.env.scope x:=by trivial)(hd:ND x:=by decide)
  (hcd:NC x:=by decide) (hs:swapsWith value (some (.Subscript (.Name x p') i pos')) pos.line X.env=pure false:=by rfl):VS X (.Assign [.Subscript (.Name x p') i pos'] value pos) (aXl P w j Fk Fv):=by
 subst hP hw;obtain⟨_,p1,f1⟩:=hk;obtain⟨_,p2,f2⟩:=hv;refine⟨_,aYf (by have:=hr.un;lia) (pR hN hvs hd hcd) p1 p2 hs,λ{W B H0 A ρ σ H E D} o h jj=>f2 o.ee h λsv v H1 h1 w1 r1=>?_⟩;obtain⟨u,⟨kvs,hj,hl,h2⟩,dv⟩:=r1.du o.ee.eb h1;have o1:=o.to w1;obtain⟨q,g1,g2,_⟩:=o1.hd j _ _ hj rfl;refine⟨_,g1,f1 o1.ee h2 λsk y H3 h3 w3 r3=>?_⟩;obtain⟨ku,⟨k,rfl,h4⟩,dk⟩:=r3.du o1.ee.eb h3;have o3:=o1.to w3;obtain⟨q',g4,_,xs,g5,g6⟩:=o3.hd j _ _ hj rfl;rw[g1]at g4;cases g4;obtain⟨b,rfl,kb⟩:=tK dk;refine⟨q,b,xs,k,rfl,rfl,g5,λx hx=>uQ (g6.keys.2 x hx),kb,by rw[g6.len];exact Jj hl ⋯,λr rv=>jj.nx (o3.chg g1 ((g2 q).mpr rfl) (s':=.oo (pdO X.prog X.w (pN kvs k u))) rfl rfl ⟨g2,_,aM,?_⟩) h4⟩;exact PdR.mono (λb y n h=>⟨n,(aO (λz:b=q=>n (by rw[z];exact .inr ⟨j,(g2 q).mpr rfl⟩))).trans h⟩) (g6.put dk rv (DU.mono (o1.ee.eb.keep w3) u dv))
def aB8{l:List (Tke×U)}{k:Tke}{u:U}:(pN l k u).map (·.1)=if(fD l k).isSome then l.map (·.1)else l.map (·.1)++[k]:=by
 unfold pN;split
 ·rw[Az];refine Do λp _=>?_;show(if p.1=k then(p.1,u)else p).1=p.1;split<;>rfl
 ·rw[Ce];rfl
theorem pF{k:Tke}:∀{l:List (Tke×U)},(fD l k).isSome=true->k∈l.map (·.1)
 | [],h=>by cases h
 |p::l,h=>by
  by_cases e:p.1=k
  ·rw[<-e];exact Ah
  ·rw[show fD (p::l) k=fD l k from if_neg e]at h;exact Af _ (pF h)
def aNb{l:List (Tke×U)}{k z:Tke}{u:U}:z∈(pN l k u).map (·.1)↔z∈l.map (·.1)∨z=k:=by
 rw[aB8];split
 ·rename_i h;exact⟨.inl,λy=>y.elim id λy=>y▸pF h⟩
 ·rw[Iw,Fy]
theorem aCg{k:Tke}:∀{l:List (Tke×U)},(fD l k).isSome=false->k∉l.map (·.1)
 | [],_,h=>nomatch h
 |p::l,h,z=>by
  by_cases e:p.1=k
  ·rw[show fD (p::l) k=some p.2 from if_pos e]at h;cases h
  ·rw[show fD (p::l) k=fD l k from if_neg e]at h;exact(List.mem_cons.mp z).elim (λy=>e y.symm) (aCg h)
def aRa{l:List (Tke×U)}{k:Tke}{u:U}(h:(l.map (·.1)).Nodup):((pN l k u).map (·.1)).Nodup:=by
 rw[aB8];split
 ·exact h
 ·rename_i n;rw[Hs];exact⟨h,by simp,λa ha b hb e=>aCg (Bool.eq_false_iff.mpr n) (by rw[<-List.mem_singleton.mp hb, <-e];exact ha)⟩
section
variable {W B:Addr->Prop}{H0 H H1:Hp}{A:Nat->Addr->Prop}{ρ:EV}{σ:St}
end
def qG(l:List U)(lo hi:Option Int):List U:=(l.drop (HT.sIx l.length 0 lo)).take (HT.sIx l.length l.length hi-HT.sIx l.length 0 lo)
def DUs.cut{W B:Addr->Prop}{H:Hp}{l:List U}{lo hi:Option Int}(d:DUs W B H l xs):DUs W B H (qG l lo hi) (aAs xs lo hi):=by
 unfold qG aAs;rw[d.length];exact(d.drop _).take _
abbrev TVo:=EV->(Option Int->Prop)->Prop
def VTo(t:TO)(F:TVo):Prop:=∀{W B:Addr->Prop}{ρ:EV}{σ:St}{H:Hp}{R:Option Int->Prop}{Q:Option Int->Hp->Prop},EE W B H ρ σ->F ρ R->(∀o H',R o->Fw W H H'->Q o H')->t σ H Q
def VO(X:Cx)(e:Option Expr)(F:TVo):Prop:=∃t,PO X e t/\VTo t F
def aZ2:TVo:=λ_ R=>R none
def aZx(F:TV):TVo:=λρ R=>F ρ λs=>match s.rd with
 |.v (.int i)=>R (some i)
 |_=>False
def vSl(F:TV)(L M:TVo):TV:=λρ R=>F ρ λs=>L ρ λlo=>M ρ λhi=>match s.rd with
 |.ls l=>R (.ow (qG l lo hi))
 |.tp l=>¬(HT.sIx l.length 0 lo=0/\HT.sIx l.length l.length hi=l.length)/\R (.sh (.tp (qG l lo hi)))
 |_=>False
def zJ:VO X none aZ2:=⟨_,aQ1,λe h q=>q _ _ h e.eb.refl⟩
def uA{e:Expr}{F:TV}(h:VE X e F):VO X (some e) (aZx F):=by
 obtain⟨_,p,f⟩:=h;refine⟨_,aP8 p,λe h q=>f e h λs v H1 h1 w r=>?_⟩;have d:=r.db e.eb;revert h1 d;generalize s.rd=u;intro h1 d;split at h1
 ·exact⟨_,d.int,q _ _ h1 w⟩
 ·exact h1.elim
def aI1{lo hi:Option Expr}{p2 pos:Pos}{F:TV}{L M:TVo}(ha:VE X a F)(hl:VO X lo L)(hh:VO X hi M):VE X (.Subscript a (.Slice lo hi none p2) pos) (vSl F L M):=by
 obtain⟨_,p,f⟩:=ha;obtain⟨_,p1,f1⟩:=hl;obtain⟨_,p2,f2⟩:=hh;refine⟨_,aE0 (aIb.or aMf) p p1 p2,λ{W B ρ σ H R Q} e h q=>f e h λs v H1 h1 w1 r1=>f1 (e.to w1) h1 λlo H2 h2 w2=>f2 ((e.to w1).to w2) h2 λhi H3 h3 w3=>?_⟩;have e3:=((e.to w1).to w2).to w3;have ww:=(w1.trans w2).trans w3;have d:=((r1.db e.eb).to (e.to w1).eb w2).to ((e.to w1).to w2).eb w3;revert h3 d;generalize s.rd=u;intro h3 d;split at h3
 ·obtain⟨a,xs,rfl,_,ha,ds⟩:=d.ls e3.eb;refine .inl ⟨a,xs,rfl,SqL.of ha,λp n=>?_⟩;have f4:=e3.eb.new (o:=.lst (aAs xs lo hi)) n;exact q _ _ _ h3 (ww.trans f4) (RO.back (s:=.ow _) ww ⟨p,_,rfl,n,aM,DUs.mono (λb o nb h=>⟨λz=>z.elim nb (aN h n),(e3.eb.keep f4 b o nb h).2⟩) _ ds.cut⟩)
 ·obtain⟨a,xs,rfl,_,ha,ds⟩:=d.tp;refine .inr ⟨a,xs,rfl,SqT.of ha,by rw[<-ds.length];exact h3.1,λp n=>?_⟩;have f4:=e3.eb.new (o:=.tup (aAs xs lo hi)) n;exact q _ _ _ h3.2 (ww.trans f4) ⟨p,_,rfl,e3.eb.nw n,aM,DUs.mono (e3.eb.keep f4) _ ds.cut⟩
 ·exact h3.elim
theorem aF4:∀(n:Nat)(L:#v[13]),L.length=n->(L.map (·.1)).Nodup->pA L=L
 |0,L,h,_=>by rw[List.length_eq_zero_iff.mp h];rfl
 |n+1,L,h,nd=>by
  obtain⟨M,x,rfl⟩:∃M x,L=M++[x]:=⟨L.dropLast,L.getLast (by intro z;rw[z]at h;cases h),(Ip _).symm⟩;rw[An,Cq]at h;rw[Ce,Hs]at nd;rw[qO,aF4 n M ∅ nd.1];have e:atKey M x.1=none:=by
   unfold atKey;rw[List.find?_eq_none.mpr λy hy z=>nd.2.2 y.1 (List.mem_map.mpr ⟨y,hy,rfl⟩) x.1 (by simp) (of_decide_eq_true z)];rfl
  unfold storedH;rw[e];rfl
section
variable {W W' B B':Addr->Prop}{H H':Hp}{f:Tke->List U}
variable {l:List Tke}{xs:#v[13]}
end
def aPn{P:Program}{w:World}{h h':Heap}{x:Tke}{a:Addr}(e:(bM (intKind P w)).is h x a)(k:∀b o,h.get? b=some o->h'.get? b=some o):(bM (intKind P w)).is h' x a:=by
 obtain⟨o,v,b,n,h1,h2,h3,h4,o',its,m,g1,g⟩:=e;exact⟨o,v,b,n,k _ _ h1,h2,h3,h4,o',its,m,k _ _ g1,g⟩
def boot_dict:bootBuiltins "dict"=some (.type "dict"):=by decide+kernel
mutual
def U.tt:U->Prop
 |.v _=>True
 |.tp l=>U.tts l
 |_=>False
def U.tts:List U->Prop
 | []=>True
 |u::l=>U.tt u/\U.tts l
end
section
variable {W W' B B':Addr->Prop}{H:Hp}
mutual
theorem DU.tt(e:EB W' B' H):∀(u:U){v:V},u.tt->DU W B H u v->DU W' B' H u v
 |.v _,_,_,h=>h
 |.tp l,_,t,⟨p,xs,e1,_,hp,ds⟩=>⟨p,xs,e1,λz=>by
  obtain⟨o,h,m⟩:=e.bl p z;rw[hp]at h;cases h;exact m,hp,DUs.tt e l t ds⟩
theorem DUs.tt(e:EB W' B' H):∀(l:List U){xs:List V},U.tts l->DUs W B H l xs->DUs W' B' H l xs
 | [],_,_,h=>h
 |u::l,_,⟨t,t'⟩,⟨x,r,e1,h,h'⟩=>⟨x,r,e1,DU.tt e u t h,DUs.tt e l t' h'⟩
end
end
def Sl.tt:Sl->Prop
 |.sh u=>u.tt
 |.ow l=>U.tts l
 |_=>False
def RO.tt{W W' B B':Addr->Prop}{H H0 H':Hp}{s:Sl}(e:EB W' B' H')(n:∀p,H p=none->H0 p=none)(t:s.tt)(h:RO W B H H' s v):RO W' B' H0 H' s v:=by
 match s,t,h with
 |.sh u,t,h=>exact DU.tt e u t h
 |.ow l,t,⟨p,xs,e1,n1,h2,h3⟩=>
  refine⟨p,xs,e1,n p n1,h2,DUs.tt ⟨λq hq=>hq.elim (e.bl q) λz=>⟨.lst xs,by rw[z];exact h2,trivial⟩,λq hq=> .inl (e.wb q hq),e.wo⟩ l t h3⟩
def Sl.ln:Sl->(U->Prop)->Prop
 |.sh u,R=>R u
 |.ow l,R=>R (.ls l)
 |.oo o,R=>R (.op o.fz)
 |.br l,R=>R (.ls l)
 |.bo o,R=>R (.op o.fz)
 |.no,_=>False
structure LnB(W B W' B':Addr->Prop)(H H':Hp):Prop where
 fw:Fw W H H'
 eb:EB W' B' H'
 sub:∀b,B' b->B b∨W' b
 w1:∀b,W b->W' b
 w2:∀b,W' b->W b∨H b=none
def RO.ln{W B:Addr->Prop}{H H1:Hp}{s:Sl}{R:U->Prop}(e:EB W B H)(f:Fw W H H1)(h:RO W B H H1 s v)(r:s.ln R):
  ∃u,∃S:Addr->Prop,R u/\(∀b,S b->¬W b/\H1 b≠none)/\∀{W' B':Addr->Prop}{H2},(∀b,W b->W' b)->Fw W H1 H2->(∀b o,¬B b->H1 b=some o->¬B' b)->(∀b,S b->¬B' b)->DU W' B' H2 u v:=by
 have e1:=e.to f;have nn:∀{b:Addr}{o:HO},H1 b=some o->H1 b≠none:=λh z=>by rw[z]at h;cases h
 have k:∀{B':Addr->Prop}{H2:Hp},Fw W H1 H2->(∀b o,¬B b->H1 b=some o->¬B' b)->∀b o,¬B b->H1 b=some o->¬B' b/\H2 b=some o:=λf2 n b o nb h=>⟨n b o nb h,(e1.keep f2 b o nb h).2⟩;match s,h,r with
 |.sh u,h,r=>exact⟨u,λ_=>False,r,nofun,λw f2 n _=>DU.mono (k f2 n) u (DU.wm w u h)⟩
 |.ow l,⟨p,xs,e1,n1,h2,h3⟩,r=>exact⟨.ls l,λ_=>False,r,nofun,λw f2 n _=>DU.mono (k f2 n) (.ls l) (DU.wm w (.ls l) ⟨p,xs,e1,e.nw n1,h2,h3.less⟩)⟩
 |.oo o,⟨p,S,e1,n1,h2⟩,r=>exact⟨.op o.fz,λ_=>False,r,nofun,λw f2 n _=>DU.mono (k f2 n) (.op o.fz) (DU.wm w (.op o.fz) ⟨p,S,e1,λb hb=>e.nw (n1 b hb),o.less h2⟩)⟩
 |.br l,⟨p,xs,e1,nw,h2,h3⟩,r=>
  refine⟨.ls l,(·=p),r,λb z=>by rw[z];exact⟨nw,nn h2⟩,λ{W' B' H2} w f2 n s=>⟨p,xs,e1,s p rfl,f2.fr p _ nw h2,DUs.mono (k f2 n) l (DUs.wm w l h3)⟩⟩
 |.bo o,⟨p,S,e2,nw,h2⟩,r=>
  refine⟨.op o.fz,S,r,λb z=>⟨nw b z,let⟨_,y,_⟩:=o.th h2 b z;nn y⟩,λ{W' B' H2} w f2 n s=>⟨p,S,e2,s,o.mono (k f2 n) (λb hb=>let⟨x,q,_⟩:=o.th h2 b hb;(f2.fr b x (nw b hb) q).trans q.symm) (o.wm w h2)⟩⟩
def VTl(t:TA)(F:TVa):Prop:=∀{W B:Addr->Prop}{ρ:EV}{σ:St}{H:Hp}{R:List U->Prop}{Q:List V->Hp->Prop},EE W B H ρ σ->F ρ R->(∀us vs H' W' B',R us->LnB W B W' B' H H'->DUs W' B' H' us vs->Q vs H')->t σ H Q
def VLn(X:Cx)(es:List Expr)(F:TVa):Prop:=∃t,PA X es t/\VTl t F
def aY7(a:TV)(b:TVa):TVa:=λρ R=>a ρ λs=>s.ln λu=>b ρ λus=>R (u::us)
def aWd(F:List U->(Sl->Prop)->Prop)(a:TVa):TV:=λρ R=>a ρ λus=>F us λs=>s.tt/\R s
def EE.more{W B:Addr->Prop}{H H1:Hp}{ρ:EV}{σ:St}{x:HO}(e:EE W B H ρ σ)(f:Fw W H H1)(n:H p=none)(h1:H1 p=some x)(m:Mt x):EE W (λb=>B b∨b=p) H1 ρ σ:=by
 have k:∀b o,¬B b->H b=some o->¬(B b∨b=p)/\H1 b=some o:=λb o nb h=>⟨λz=>z.elim nb (aN h n),(e.eb.keep f b o nb h).2⟩;have e1:=(e.to f).eb;refine⟨⟨λq hq=>hq.elim (e1.bl q) λz=>⟨x,by rw[z];exact h1,m⟩,λq hq=> .inl (e1.wb q hq),e1.wo⟩,e.len,λi u h=>?_,λi s w h hs=>?_⟩
 ·obtain⟨v,h1,h2⟩:=e.sh i u h;exact⟨v,h1,DU.mono k u h2⟩
 ·obtain⟨p,S,h1,h2,h3⟩:=e.hd i s w h hs;exact⟨p,S,h1,h2,w.mono k (λb hb=>let⟨y,hx,_⟩:=w.th h3 b hb;(f.fr b y (h2 b hb) hx).trans hx.symm) h3⟩
def aGr:VLn X [] aJz:=⟨_,eO,λe h q=>q _ _ _ _ _ h ⟨e.eb.refl,e.eb,λ_=> .inl,λ_=>id,λ_=> .inl⟩ rfl⟩
def gO{es:List Expr}{F:TV}{G:TVa}(ha:VE X a F)(hb:VLn X es G)(hs:SE X a es:=by rfl):VLn X (a::es) (aY7 F G):=
 let⟨_,p,f⟩:=ha;let⟨_,p',f'⟩:=hb;⟨_,cF p p' hs,λe h q=>f e h λs v H1 h1 f1 r1=>by
  obtain⟨u,S,h1,hS,hd⟩:=r1.ln e.eb f1 h1;have e1:=(e.to f1).eb;refine f' (e.to f1) h1 λus vs H2 W' B' h2 L d=>q _ _ _ W' (λb=>B' b/\¬S b) h2 ⟨f1.trans L.fw,⟨λp hp=>L.eb.bl p hp.1,λp hp=>⟨L.eb.wb p hp,λz=>(L.w2 p hp).elim (hS p z).1 (hS p z).2⟩,L.eb.wo⟩,λb hb=>L.sub b hb.1,L.w1,λb hb=>(L.w2 b hb).imp id f1.none_⟩ ⟨v,vs,rfl,hd L.w1 L.fw (λb o nb hb z=>?_) λb hb z=>z.2 hb,DUs.mono (λb o nb h=>⟨λz=>nb z.1,h⟩) us d⟩;rcases L.sub b z.1 with y|y
  ·exact nb y
  ·rcases L.w2 b y with y|y
   ·exact nb (e1.wb b y)
   ·rw[y]at hb;cases hb⟩
def aAd{x:Str}{F:List U->(Sl->Prop)->Prop}{es:List Expr}{G:TVa}{p pos:Pos}(C:Cal X.prog X.w X.K X.mg X.base CX0 k x ps (spV F))(hr:cW k X.A)(hg:Gl X x)
  (ha:VLn X (a::es) G) (hdb:ND x:=by decide) (he:SE X a es:=by rfl) (hpl:BT X pos es:=by rfl):
  VE X (.Call (.Name x p) (a::es) [] pos) (aWd F G):=
 let⟨_,p,f⟩:=ha;⟨_,aV0 C hr hg aB2 p hdb he hpl,λ{W B ρ σ H R Q} e h q=>f e h λus vs H1 W' B' h1 L d=>by
  refine⟨_,_,us,_,L.eb,(by rw[Ax];exact d),h1,λs v H2 h2 f2 r2=>?_⟩;have f3:Fw W H H2:=⟨λb o w h=>f2.fr b o (λz=>(L.w2 b z).elim w λy=>by rw[y]at h;cases h) (L.fw.fr b o w h),λp hp=>f2.wo p (L.w1 p hp)⟩;exact q _ _ _ h2.2 f3 (r2.tt (e.to f3).eb (λp=>L.fw.none_) h2.1)⟩
def aW4(F:TVa):TV:=λρ R=>F ρ λus=>∃xs:List Tke,us=[.ls (xs.map tkU)]/\xs.length<300/\∀n:Nat,(xs.Nodup->n=xs.length)->R (.sh (.n n))
def aJa:dY X (.builtin "len") (λxs H Q=>∃p ps,xs=[V.ref p]/\H p=some (.ext (jF X.prog X.w p ps))/\ps.length<1000/\Q (.int ps.length) H):=by
 intro pins s σ H xs us Q I r h;obtain⟨p,ps,rfl,hp,hl,q⟩:=h;obtain⟨u,rfl,ru⟩:=vals1 r;cases ru;obtain⟨⟨o,es,ep,t,h1,h2,h3,h4,h5,h6,_⟩,_,_⟩:=(show bR X.prog X.w H s.heap p (.ext (jF X.prog X.w p ps))from I.hok p _ hp);have el:es.size=ps.length:=by rw[<-Aq,h4,Ab]
 have hf:t.fits es.size=true:=by
  unfold Mz Na;have h2:=h5.room;rw[h5.dum];simp[h6]
  lia
 exact call_len_set h1 h2 h3 hf ∅ ⟨.int es.size,H,I.tok _,⟨_,rfl⟩,by rw[el];exact q⟩
def aRj{F:TVa}{p p' pos pos':Pos}(hr:cW k X.A)(hc:X.calm=true)(h1:X.mg "len"=none)(h2:X.mg "set"=none)(ha:VB X [a] F)(g1:Gl X "len":=by rfl)(g2:Gl X "set":=by rfl)(hs:SE X a []:=by rfl)(hpl:BT X pos' []:=by rfl)
  (hs':starEach [.Call (.Name "set" p') [a] [] pos'] X.env=(false,eval (.Call (.Name "set" p') [a] [] pos') X.env)::starEach [] X.env:=by rfl) (hpl':BT X pos []:=by rfl):VE X (.Call (.Name "len" p) [.Call (.Name "set" p') [a] [] pos'] [] pos) (aW4 F):=
 let⟨_,q,f⟩:=ha;⟨_,iW aJa g1 h1 Dq (cF (iB (aC1 (by have:=hr.un;lia) hc) g2 h2 Ub q ⋯ ⋯ hs hpl) eO hs') ⋯ ⋯ hs' hpl',λ{W B ρ σ H R Q} e h q=>f e h λus vs H1 ⟨xs,eu,xl,h1⟩ w1 d=>by
  subst eu;have e1:=e.to w1;obtain⟨x,rfl,dd⟩:=DBs.one d;obtain⟨p,zs,rfl,_,hp,ds⟩:=dd.ls e1.eb;obtain⟨ps,rfl,rfl,hk⟩:=zU ds;rw[Ab]at xl;refine⟨p,ps,rfl,SqL.of hp,λx hx=>(hk x hx).1,∅,⟨ps.map (·.1),by rw[Ab];lia,λx hx=>List.mem_map.mpr ⟨x,hx,rfl⟩⟩,λl zs nl nd sub all zl=>?_⟩;refine⟨l,zs,rfl,aM,∅,q _ _ _ (h1 zs.length λnx=>?_) (w1.trans (e1.eb.new nl)) ⟨rfl,rfl⟩⟩;have pm:(zs.map (·.1)).Perm (ps.map (·.1)):=(Et nd nx).mpr λy=>⟨λhy=>by
   obtain⟨x,hx,rfl⟩:=List.mem_map.mp hy;exact List.mem_map.mpr ⟨x,sub x hx,rfl⟩,λhy=>by
   obtain⟨x,hx,rfl⟩:=List.mem_map.mp hy;obtain⟨z,hz,e⟩:=all x hx;exact List.mem_map.mpr ⟨z,hz,e⟩⟩
  have:=pm.length_eq;rw[Ab,Ab]at this;rw[this,Ab]⟩
section
open PySem.W
variable {prog:Program}{w:World}{A:Around}{E:#v[7]}{s:Shared}
end
section
open PySem.W
variable {prog:Program}{w:World}{A:Around}{E:#v[7]}{s:Shared}{α:Type} [DecidableEq α] [Inhabited α]{knd:HeapKind prog w α}{ok:α->Prop}{lt:α->α->Bool}
end
def aS1{o e:Expr}{es:List Expr}{to:TE}{t:TA}{name:Str}{apos cpos:Pos}{id:String}{r:V->List V->Hp->VK->Prop}(slot:Slot "dict" name id)(hty:typeOf (.builtin id)=pure (.type "method_descriptor"))(hm:MtR X id r)(ho:PE X o to)(ha:PA X (e::es) t)
  (hbase:attributeBase o name X.env (eval o X.env)=eval o X.env:=by rfl)
  (hfew:((backTo cpos (starEach (e::es) X.env)).all (λx=> !x.1) && (backToKw cpos (keywordEach [] X.env)).all (λx=>x.1.isSome)
   && decide ((e::es).length+([]:List Keyword).length+(if([]:List Keyword).isEmpty then 0 else 1)<30))=true:=by rfl)
  (hline:EL apos cpos:=by rfl) (hs:SE X e es:=by rfl) (hplain:BT X cpos es:=by rfl):
  PE X (.Call (.Attribute o name apos) (e::es) [] cpos) (λσ H Q=>to σ H λx H1=>(∃a xs,x=.ref a/\H1 a=some (.ext (bN X.prog X.w a xs)))/\t σ H1 λvs H2=>r x vs H2 Q):=by
 intro pins s σ H Q I h;refine Ri hbase hfew hline rfl (thn (ho pins s σ H _ I h) λv s1 ⟨x,H1,I1,r1,ty,q1⟩=>?_);obtain⟨a,xs,rfl,e⟩:=ty;obtain rfl:v=Aj a:=r1;obtain⟨⟨lo,o,es,ep,h1,h2,_⟩,_,_⟩:=(show bR X.prog X.w H1 s1.heap a (.ext (bN X.prog X.w a xs))from I1.hok a _ e);refine⟨"dict",id,Jq,slot,hty,⟨o,h1,h2.1⟩,λa e2=>by cases e2;exact⟨o,h1,h2.2.1⟩,?_⟩;have hA:=ha cpos pins s1 σ H1 _ I1 q1;rw[hs]at hA⊢;refine Hr (by show(false || (backTo cpos (starEach _ X.env)).any (·.1))=false;rw[hplain]<;>rfl) (Kz ?_);exact thn hA λus s2 ⟨vs,H2,I2,r2,q2⟩=>hm pins s2 σ H2 (.ref a) vs (.ref a) us Q I2 rfl r2 q2
def aQ5(hu:X.A.units+2<cLine):MtR X "dict.get" (λx vs H Q=>∃a xs b k d,x=.ref a/\vs=[.ref b,d]/\H a=some (.ext (bN X.prog X.w a xs))/\(∀x∈xs,PKy H (x.1,x.2.1))/\PKy H (k,b)/\((∃c r v,atKey xs k=some (c,r)/\RelV v r/\Q v H)∨(atKey xs k=none/\Q d H))):=by
 intro pins s σ H x vs v us Q I rx rv h;obtain⟨a,xs,b,k,d,rfl,rfl,e,ks,kb,h⟩:=h;obtain rfl:v=Aj a:=rx;obtain⟨u1,u2,rfl,r1,r2⟩:=vals2 rv;obtain rfl:u1=Aj b:=r1;obtain⟨lo,dd⟩:=pM I.hok e ks;refine Oa Fx dd.typeIs Jy (PySem.F.args_dict_get_3 _ _ _) (meetsH_dict_get_default (bM (intKind X.prog X.w)) a b lo u2) ⟨show X.A.in1.units+1<cLine from hu,k,xs,gK (x:=(k,b)) I.hok kb,dd,?_⟩;rcases h with ⟨c,r,v,z,rv',q⟩|⟨z,q⟩
 ·rw[z];exact⟨v,H,I.tok _,rv',q⟩
 ·rw[z];exact⟨d,H,I.tok _,r2,q⟩
def aYd(P:Program)(w:World)(a b c:TV):TV:=λρ R=>a ρ λs=>∃kvs,aG5 P w s kvs/\b ρ λs'=>s'.es λku=>c ρ λs''=>s''.es λu=>∃k,ku=tkU k/\R (.sh ((fD kvs k).getD u))
def aIr{o a b:Expr}{apos cpos:Pos}{F G K:TV}(hP:X.prog=P)(hw:X.w=w)(hr:cW k X.A)(ho:VE X o F)(ha:VE X a G)(hb:VE X b K)(hbase:attributeBase o "get" X.env (eval o X.env)=eval o X.env:=by rfl)
  (hfew:((backTo cpos (starEach [a,b] X.env)).all (λx=> !x.1) && (backToKw cpos (keywordEach [] X.env)).all (λx=>x.1.isSome)
   && decide ([a,b].length+([]:List Keyword).length+(if([]:List Keyword).isEmpty then 0 else 1)<30))=true:=by rfl)
  (hline:EL apos cpos:=by rfl) (hs:starEach [a,b] X.env=(false,eval a X.env)::starEach [b] X.env:=by rfl) (hs2:SE X b []:=by rfl) (hplain:BT X cpos [b]:=by rfl):
  VE X (.Call (.Attribute o "get" apos) [a,b] [] cpos) (aYd P w F G K):=by
 subst hP hw;obtain⟨_,p,f⟩:=ho;obtain⟨_,p1,f1⟩:=ha;obtain⟨_,p2,f2⟩:=hb;refine⟨_,aS1 Fx On (aQ5 (by have:=hr.un;lia)) p (cF p1 (cF p2 eO hs2) hs) hbase hfew hline hs hplain,λ{W B ρ σ H R Q} e h q=>f e h λs v H1 h1 w1 r1=>?_⟩;have e1:=e.to w1;obtain⟨kvs,hs,h1⟩:=h1;obtain⟨a,xs,rfl,g1,g2⟩:=r1.pd hs;have nw:¬W a:=λz=>by
  obtain⟨_,_,_,y⟩:=e1.eb.wo a z;rw[g1]at y;cases y
 refine⟨⟨a,xs,rfl,g1⟩,f1 e1 h1 λs' v' H2 h2 w2 r2=>?_⟩;obtain⟨ku,h2,dk⟩:=r2.du e1.eb h2;have e2:=e1.to w2;refine f2 e2 h2 λs'' v'' H3 h3 w3 r3=>?_;obtain⟨u,⟨k,rfl,h4⟩,dv⟩:=r3.du e2.eb h3;have g2:=(g2.mono (e1.eb.keep w2)).mono (e2.eb.keep w3);obtain⟨b,rfl,kb⟩:=tK (DU.mono (e2.eb.keep w3) _ dk);refine⟨a,xs,b,k,v'',rfl,rfl,w3.fr a _ nw (w2.fr a _ nw g1),λx hx=>uQ (g2.keys.2 x hx),kb,?_⟩;rcases g2.val k with ⟨z1,z2⟩|⟨u',c,r,v,z1,z2,rv,dv'⟩
 ·rw[z1]at h4;exact .inr ⟨z2,q _ _ _ h4 ((w1.trans w2).trans w3) dv⟩
 ·rw[z1]at h4;exact .inl ⟨c,r,v,z2,rv,q _ _ _ h4 ((w1.trans w2).trans w3) dv'⟩
section
open PySem.Builtin.Dict
variable {prog:Program}{w:World}{A:Around}{E:#v[7]}{s:Shared}{K:Type} [DecidableEq K]{knd:HeapKind prog w K}
end
open PyProof.Rows in
theorem aF0(val:Nat->Int):∀i,(firstMet val i).Nodup
 |0=>Ib
 |i+1=>by
  rw[firstMet_succ];unfold step_dedup;have ih:=aF0 val i;split
  ·exact ih
  ·rename_i h;refine List.nodup_append.mpr ⟨ih,Hg ..,λa ha b hb e=>h ?_⟩;rw[List.mem_singleton.mp hb]at e;exact List.any_eq_true.mpr ⟨a,ha,by rw[e];exact beq_self_eq_true _⟩
open PyProof.Rows in
def aKd(ns:List Int)(k:Int):k∈firstMet (λi=>ns.getD i 0) ns.length↔k∈ns:=by
 have e:(Bk ns.length).map (λi=>ns.getD i 0)=ns:=by
  apply Gi;intro i;rw[As];by_cases h:i<ns.length
  ·rw[Iy h,Ag h];simp[Kr,h]
  ·rw[De (by rw[Br];lia),De ∅];rfl
 have h:=firstMet_any (λi=>ns.getD i 0) ns.length k;rw[e,Uj,Uj,Kt,Pq,Pq]at h;exact h
theorem aCb:∀{ns:List Int}{us:List Value},Vals (ns.map V.int) us->Vz us ns
 | [],_,.nil=> .nil
 |n::ns,_,.cons ⟨tk,e⟩ t=>by
  rw[e];exact .cons n tk (aCb t)
def aEn(P:Program)(w:World)(a:Addr)(n:Nat)(h:Heap):Prop:=∃S,h.SetOf (intKind P w) a S n
def aJl(hc:X.calm=true):dY X (.type "set") (λxs H Q=>∃(p:Addr)(ns:List Int),xs=[.ref p]/\SqL X.K H p (ns.map V.int)/\ns.length<=1000/\∀(l:Addr)(zs:List Int),H l=none->zs.Nodup->(∀k,k∈zs↔k∈ns)->Q (.ref l) (upd H l (.ext (aEn X.prog X.w l zs.length)))):=by
 intro pins s σ H xs us Q I r h;obtain⟨p,ns,rfl,hq,hn,q⟩:=h;obtain⟨u,rfl,ru⟩:=vals1 r;cases ru;obtain⟨its,rv,pl,hz⟩:=I.list hq;have hlen:its.length=ns.length:=by rw[<-Vals.length rv,Ab]
 refine PySem.call_set_list (items:=its.toArray) (I.ok.hd hc) pl.isList (aCb rv) (by rw[Ai,hlen];unfold scanBound;lia) λh' tk S kp'=>?_;have kp:∀b o,s.heap.get? b=some o->h'.get? b=some o:=λb o e=>kp' b o (Ap e) e;rw[show its.toArray.size=ns.length by rw[Ai,hlen]]at S;have so:aEn X.prog X.w #v[0] _ h':=⟨_,S⟩;refine⟨.ref #v[0],_,I.laid (t':=tk) (o:=.ext (aEn X.prog X.w #v[0] _)) kp (Ak _) ⟨so,?_,λh1 h2 p k=>?_⟩,rfl,q _ _ (I.hok.fresh (Ak _)) (aF0 _ _) (aKd ns)⟩
 ·obtain⟨_,o,_,_,_,e,_⟩:=so;exact⟨o,e⟩
 ·obtain⟨S,o,es,ep,t,e,c⟩:=p;exact⟨S,o,es,ep,t,k _ e,c⟩
def aJ6:dY X (.builtin "len") (λxs H Q=>∃p n,xs=[V.ref p]/\H p=some (.ext (aEn X.prog X.w p n))/\Q (.int n) H):=by
 intro pins s σ H xs us Q I r h;obtain⟨p,n,rfl,hp,q⟩:=h;obtain⟨u,rfl,ru⟩:=vals1 r;cases ru;obtain⟨⟨S,o,es,ep,t,h1,h2,h3,_,_,h4,h5,rfl⟩,_,_⟩:=(show bR X.prog X.w H s.heap p (.ext (aEn X.prog X.w p n))from I.hok p _ hp);exact call_len_set h1 h2 h3 h5 (by unfold scanBound at h4;lia) ⟨.int es.size,H,I.tok _,⟨_,rfl⟩,q⟩
def aWz(F:TVa):TV:=λρ R=>F ρ λus=>∃ns:List Int,us=[.ls (ns.map U.n)]/\ns.length<=1000/\∀zs:List Int,zs.Nodup->(∀k,k∈zs↔k∈ns)->R (.sh (.n zs.length))
def aQ0{F:TVa}{p p' pos pos':Pos}(hc:X.calm=true)(h1:X.mg "len"=none)(h2:X.mg "set"=none)(ha:VB X [a] F)(g1:Gl X "len":=by rfl)(g2:Gl X "set":=by rfl)(hs:SE X a []:=by rfl)(hpl:BT X pos' []:=by rfl)
  (hs':starEach [.Call (.Name "set" p') [a] [] pos'] X.env=(false,eval (.Call (.Name "set" p') [a] [] pos') X.env)::starEach [] X.env:=by rfl) (hpl':BT X pos []:=by rfl):VE X (.Call (.Name "len" p) [.Call (.Name "set" p') [a] [] pos'] [] pos) (aWz F):=
 let⟨_,q,f⟩:=ha;⟨_,iW aJ6 g1 h1 Dq (cF (iB (aJl hc) g2 h2 Ub q ⋯ ⋯ hs hpl) eO hs') ⋯ ⋯ hs' hpl',λ{W B ρ σ H R Q} e h q=>f e h λus vs H1 ⟨ns,eu,xl,h1⟩ w1 d=>by
  subst eu;have e1:=e.to w1;obtain⟨x,rfl,dd⟩:=DBs.one d;obtain⟨p,zs,rfl,_,hp,ds⟩:=dd.ls e1.eb;rw[DUs.ints ds]at hp;exact⟨p,ns,rfl,SqL.of hp,xl,λl zs nl nd mm=>⟨l,zs.length,rfl,aM,q _ _ _ (h1 zs nd mm) (w1.trans (e1.eb.new nl)) ⟨rfl,rfl⟩⟩⟩⟩
section
variable {prog:Program}{w:World}{A:Around}{E:#v[7]}{s:Shared}
def aFd{r:Addr}{o:Obj}{items:Array Value}{n:Nat}(ho:s.heap.get? r=some o)(hc:o.cls=.type "list")(hd:o.data=.seq items n)(fits:items.size<=sizeLine)
  (k:∀(g:Heap)(tk:Nat),(∀b o,s.heap.get? b=some o->g.get? b=some o)->#v[0]<g.objs.size->R items.toList {s with heap:=g,toks:=tk}):#v[4] (collect (.ref r)) R E s:=by
 unfold collect;refine Aa (Mc (Ca So ?_));rw[Bi Mh _];show wpAny _ A.in1 (newList []>>=λl=>again (.builtin "list.__iadd__" ⟨[l,.ref r],[]⟩)) _ _ s;refine Aa (Bh ?_);refine Ac ⟨Da Gz _,Ca Vr ?_⟩;rw[Bi Gz _];have laid:(s.heap.push {cls:=.type "list",data:=.seq ([]:List Value).toArray}).get? #v[0]=some {cls:=.type "list",data:=.seq #[]}:=Al _ rfl;show wpAny _ A.in1 (Fq (.ref #v[0]) (.ref r) (.ref #v[0])) _ _ {s with heap:=s.heap.push {cls:=.type "list",data:=.seq ([]:List Value).toArray}};have hS:=Bj (Dh (·++items)) laid rfl;have fin:#v[4] (load #v[0]>>=λo=>match o.data with
   |Rf xs _=>pure xs.toList
   |_=>unsupported "internal:collect") R E {s with heap:=(s.heap.push {cls:=.type "list",data:=.seq ([]:List Value).toArray}).update #v[0] (Dh (·++items))}:=by
  refine Aa (Nm hS (Ac ?_));have:=k _ s.toks (λb o' hb=>(Cj _ _ (Ey (Ap hb))).trans (Ad _ hb)) (Ap hS);rw[show items.toList=((#[]:Array Value)++items).toList by simp]at this;exact this
 refine Dn (wpAny_extend_seq (hsz:=fits) (A:=A) (R:=λr s'=>r=.ok (.ret (.ref #v[0]))/\s'={s with heap:=(s.heap.push {cls:=.type "list",data:=.seq ([]:List Value).toArray}).update #v[0] (Dh (·++items))}) (s:={s with heap:=s.heap.push {cls:=.type "list",data:=.seq ([]:List Value).toArray}}) _ r _ 0 (.inl rfl) laid (Ad _ ho) hc hd ⟨rfl,rfl⟩) (λf s' h=>?_) λe s' h=>by cases h.1
 cases f with
 |done f=>obtain⟨e,rfl⟩:=h;cases e;exact fin
 |again c1=>exact⟨h.1,Ho h.2 λq s2 y=>by obtain⟨rfl,rfl⟩:=y;exact fin⟩
end
def aH5{C:List Tke->Prop}(L:aB4 X.prog X.w C)(hu:X.A.units+40<cLine):dY X (.builtin "sorted") (λys H Q=>∃(p:Addr)(ps:List (Tke×Addr)),ys=[.ref p]/\SqL X.K H p (ps.map λx=>V.ref x.2)/\(∀x∈ps,PKy H x)/\(ps.map (·.1)).Nodup/\ps.length<=10000/\C (ps.map (·.1))/\
  ∀(l:Addr)(zs:List (Tke×Addr)),H l=none->zs.Perm ps->zs.Pairwise (λx y=>gU x.1 y.1=true)->Q (.ref l) (upd H l (.lst (zs.map λx=>V.ref x.2)))):=by
 intro pins s σ H ys us Q I r h;obtain⟨p,ps,rfl,hp,hk,nd,hz,hC,q⟩:=h;obtain⟨u,rfl,ru⟩:=vals1 r;cases ru;obtain⟨its,rv,pl,_⟩:=I.list hp;obtain⟨o,h1,h2,n,h3⟩:=pl.isList;refine wM L hu I hk nd hz hC (λR E k=>aFd h1 h2 h3 ?_ ?_) q
 ·rw[Ai, <-Vals.length rv,Ab,Co];lia
 ·rw[<-qX rv]at k;exact k
def aU2(C:List Tke->Prop)(F:TVa):TV:=λρ R=>F ρ λus=>∃xs:List Tke,us=[.ls (xs.map tkU)]/\xs.Nodup/\xs.length<=10000/\C xs/\∀ys:List Tke,ys.Perm xs->ys.Pairwise (λx y=>gU x y=true)->R (.ow (ys.map tkU))
def aF9{C:List Tke->Prop}{F:TVa}{p pos:Pos}(L:aB4 X.prog X.w C)(hr:cW k X.A)(hm:X.mg "sorted"=none)(ha:VB X [a] F)(hg:Gl X "sorted":=by rfl)(hs:SE X a []:=by rfl)(hpl:BT X pos []:=by rfl):VE X (.Call (.Name "sorted" p) [a] [] pos) (aU2 C F):=
 let⟨_,q,f⟩:=ha;⟨_,iW (aH5 L (by have:=hr.un;lia)) hg hm Pd q ⋯ ⋯ hs hpl,λ{W B ρ σ H R Q} e h q=>f e h λus vs H1 ⟨xs,eu,nd,xl,hC,h1⟩ w1 d=>by
  subst eu;have e1:=e.to w1;obtain⟨x,rfl,dd⟩:=DBs.one d;obtain⟨p,zs,rfl,_,hp,ds⟩:=dd.ls e1.eb;obtain⟨ps,rfl,rfl,hk⟩:=zU ds;rw[Ab]at xl;refine⟨p,ps,rfl,SqL.of hp,λx hx=>(hk x hx).1,nd,xl,hC,λl zs nl pm pw=>?_⟩;have w3:=e1.eb.new (o:=.lst (zs.map λx=>V.ref x.2)) nl;refine q (.ow ((zs.map (·.1)).map tkU)) _ _ (h1 _ (pm.map _) ?_) (w1.trans w3) (RO.back (s:=.ow _) w1 ⟨l,_,rfl,nl,aM,aAo λx hx=>?_⟩)
  ·rw[Dg];exact pw
  ·exact DU.mono (λb o nb h=>⟨λz=>z.elim nb (aN h nl),(e1.eb.keep w3 b o nb h).2⟩) _ (hk x (pm.mem_iff.mp hx)).2⟩
def aY5(P:Program)(w:World)(x y:V)(H:Hp)(Q:VK):Prop:=∃a b xs k,x=.ref b/\y=.ref a/\H a=some (.ext (bN P w a xs))/\(∀x∈xs,PKy H (x.1,x.2.1))/\PKy H (k,b)/\Q (.bl (atKey xs k).isSome) H
def aUy(hu:X.A.units+2<cLine):OpR X (compareOp .In) (aY5 X.prog X.w):=by
 intro pins s σ H x y v u Q I rx ry h;obtain⟨a,b,xs,k,rfl,rfl,h1,h2,h3,q⟩:=h;obtain rfl:v=Aj b:=rx;obtain rfl:u=Aj a:=ry;obtain⟨lo,dd⟩:=pM I.hok h1 h2;exact wpAny_in_heap (show X.A.in1.units+1<cLine from hu) (gK (x:=(k,b)) I.hok h3) lo dd ⟨.bl _,H,I.tok _,rfl,q⟩
def aWm(P:Program)(w:World)(a b:TV):TV:=λρ R=>a ρ λs=>s.es λku=>b ρ λs'=>∃kvs k,aG5 P w s' kvs/\ku=tkU k/\R (.sh (.b (fD kvs k).isSome))
def aTo{ta tb:TE}{F G:TV}(ha:VT ta F)(hb:VT tb G):VT (λσ H Q=>ta σ H λx H1=>tb σ H1 λy H2=>aY5 P w x y H2 Q) (aWm P w F G):=λ{W B ρ σ H R Q} e h q=>ha e h λs v H1 h1 w1 r1=>by
 obtain⟨ku,h1,dk⟩:=r1.du e.eb h1;have e1:=e.to w1;refine hb e1 h1 λs' v' H2 ⟨kvs,k,hs,ek,h3⟩ w2 r2=>?_;subst ek;obtain⟨a,xs,rfl,g1,g2⟩:=r2.pd hs;obtain⟨b,rfl,kb⟩:=tK (DU.mono (e1.eb.keep w2) _ dk);refine⟨a,b,xs,k,rfl,rfl,g1,λx hx=>uQ (g2.keys.2 x hx),kb,q _ _ _ h3 (w1.trans w2) ?_⟩;rcases g2.val k with ⟨z1,z2⟩|⟨u',c,r,v,z1,z2,_⟩<;>rw[z1,z2]<;>exact⟨rfl,rfl⟩
def aVb{a b:Expr}{pos:Pos}{F G:TV}(hP:X.prog=P)(hw:X.w=w)(hr:cW k X.A)(ha:VE X a F)(hb:VE X b G)(hm:behindInMarks .In b=false:=by first|exact aA9 _|rfl):VE X (.Compare a [.In] [b] pos) (aWm P w F G):=by
 subst hP hw;obtain⟨_,p,f⟩:=ha;obtain⟨_,p',f'⟩:=hb;exact⟨_,aIg (aUy (by have:=hr.un;lia)) p p' hm,aTo f f'⟩
theorem tQ{α β:Type}(f:α->β):∀(l:List α)(i:Nat),(l.eraseIdx i).map f=(l.map f).eraseIdx i
 | [],_=>rfl
 |_::_,0=>rfl
 |a::l,i+1=>congrArg (f a::·) (tQ f l i)
def aP5(hu:X.A.units+2<cLine):MtR X "dict.pop" (λx vs H Q=>∃a xs b k i p,x=.ref a/\vs=[.ref b]/\H a=some (.ext (bN X.prog X.w a xs))/\(∀x∈xs,PKy H (x.1,x.2.1))/\PKy H (k,b)/\xs[i]? =some (k,p)/\xs.length<=10000/\∃v,RelV v p.2/\Q v (upd H a (.ext (bN X.prog X.w a (xs.eraseIdx i))))):=by
 intro pins s σ H x vs v us Q I rx rv h;obtain⟨a,xs,b,k,i,p,rfl,rfl,e,ks,kb,hi,hl,v',rv',q⟩:=h;obtain rfl:v=Aj a:=rx;obtain⟨u,rfl,r1⟩:=vals1 rv;obtain rfl:u=Aj b:=r1;obtain⟨lo,o,es,ep,ho,hc,hd,he,his,hn⟩:=pM I.hok e ks;have el:es.size=xs.length:=by rw[<-Aq,he,Ab]
 have hes:es.size<=sizeLine:=by rw[el,Co];lia
 have kk:=gK (x:=(k,b)) I.hok kb;have hil:i<xs.length:=(List.getElem?_eq_some_iff.mp hi).1;refine Bm Oo ⟨o,ho,hc.1⟩ PySem.F.entry_dict_pop ?_ (PySem.F.args_dict_pop_2 _ _);unfold Builtin.«dict.pop»;refine Aa ?_;unfold Wv;refine Aa (Gn ⟨o,ho,hc.1⟩ ?_);show wpAny _ _ (pure (a,Aj b,none)) _ _ s;refine Ac ?_;dsimp only;refine Aa (Cy ho hd (Aa (Ac ?_)));rw[show es.isEmpty=false by rw[Tw];exact decide_eq_false ∅]
 ac_rfl
 refine Aa ?_;unfold Wp;refine Bs ?_;refine Aa ((bM (intKind X.prog X.w)).pyHash (show X.A.in1.units+1<cLine from hu) kk (Aa (wpAny_dictFind_heap (s:={s with toks:=s.toks+(bM (intKind X.prog X.w)).draws k}) (show X.A.in1.units+1<cLine from hu) kk ho hd he his hn (λno=>absurd hi (no i p)) λj p' hj=>?_)));obtain rfl:j=i:=by
  have z1:(xs.map (·.1))[j]? =some k:=by rw[As,hj];rfl
  have z2:(xs.map (·.1))[i]? =some k:=by rw[As,hi];rfl
  exact(Ee (by rw[Ab];exact(List.getElem?_eq_some_iff.mp hj).1) hn).mp (z1.trans z2.symm)
 rw[hi]at hj;cases hj;refine Aa (Cy (s:={s with toks:=s.toks+(bM (intKind X.prog X.w)).draws k}) ho hd ?_);rw[entry_at he j,hi];refine Aa (wpAny_updateDictKeys (hz:=hes) (s:={s with toks:=s.toks+(bM (intKind X.prog X.w)).draws k}) ho hd (Ac ?_));have g1:=Bj (Kw λes=>es.eraseIdxIfInBounds j) ho (Qy (Io hd _));have ok:bR X.prog X.w (upd H a (.ext (bN X.prog X.w a (xs.eraseIdx j)))) (s.heap.update a (Kw λes=>es.eraseIdxIfInBounds j)) a (.ext (bN X.prog X.w a (xs.eraseIdx j))):=⟨⟨lo,_,_,_,g1,hc.mapDictKeys _,Io hd _,by
  obtain⟨l⟩:=es;have he:l=_:=he;rw[tQ, <-he];simp,hn.sublist ((Pp ..).map _)⟩,⟨_,g1⟩,λh1 h2 p k=>bN.stay h1 h2 p k⟩
 have fin:EP X pins σ Q p.2 {s with heap:=s.heap.update a (Kw λes=>es.eraseIdxIfInBounds j),toks:=s.toks+(bM (intKind X.prog X.w)).draws k}:=⟨v',_,zH (I.tok _) (by rw[e];exact Fe) (Bg ..) ⟨_,g1⟩ ok,rv',q⟩;exact Aa (Jm (Ac ⟨_,rfl,fin⟩))
def PdR.erase{W B:Addr->Prop}{H:Hp}{l:List (Tke×U)}{xs:#v[13]}(h:PdR W B H l xs):∀i,PdR W B H (l.eraseIdx i) (xs.eraseIdx i):=by
 induction h with
 |nil=>exactλ_=> .nil
 |cons d rv dv t ih=>
  intro i;cases i with
  |zero=>exact t
  |succ i=>exact .cons d rv dv (ih i)
theorem PdR.at{W B:Addr->Prop}{H:Hp}{l:List (Tke×U)}{xs:#v[13]}{k:Tke}{u:U}(h:PdR W B H l xs):∀{i:Nat},l[i]? =some (k,u)->∃p v,xs[i]? =some (k,p)/\RelV v p.2:=by
 induction h with
 |nil=>exactλh=>by simp at h
 |cons d rv dv t ih=>
  intro i h;cases i with
  |zero=>cases h;exact⟨_,_,rfl,rv⟩
  |succ i=>exact ih h
def aYn(P:Program)(w:World)(j:Nat)(F:TV):TVS:=λE ρ=>∃kvs,ρ[j]? =some (.oo (pdO P w kvs))/\kvs.length<=10000/\F ρ λs=>s.es λku=>∃k i u,ku=tkU k/\kvs[i]? =some (k,u)/\E.nx (ρ.set j (.oo (pdO P w (kvs.eraseIdx i))))
def aP3{x:Str}{p' apos cpos pos:Pos}{F:TV}(j:Nat)(hP:X.prog=P)(hw:X.w=w)(hr:cW k X.A)(ha:VE X a F)(hN:X.N[j]? =some x:=by rfl)(hvs:Vis X.env.scope x:=by trivial)(hd:ND x:=by decide)(hcd:NC x:=by decide)
  (hbase:attributeBase (.Name x p') "pop" X.env (eval (.Name x p') X.env)=eval (.Name x p') X.env:=by rfl)
  (hfew:((backTo cpos (starEach [a] X.env)).all (λx=> !x.1) && (backToKw cpos (keywordEach [] X.env)).all (λx=>x.1.isSome)
   && decide ([a].length+([]:List Keyword).length+(if([]:List Keyword).isEmpty then 0 else 1)<30))=true:=by rfl)
  (hline:EL apos cpos:=by rfl) (hs:SE X a []:=by rfl) (hplain:BT X cpos []:=by rfl)
  (hsw:swapsWith (.Call (.Attribute (.Name x p') "pop" apos) [a] [] cpos) none pos.line X.env=pure false:=by rfl):VS X (.Expr (.Call (.Attribute (.Name x p') "pop" apos) [a] [] cpos) pos) (aYn P w j F):=by
 subst hP hw;obtain⟨_,p,f⟩:=ha;refine⟨_,qT (aS1 Oo PySem.F.type_dict_pop (aP5 (by have:=hr.un;lia)) (pR hN hvs hd hcd) (cF p eO hs) hbase hfew hline hs hplain) hsw,λ{W B H0 A ρ σ H E D} o h jj=>?_⟩;obtain⟨kvs,hj,hl,h⟩:=h;obtain⟨q,g1,g2,xs,g3,_⟩:=o.hd j _ _ hj rfl;refine⟨_,g1,⟨q,xs,rfl,g3⟩,f o.ee h λs v H1 h5 w1 r=>?_⟩;obtain⟨ku,⟨k,i,u,rfl,hi,h6⟩,dk⟩:=r.du o.ee.eb h5;have o1:=o.to w1;obtain⟨q',g4,_,ys,g5,g6⟩:=o1.hd j _ _ hj rfl;rw[g1]at g4;cases g4;obtain⟨b,rfl,kb⟩:=tK dk;obtain⟨p,v,hp,rv⟩:=g6.at hi;refine⟨q,ys,b,k,i,p,rfl,rfl,g5,λx hx=>uQ (g6.keys.2 x hx),kb,hp,by rw[g6.len];exact hl,v,rv,jj.nx (o1.chg g1 ((g2 q).mpr rfl) (s':=.oo (pdO X.prog X.w (kvs.eraseIdx i))) rfl rfl ⟨g2,_,aM,?_⟩) h6⟩;exact PdR.mono (λb y n h=>⟨n,(aO (λz:b=q=>n (by rw[z];exact .inr ⟨j,(g2 q).mpr rfl⟩))).trans h⟩) (g6.erase i)
def aCu(r d:Addr)(h:Heap):Prop:=h.IsValuesView r d
def aYr{o:Expr}{apos cpos:Pos}{td:TE}(ho:PE X o td)(hbase:attributeBase o "values" X.env (eval o X.env)=eval o X.env:=by rfl)(hline:EL apos cpos:=by rfl):
  PE X (.Call (.Attribute o "values" apos) [] [] cpos) (λσ H Q=>td σ H λx H1=>∃a xs,x=.ref a/\H1 a=some (.ext (bN X.prog X.w a xs))/\∀l,H1 l=none->Q (.ref l) (upd H1 l (.ext (aCu l a)))):=by
 intro pins s σ H Q I h;refine wpAny_Call_method0_late hbase hline (thn (ho pins s σ H _ I h) λv s1 ⟨x,H1,I1,r1,a,xs,ex,e,q⟩=>?_);subst ex;obtain rfl:v=Aj a:=r1;obtain⟨⟨lo,o,es,ep,h1,h2,h3,h4,h5⟩,_,_⟩:=(show bR X.prog X.w H1 s1.heap a (.ext (bN X.prog X.w a xs))from I1.hok a _ e);refine⟨"dict","dict.values",Jq,Nd,PySem.F.type_dict_values,⟨o,h1,h2.1⟩,λa e2=>by cases e2;exact⟨o,h1,h2.2.1⟩,Hr rfl (PySem.evalArgs_none (Bm Nd ⟨o,h1,h2.1⟩ PySem.F.entry_dict_values ?_ (PySem.F.args_dict_values_1 _)))⟩;refine Aa ?_;unfold Ws;refine Aa (Gn ⟨o,h1,h2.1⟩ ?_);show wpAny _ _ (pure a) _ _ s1;refine Ac ?_;show wpAny _ _ (Hd a>>=_) _ _ s1;unfold Hd;rw[if_neg (by rw[lo];exact Ao)];have g:aCu s1.heap.objs.size a (s1.heap.push {cls:=.type "dict_values",data:=.fields #[.ref a]}):=⟨_,Al _ rfl,rfl,rfl⟩;exact Aa (Ac (Aa (Bh (Ac ⟨_,rfl,.ref s1.heap.objs.size,_,I1.laid (t':=s1.toks) (o:=.ext (aCu s1.heap.objs.size a)) (λ_ _ q=>Ad _ q) (Ak _) ⟨g,⟨_,Al _ rfl⟩,λ_ _ ⟨o,e,c⟩ k=>⟨o,k _ e,c⟩⟩,rfl,q _ (I1.hok.fresh (Ak _))⟩))))
def aHm(hc:X.calm=true):dY X (.type "list") (λys H Q=>∃(r a:Addr)(xs:#v[13])(vs:List V),ys=[.ref r]/\H r=some (.ext (aCu r a))/\H a=some (.ext (bN X.prog X.w a xs))/\xs.length<=10000/\Vals vs (xs.map (·.2.2))/\∀l,H l=none->Q (.ref l) (upd H l (.lst vs))):=by
 intro pins s σ H ys us Q I rs h;obtain⟨r,a,xs,vs,rfl,hr,ha,hl,rv,q⟩:=h;obtain⟨u,rfl,ru⟩:=vals1 rs;cases ru;obtain⟨g,_,_⟩:=(show bR X.prog X.w H s.heap r (.ext (aCu r a))from I.hok r _ hr);obtain⟨⟨lo,o,es,ep,h1,h2,h3,h4,h5⟩,_,_⟩:=(show bR X.prog X.w H s.heap a (.ext (bN X.prog X.w a xs))from I.hok a _ ha);have el:es.size=xs.length:=by rw[<-Aq,h4,Ab]
 refine PySem.W.kdl_call (aMx (es:=es) (ep:=ep)) (I.ok.hd hc) ⟨g,o,h1,h2,h3⟩ (by rw[el,Co];lia) λh' tk acc c hk hg hacc=>?_;have ea:acc=(xs.map (·.2.2)).toArray:=by
  apply Wy;refine Gi λj=>?_;rw[As];cases hj:xs[j]? with
  |none=>
   have:xs.length<=j:=List.getElem?_eq_none_iff.mp hj;exact De (by rw[Aq,hacc.1,el];exact this)
  |some x=>
   have hlt:j<acc.size:=by rw[hacc.1,el];exact(List.getElem?_eq_some_iff.mp hj).1
   obtain⟨e,e1,e2⟩:=hacc.2 j _ (Aw hlt);have e3:es.toList[j]? =some e:=by rw[Bn];exact e1
   rw[h4,As,hj]at e3;cases e3;rw[Bn,Aw hlt,e2];rfl
 subst ea;refine⟨.ref #v[0],_,I.laid (t':=tk) (o:=.lst vs) hk (Ak _) ⟨?_,_,c,rv,hg⟩,rfl,q _ (I.hok.fresh (Ak _))⟩;rw[Vals.length rv,Ab,Co]
 lia
def PdR.vals{W B:Addr->Prop}{H:Hp}{l:List (Tke×U)}{xs:#v[13]}(h:PdR W B H l xs):∃vs,Vals vs (xs.map (·.2.2))/\DUs W B H (l.map (·.2)) vs:=by
 induction h with
 |nil=>exact⟨[],.nil,rfl⟩
 |cons d rv dv t ih=>exact let⟨vs,h1,h2⟩:=ih;⟨_::vs,.cons rv h1,_,vs,rfl,dv,h2⟩
def aY8(P:Program)(w:World)(a:TV):TV:=λρ R=>a ρ λs=>∃kvs,aG5 P w s kvs/\kvs.length<=10000/\R (.ow (kvs.map (·.2)))
def aPx{o:Expr}{p apos cpos pos:Pos}{F:TV}(hP:X.prog=P)(hw:X.w=w)(hc:X.calm=true)(hm:X.mg "list"=none)(ha:VE X o F)(hg:Gl X "list":=by rfl)(hbase:attributeBase o "values" X.env (eval o X.env)=eval o X.env:=by rfl)(hline:EL apos cpos:=by rfl)
  (hs:starEach [.Call (.Attribute o "values" apos) [] [] cpos] X.env=(false,eval (.Call (.Attribute o "values" apos) [] [] cpos) X.env)::starEach [] X.env:=by rfl) (hpl:BT X pos []:=by rfl):VE X (.Call (.Name "list" p) [.Call (.Attribute o "values" apos) [] [] cpos] [] pos) (aY8 P w F):=by
 subst hP hw;obtain⟨_,p,f⟩:=ha;refine⟨_,iB (aHm hc) hg hm Jn (cF (aYr p hbase hline) eO hs) ⋯ ⋯ hs hpl,λ{W B ρ σ H R Q} e h q=>f e h λs v H1 h1 w1 r1=>?_⟩;obtain⟨kvs,hs,hl,h2⟩:=h1;obtain⟨a,xs,rfl,g1,g2⟩:=r1.pd hs;have e1:=e.to w1;refine⟨a,xs,rfl,g1,λl nl=>?_⟩;have w2:=e1.eb.new (o:=.ext (aCu l a)) nl;have e2:=e1.to w2;have g2:=g2.mono (e1.eb.keep w2);obtain⟨vs,rv,dv⟩:=g2.vals;refine⟨l,a,xs,vs,rfl,aM,(aO (aN g1 nl)).trans g1,by rw[g2.len];exact hl,rv,λm nm=>?_⟩;have w3:=e2.eb.new (o:=.lst vs) nm;refine q (.ow (kvs.map (·.2))) _ _ h2 ((w1.trans w2).trans w3) (RO.back (s:=.ow _) (w1.trans w2) ⟨m,_,rfl,nm,aM,?_⟩);exact DUs.mono (λb o nb h=>⟨λz=>z.elim nb (aN h nm),(e2.eb.keep w3 b o nb h).2⟩) _ dv
variable {prog:Program}
def aOx{l b:Addr}{ps:List (Tke×Addr)}{n j:Nat}{k0:Tke}{x0:Addr}(hj:ps[j]? =some (k0,x0))(hno:∀m,m<j->∀x,ps[m]? =some x->x.1≠k0)(hz:ps.length<=10000):∀m i:Nat,j-i=m->i<=j->MeetsIn prog w (Builtin.«list.remove.loop» ⟨[.ref l,.ref b,rawInt i],[]⟩)
  (λA R s=>A.units+2<cLine/\s.heap.get? l=some {cls:=.type "list",dict:=none,data:=.seq (ps.map λx=>Aj x.2).toArray n,slots:= #[]}/\(∀x∈ps,bF (intKind prog w) s.heap x.1 x.2)/\bF (intKind prog w) s.heap k0 b/\R (.ok (.ret .none)) {s with heap:=s.heap.update l (Dh λxs=>xs.eraseIdxIfInBounds j)}):=by
 have hs1:(ps.map λx=>Aj x.2).toArray.size<=sizeLine:=by rw[Ai,Ab,Co];lia
 intro m;induction m with
 |zero=>
  intro i hk hij A R s h;obtain⟨hp,g,d,tk,os⟩:=s;obtain⟨hu,hl,hks,hb,h⟩:=h;obtain rfl:i=j:=by lia
  wp_walk using Lj hl
  have hi:(ps.map λx=>Aj x.2).toArray[((i:Nat):Int).toNat]? =some (.ref x0):=by rw[Dr,Kq,As,hj];rfl
  rw[hi];refine Aa (iH (x:=k0) (y:=k0) (show A.in1.units+1<cLine from hu) (hks _ (Ay hj)) hb ?_);rw[decide_eq_true rfl];have hz':((ps.map λx=>Aj x.2).toArray.eraseIdxIfInBounds i).size<=sizeLine+1:=Ba (Ue _ _) (Ry hs1)
  wp_walk using (Hu hl rfl (hz:=hs1) (_hz':=hz')),Lj hl
  simpa using h
 |succ m ih=>
  intro i hk hij A R s h;obtain⟨hp,g,d,tk,os⟩:=s;obtain⟨hu,hl,hks,hb,h⟩:=h;have hlt:i<ps.length:=by have:=(List.getElem?_eq_some_iff.mp hj).1;lia
  wp_walk using Lj hl
  have hx:=Ag hlt;have hi:(ps.map λx=>Aj x.2).toArray[((i:Nat):Int).toNat]? =some (.ref ps[i].2):=by rw[Dr,Kq,As,hx];rfl
  have hc:((i:Int)+1)=((i+1:Nat):Int):=by push_cast;rfl
  rw[hi];refine Aa (iH (x:=ps[i].1) (y:=k0) (show A.in1.units+1<cLine from hu) (hks _ (Ay hx)) hb ?_);rw[decide_eq_false (hno i ∅ _ hx)]
  wp_walk
  rw[hc];exact⟨Da Er _,Ca Kc (by
   rw[Bi Er _];exact ih (i+1) ∅ ∅ A R _ ⟨hu,hl,hks,hb,h⟩)⟩
def aKr{l b:Addr}{ps:List (Tke×Addr)}{n j:Nat}{k0:Tke}{x0:Addr}(hj:ps[j]? =some (k0,x0))(hno:∀m,m<j->∀x,ps[m]? =some x->x.1≠k0)(hz:ps.length<=10000):MeetsIn prog w (Builtin.«list.remove» ⟨[.ref l,.ref b],[]⟩)
  (λA R s=>A.units+2<cLine/\s.heap.get? l=some {cls:=.type "list",dict:=none,data:=.seq (ps.map λx=>Aj x.2).toArray n,slots:= #[]}/\(∀x∈ps,bF (intKind prog w) s.heap x.1 x.2)/\bF (intKind prog w) s.heap k0 b/\R (.ok (.ret .none)) {s with heap:=s.heap.update l (Dh λxs=>xs.eraseIdxIfInBounds j)}):=by
 intro A R s h;obtain⟨hp,g,d,tk,os⟩:=s;have hl:=h.2.1
 wp_walk using Lj hl
 exact⟨Da Er _,Ca Kc (by
  rw[Bi Er _];exact aOx hj hno hz _ 0 rfl (Bd _) A R _ h)⟩
def aVd(hu:X.A.units+2<cLine):MtM X "list.remove" (λx vs H Q=>∃(l:Addr)(ps:List (Tke×Addr))(b:Addr)(j:Nat)(k0:Tke)(x0:Addr),x=.ref l/\vs=[.ref b]/\H l=some (.lst (ps.map λx:Tke×Addr=>V.ref x.2))/\(∀x∈ps,PKy H x)/\PKy H (k0,b)/\ps[j]? =some (k0,x0)/\(∀m,m<j->∀x,ps[m]? =some x->x.1≠k0)/\ps.length<=10000/\Q .non (upd H l (.lst ((ps.eraseIdx j).map λx:Tke×Addr=>V.ref x.2)))):=by
 intro pins s σ H x vs v us Q I rx rv h;obtain⟨l,ps,b,j,k0,x0,rfl,rfl,hH,hk,hb,hj,hno,hz,q⟩:=h;cases rx;obtain⟨u,rfl,ru⟩:=vals1 rv;obtain rfl:u=Aj b:=ru;obtain⟨z,its,n,r,hl,e⟩:=I.lstM hH;obtain rfl:=qX r;refine Oa Nb ⟨_,e,rfl⟩ PySem.F.entry_list_remove (PySem.F.args_list_remove_2 _ _) (aKr hj hno hz) ⟨hu,e,λx hx=>gK I.hok (hk x hx),gK (x:=(k0,b)) I.hok hb,?_⟩;refine⟨.non,_,I.lset (its':=(ps.eraseIdx j).map λx=>Aj x.2) hH e ?_ qD ?_,rfl,q⟩
 ·apply Wy;rw[tQ];simp
 ·rw[Ab,Co];have:=(Pp ps j).length_le
  lia
def bAd(i:Nat)(F:TV):TVS:=λE ρ=>∃xs:List Tke,ρ[i]? =some (.ow (xs.map tkU))/\xs.length<=10000/\F ρ λs=>s.es λku=>∃k j,ku=tkU k/\xs[j]? =some k/\(∀m,m<j->xs[m]? ≠some k)/\E.nx (ρ.set i (.ow ((xs.eraseIdx j).map tkU)))
def aTn{x:Str}{p' apos cpos pos:Pos}{F:TV}(i:Nat)(hr:cW k X.A)(ha:VE X a F)(hN:X.N[i]? =some x:=by rfl)(hv:Vis X.env.scope x:=by trivial)(hd:ND x:=by decide)
  (hcd:NC x:=by decide)
  (hbase:attributeBase (.Name x p') "remove" X.env (eval (.Name x p') X.env)=eval (.Name x p') X.env:=by rfl)
  (hfew:((backTo cpos (starEach [a] X.env)).all (λx=> !x.1) && (backToKw cpos (keywordEach [] X.env)).all (λx=>x.1.isSome)
   && decide ([a].length+([]:List Keyword).length+(if([]:List Keyword).isEmpty then 0 else 1)<30))=true:=by rfl)
  (hline:EL apos cpos:=by rfl) (hs:SE X a []:=by rfl) (hplain:BT X cpos []:=by rfl)
  (hsw:swapsWith (.Call (.Attribute (.Name x p') "remove" apos) [a] [] cpos) none pos.line X.env=pure false:=by rfl):
  VS X (.Expr (.Call (.Attribute (.Name x p') "remove" apos) [a] [] cpos) pos) (bAd i F):=
 let⟨_,p,f⟩:=ha;⟨_,qT (aLw Jp Nb PySem.F.type_list_remove (aVd (by have:=hr.un;lia)) (pR hN hv hd hcd) (cF p eO hs) hbase hfew hline hs hplain) hsw,λ{W B H0 A ρ σ H E D} o h jj=>by
  obtain⟨xs,hi,hl,h⟩:=h;obtain⟨q,vs,h1,h2,h3,h4⟩:=o.ow i _ hi;refine⟨_,h1,.inl ⟨rfl,_,SqL.of h3⟩,f o.ee h λs v H1 h5 w r=>?_⟩;obtain⟨ku,⟨k,j,rfl,hj,hno,h6⟩,d⟩:=r.du o.ee.eb h5;have o1:=o.to w;obtain⟨q',ys,g1,g2,g3,g4⟩:=o1.ow i _ hi;rw[h1]at g1;cases g1;obtain⟨b,rfl,kb⟩:=tK d;obtain⟨ps,rfl,rfl,hk⟩:=zU g4;rw[As]at hj;obtain⟨⟨k',x0⟩,hj',rfl⟩:=Option.map_eq_some_iff.mp hj;refine⟨q,ps,b,j,k',x0,rfl,rfl,g3,λx hx=>(hk x hx).1,kb,hj',λm hm x hx e=>hno m hm (by rw[As,hx, <-e];rfl),by rw[Ab]at hl;exact hl,jj.nx (o1.own h1 h2 ?_) h6⟩;rw[<-tQ];exact aAo λx hx=>(hk x (List.mem_of_mem_eraseIdx hx)).2⟩
def aS0(g:TG):Prop:=∀x σ H(Q Q':St->Hp->Prop),(∀σ H,Q σ H->Q' σ H)->g x σ H Q->g x σ H Q'
def aIo{i:Nat}:aS0 (mU i):=λ_ _ _ _ _ m h=>m _ _ h
section
variable {cap:#v[12]}{own:List Str}
variable {X:Cx}
def aDu{i:Nat}{x:Str}{elt iter tg ci:Expr}{pos spos py:Pos}
  (hN:X.N.Nodup) (hi':X.N[i]? =some x) (hx:Loc X.env.scope x) (S:mJ X scope cap cl) (hc:X.calm=true) (hi:PI X tg iter wi)
  (hg:∀cs,cD X scope cs->∀C s2 H2 fp,PG (bA X (bV own cap) scope cs C s2 H2 fp) tg g) (htc:∀cs,cD X scope cs->∀C s2 H2 fp,PT (bA X (bV own cap) scope cs C s2 H2 fp) ci tc) (he:∀cs,cD X scope cs->∀C s2 H2 fp,PE (bA X (bV own cap) scope cs C s2 H2 fp) elt te)
  (hsw:swapsWith #v[10] (some (.Name x py)) spos.line X.env=pure true)
  (hs:FS X iter) (hf:FL X x):
  PS X (.Assign [.Name x py] #v[10] spos) (aDk (rA own.length cap wi g tc te) (mU i)):=by
 intro pins s σ H D I h;rw[Lo _ _ _ _ hsw];refine Aa (Je (Aa ?_));show wpAny _ X.A (do let _<-comprehension #v[10] scope X.env _ (newList []) false (eval iter X.env) (some (assign (.Name x py) X.env))) _ _ s;refine Aa (Dn (Hn (use:=some (assign (.Name x py) X.env)) (Q:=λ_ s'=>SP X pins D .next s') rfl hs S.clos S.kind S.names
  (thn (hi pins s σ H _ I h) λv s1 h1=>thn h1 λitv s2 h2=>?_)) (λ_ s' hq=>Ac (Ac hq)) λ_ _ e=>e)
 obtain⟨it,fp,tn,J,H2,e,I2,T,st2,f2,rd⟩:=h2;subst e;obtain⟨W,w0,turn⟩:=rd _ (I2.hok.fresh (Ak _));refine rY (Q:=λx H1=>mU i x σ H1 D.nx) (RR:=λacc C=>compPost (model X.prog X.w) X.A X.xe (some (assign (.Name x py) X.env)) (λ_ s'=>SP X pins D .next s') acc C) S hc I2 T st2 f2 (λcs cf _=>hg cs cf) (λcs cf _ C s2 H2 fp=>aD6 (htc cs cf C s2 H2 fp)) (λcs cf _=>he cs cf) W w0 turn
  λC H' s' m hCle hm hCn I' hback q=>?_
 refine Kj (tR (v:=.ref s2.heap.objs.size) I' hN hi' hx rfl (λs'' I'' ⟨a,hsa,ha⟩=>?_) hf);have hCa:C≠a:=by
  rcases ha with z|z
  ·rw[z];exact Cg (dF I2.lt hCle)
  ·obtain⟨v,q'⟩:=I2.cell x a z;exact Cg (dF q'.lt hCle)
 refine⟨m,hm.sameBut hsa hCa,λh' hs'=>⟨_,H',?_,q⟩⟩;have hC0:X.s₀.heap.objs.size<=C:=Ba I2.sz hCle;have hnp:∀p∈X.pn++pins,p.1≠C:=λp hp=>dF (Ap (I2.pin p hp).1) hCle;have hcl:∀y c,X.env.cells.lookup y=some c->c≠C:=λy c e=>by
  obtain⟨v,q'⟩:=I2.cell y c e;exact dF q'.lt hCle
 have hL:C≠X.env.locals:=Cg (dF I2.lt hCle);exact I''.turned (t':=s''.toks) (it:=C) (λb o hb e=>(hs'.2 b hb).trans e) hCn hL (.inr hC0) hcl hnp
def aQj{i:Nat}{x:Str}{elt iter tg ci:Expr}{pos spos py:Pos}{Fi:TVa}{G:TVg}{C:TVc}{F:TV}(hnd:X.N.Nodup)(sc0:Scope)(N0:List Str)(hsc:X.env.scope=sc0)(hN:X.N=N0)(hcell:HC X)
  (ok:aD9 scope sc0 cap N0) (hc:X.calm=true) (hi:VIc X tg iter Fi) (hg:∀cs,cD X scope cs->∀C s2 H2 fp,PG (bA X (bV own cap) scope cs C s2 H2 fp) tg g) (hG:VTh own.length g G) (hC:∀cs,cD X scope cs->∀C' s2 H2 fp,VC (bA X (bV own cap) scope cs C' s2 H2 fp) ci C) (he:∀cs,cD X scope cs->∀C s2 H2 fp,VE (bA X (bV own cap) scope cs C s2 H2 fp) elt F)
  (hi':X.N[i]? =some x:=by rfl) (hx:Loc X.env.scope x:=by exact Dc rfl) (hsw:swapsWith #v[10] (some (.Name x py)) spos.line X.env=pure true:=by rfl)
  (hs:FS X iter:=by intro _;rfl) (hf:FL X x:=by trivial):VS X (.Assign [.Name x py] #v[10] spos) (aPi i (aAp own.length cap Fi G C F)):=
 let⟨_,p,f⟩:=hi;⟨_,let⟨_,S⟩:=aO4 hsc hN hcell ok;aDu hnd hi' hx S hc p hg (λcs cf C s2 H2 fp=>(hC cs cf C s2 H2 fp).can) (λcs cf C s2 H2 fp=>(he cs cf C s2 H2 fp).can) hsw hs hf,λo h j=>vD f hG o.ee h λs v H1 h1 w r=>aBb o w r h1 j.nx⟩
def aLx{i:Nat}{x:Str}{elt iter tg:Expr}{pos spos py:Pos}{Fi:TVa}{G:TVg}{F:TV}(gm:aS0 g)(hnd:X.N.Nodup)(sc0:Scope)(N0:List Str)(hsc:X.env.scope=sc0)(hN:X.N=N0)(hcell:HC X)
  (ok:aD9 scope sc0 cap N0) (hc:X.calm=true) (hi:VIc X tg iter Fi) (hg:∀cs,cD X scope cs->∀C s2 H2 fp,PG (bA X (bV own cap) scope cs C s2 H2 fp) tg g) (hG:VTh own.length g G) (he:∀cs,cD X scope cs->∀C s2 H2 fp,VE (bA X (bV own cap) scope cs C s2 H2 fp) elt F)
  (hi':X.N[i]? =some x:=by rfl) (hx:Loc X.env.scope x:=by exact Dc rfl) (hsw:swapsWith #v[11] (some (.Name x py)) spos.line X.env=pure true:=by rfl)
  (hs:FS X iter:=by intro _;rfl) (hf:FL X x:=by trivial):VS X (.Assign [.Name x py] #v[11] spos) (aPi i (aCx own.length cap Fi G F)):=
 let⟨_,p,f⟩:=hi;⟨_,let⟨_,S⟩:=aO4 hsc hN hcell ok;aGg hnd hi' hx S hc p gm hg (λcs cf C s2 H2 fp=>(he cs cf C s2 H2 fp).can) hsw hs hf,λo h j=>zK f hG o.ee h λs v H1 h1 w r=>aBb o w r h1 j.nx⟩
section
variable {elt iter tg ci:Expr}{Nc:List Str}{scope isc:Scope}{cs:List (Str×Addr)}{C:Addr}{s2:Shared}{H2:Hp}{fp:List Addr}{own:List Str}{icap:#v[12]}{pos:Pos}{Fi:TVa}{g:TG}{G:TVg}{Ct:TVc}{F:TV}
def aNd(fsc:Scope)(cf:cD X scope cs)(hfs:X.env.scope=fsc)(hk:fsc.kind=.function)(ok:aAa isc scope fsc icap Nc)(hc:X.calm=true)(hi:VIc (bA X Nc scope cs C s2 H2 fp) tg iter Fi)
  (hg:∀cl C' s3 H3 fp',PG (aY (bA X Nc scope cs C s2 H2 fp) (bV own icap) isc cl C' s3 H3 fp') tg g) (hG:VTh own.length g G) (he:∀cl C' s3 H3 fp',VE (aY (bA X Nc scope cs C s2 H2 fp) (bV own icap) isc cl C' s3 H3 fp') elt F)
  (hs:∀x,foldedSetIterable iter (bA X Nc scope cs C s2 H2 fp).env x=pure x:=by intro _;rfl):VE (bA X Nc scope cs C s2 H2 fp) (.ListComp elt [⟨tg,iter,[],0⟩] isc pos) (aCx own.length icap Fi G F):=
 let⟨_,p,f⟩:=hi;⟨_,aUl fsc cf hfs hk ok hc p hg (λcl C' s3 H3 fp'=>(he cl C' s3 H3 fp').can) hs,zK f hG⟩
def aQa(fsc:Scope)(cf:cD X scope cs)(hfs:X.env.scope=fsc)(hk:fsc.kind=.function)(ok:aAa isc scope fsc icap Nc)(hc:X.calm=true)(hi:VIc (bA X Nc scope cs C s2 H2 fp) tg iter Fi)
  (hg:∀cl C' s3 H3 fp',PG (aY (bA X Nc scope cs C s2 H2 fp) (bV own icap) isc cl C' s3 H3 fp') tg g) (hG:VTh own.length g G) (hC:∀cl C' s3 H3 fp',VC (aY (bA X Nc scope cs C s2 H2 fp) (bV own icap) isc cl C' s3 H3 fp') ci Ct) (he:∀cl C' s3 H3 fp',VE (aY (bA X Nc scope cs C s2 H2 fp) (bV own icap) isc cl C' s3 H3 fp') elt F)
  (hs:∀x,foldedSetIterable iter (bA X Nc scope cs C s2 H2 fp).env x=pure x:=by intro _;rfl):VE (bA X Nc scope cs C s2 H2 fp) (.ListComp elt [⟨tg,iter,[ci],0⟩] isc pos) (aAp own.length icap Fi G Ct F):=
 let⟨_,p,f⟩:=hi;⟨_,aQ6 fsc cf hfs hk ok hc p hg (λcl C' s3 H3 fp'=>(hC cl C' s3 H3 fp').can) (λcl C' s3 H3 fp'=>(he cl C' s3 H3 fp').can) hs,vD f hG⟩
end
def aUa(F:List U->(Sl->Prop)->Prop)(a:TV)(b:TVa):TV:=λρ R=>a ρ λs=>match s with
 |.ow [.v (.int _),.v (.int _),.v (.int _)]=>b ρ λus=>F (.wl::us) λs=>s.nw/\R s
 |_=>False
def aNo{x:Str}{F:List U->(Sl->Prop)->Prop}{es:List Expr}{Fa:TV}{G:TVa}{p pos:Pos}(C:Cal X.prog X.w X.K X.mg X.base CX0 k x ps (spV F))(hr:cW k X.A)(hg:Gl X x)
  (ha:VE X a Fa) (hb:VA X es G) (hdb:ND x:=by decide) (he:SE X a es:=by rfl) (hpl:BT X pos es:=by rfl):
  VE X (.Call (.Name x p) (a::es) [] pos) (aUa F Fa G):=
 let⟨_,p,f⟩:=ha;let⟨_,p',f'⟩:=hb;⟨_,aV0 C hr hg aB2 (cF p p' he) hdb he hpl,λ{W B ρ σ H R Q} e h q=>f e h λs v H1 h1 f1 r1=>by
  match s,h1,r1 with
  |.ow [.v (.int x),.v (.int y),.v (.int z)],h1,⟨p,xs,e1,n1,g2,dd⟩=>
   obtain⟨x1,_,rfl,d1,x2,_,rfl,d2,x3,r3,rfl,d3,d4⟩:=dd;obtain rfl:r3=[]:=d4;rw[d1.1,d2.1,d3.1]at g2;have nw:¬W p:=λz=>e.eb.dm p (e.eb.wb p z) n1;refine f' (e.more f1 n1 g2 trivial) h1 λus vs H2 h2 _ f2 d=>?_;have g3:=f2.fr p _ nw g2;have e2:=((e.more f1 n1 g2 trivial).to f2).eb;refine⟨λb=>W b∨b=p,λb=>B b∨b=p,.wl::us,_,⟨e2.bl,λq hq=>hq.imp (e.eb.wb q) id,λq hq=>hq.elim (e2.wo q) λz=>by rw[z];exact⟨_,_,_,g3⟩⟩,(by rw[Ax];exact⟨v,vs,rfl,⟨p,e1,.inr rfl⟩,DUs.wm (λ_=> .inl) us d⟩),h2,λs v H3 h3 f3 r3=>?_⟩;have f4:Fw W H H3:=⟨λb o w h=>f3.fr b o (λz=>z.elim w λy=>by rw[y,n1]at h;cases h) ((f1.trans f2).fr b o w h),λq hq=>f3.wo q (.inl hq)⟩;have mo:∀b o,¬(B b∨b=p)->H3 b=some o->¬B b/\H3 b=some o:=λb o n h=>⟨λz=>n (.inl z),h⟩;refine q _ _ _ h3.2 f4 ?_;match s,h3.1,r3 with
   |.sh u,n,r=>exact DU.nw u n (DU.mono mo u r)
   |.ow l,n,⟨c,ys,e3,m1,m2,m3⟩=>exact⟨c,ys,e3,(f1.trans f2).none_ m1,m2,DUs.nw l n (DUs.mono (λb o n h=>⟨λz=>n (z.imp .inl id),h⟩) l m3)⟩⟩
end
def tlO(n:Int)(us:List U):Own:=⟨λW B S H p=>∃q xs,(∀b,S b↔b=q)/\¬B p/\H p=some (.tup [.int n,.ref q])/\H q=some (.lst xs)/\DUs W B H us xs,
 λk e ⟨q,xs,s,n,h1,h2,d⟩=>⟨q,xs,s,(k _ _ n h1).1,(k _ _ n h1).2,(e _ ((s _).mpr rfl)).trans h2,DUs.mono k us d⟩,λk ⟨q,xs,s,n,h1,h2,d⟩=>⟨q,xs,s,n,h1,h2,DUs.wm k us d⟩,λ⟨q,xs,s,_,_,h2,_⟩ b hb=>by rw[(s b).mp hb];exact⟨_,h2,trivial⟩⟩
def vTl(F G:TV):TV:=λρ R=>F ρ λs=>∃n,s=.sh (.n n)/\G ρ λs'=>∃us,s'=.ow us/\R (.oo (tlO n us))
def aYg{a b:Expr}{x1}{pos:Pos}{F G:TV}(ha:VE X a F)(hb:VE X b G)(hs:starEach [a,b] X.env=(false,eval a X.env)::starEach [b] X.env:=by rfl)(hs2:SE X b []:=by rfl):VE X (.Tuple [a,b] x1 pos) (vTl F G):=
 let⟨_,p,f⟩:=ha;let⟨_,p',f'⟩:=hb;⟨_,aOv (cF p (cF p' eO hs2) hs),λ{W B ρ σ H R Q} e h q=>f e h λs v H1 h1 f1 r1=>by
  obtain⟨n,rfl,h1⟩:=h1;obtain⟨rfl,_⟩:=r1;refine f' (e.to f1) h1 λs' v' H2 h2 f2 r2=>?_;obtain⟨us,rfl,h2⟩:=h2;obtain⟨c,xs,rfl,nc,hc,d⟩:=r2;refine⟨by show 2<=sizeLine;decide,λp np=>?_⟩;have e2:=((e.to f1).to f2).eb;have f3:=e2.new (o:=.tup [.int n,.ref c]) np;have pc:p≠c:=λz=>by rw[z,hc]at np;cases np
  exact q _ _ _ h2 ((f1.trans f2).trans f3) ⟨p,(·=c),rfl,λb hb=>by rw[hb];exact f1.none_ nc,c,xs,λ_=>Mm,λz=>z.elim (e2.nw np) pc,aM,(aO pc.symm).trans hc,DUs.mono (λb o nb h=>⟨nb,(aO (aN h np)).trans h⟩) us d⟩⟩
def aW9(F:TV):TV:=λρ R=>F ρ λs=>∃n us,s=.oo (tlO n us)/\R (.sh (.tp [.n n,.ls us]))
def aRm{e:Expr}{F:TV}(h:VE X e F):VE X e (aW9 F):=
 let⟨t,p,f⟩:=h;⟨t,p,λ{W B ρ σ H R Q} ee h q=>f ee h λs v H1 h1 f1 r=>by
  obtain⟨n,us,rfl,h1⟩:=h1;obtain⟨p,S,rfl,fr,c,xs,s,np,g1,g2,d⟩:=r;exact q _ _ _ h1 f1 ⟨p,_,rfl,λz=>np (.inl z),g1,.int n,_,rfl,⟨rfl,rfl⟩,.ref c,_,rfl,⟨c,xs,rfl,ee.eb.nw (fr c ((s c).mpr rfl)),g2,DUs.mono (λb o nb h=>⟨λz=>nb (.inl z),h⟩) us d⟩,rfl⟩⟩
def bAl:U->U->(Sl->Prop)->Prop
 |.ls l,.v (.int k),R=>0<=k/\k<=1000/\l.length<=10/\R (.ow (Jk k.toNat l).flatten)
 |_,_,_=>False
def Sl.nwN:Sl->Prop
 |.sh u=>Nw u∨∃o:Opq,u=.op o/\∀{W W' B:Addr->Prop}{H:Hp}{v:V},o.φ W B H v->o.φ W' B H v
 |.ow l=>Nws l
 |.no=>True
 |_=>False
def aYh(i:Nat)(G:TVS):TVS:=λE ρ=>match (ρ[i]? :Option Sl)with
 |some (.ow [.v (.int _),.v (.int _),.v (.int _)])=>G {nx:=λρ'=>(∀j s,j≠i->ρ'[j]? =some s->s.nwN)/\E.nx (ρ'.set i .no),rt:=λs=>s.nw/\E.rt s} (ρ.set i (.sh .wl))
 |_=>False
open Classical in
def aKq{X:Cx}{st:List Stmt}{G:TVS}(i:Nat)(h:VSs X st G):VSs X st (aYh i G):=let⟨_,p,f⟩:=h;⟨_,p,λ{W B H0 A ρ σ H E D} o h j=>by
 unfold aYh at h;split at h
 ·rename_i a b c hi;obtain⟨q,xs,h1,h2,h3,h4⟩:=o.ow i _ hi;have ex:xs=[.int a,.int b,.int c]:=DUs.ints (ns:=[a,b,c]) h4;subst ex;have hq:=(h2 q).mpr rfl;have nq:H0 q=none:=o.an i q hq;have nB:¬B q:=o.now nq;have bx:∀b,Bx (λb=>B b∨b=q) (λj q=>j≠i/\A j q) b↔Bx B A b:=λb=>by
   constructor
   ·rintro((h|rfl)|⟨j,h⟩)
    ·exact .inl h
    ·exact .inr ⟨i,hq⟩
    ·exact .inr ⟨j,h.2⟩
   ·rintro(hb|⟨j,hb⟩)
    ·exact .inl (.inl hb)
    ·by_cases e:j=i
     ·rw[e]at hb;exact .inl (.inr ((h2 b).mp hb))
     ·exact .inr ⟨j,e,hb⟩
  have k:∀b x,¬Bx B A b->H b=some x->¬Bx (λb=>B b∨b=q) (λj q=>j≠i/\A j q) b/\H b=some x:=λb x n h=>⟨λz=>n ((bx b).mp z),h⟩;have own:∀b,B b->¬ ∃j,j≠i/\A j b:=λb hb ⟨j,_,h⟩=>o.now (o.an j b h) hb;have ownq:¬ ∃j,j≠i/\A j q:=λ⟨j,n,h⟩=>n (o.inj j i q h hq);let H2:Hp:=λb=>if∃j,j≠i/\A j b then none else H b
  have hH2:∀b x,H2 b=some x->H b=some x:=λb x h=>by
   have h:(if∃j,j≠i/\A j b then none else H b)=some x:=h;split at h
   ·cases h
   ·exact h
  have hH:∀b,(¬ ∃j,j≠i/\A j b)->H2 b=H b:=λb n=>if_neg n;have e0:=o.ee.eb;have Wl:∀p,(W p∨p=q)->Wll H p:=λp hp=>hp.elim (o.fw.wo p) λe=>⟨a,b,c,by rw[e];exact h3⟩;have wq:∀p,(W p∨p=q)->¬ ∃j,j≠i/\A j p:=λp hp=>hp.elim (λw=>own p (o.eb.wb p w)) λe=>by rw[e];exact ownq
  have o2:EO (λp=>W p∨p=q) (λb=>B b∨b=q) H2 (λj q=>j≠i/\A j q) (ρ.set i (.sh .wl)) σ H:=by
   refine⟨⟨λp hp=>?_,λp hp=>hp.elim (λw=> .inl (o.eb.wb p w)) .inr,λp hp=>?_⟩,⟨λb x _ h=>hH2 b x h,Wl⟩,by rw[Cu,o.len],λj p h=>if_pos ⟨j,h⟩,λj p h=>o.aw j p h.2,λj j' p h h'=>o.inj j j' p h.2 h'.2,λj u h=>?_,λj m w h hm=>?_,λj m h=>?_⟩
   ·rcases hp with hp|hp
    ·obtain⟨xs,e,m⟩:=e0.bl p (.inl hp);exact⟨xs,(hH p (own p hp)).trans e,m⟩
    ·exact⟨.lst _,(hH p (wq p (.inr hp))).trans (by rw[hp];exact h3),trivial⟩
   ·obtain⟨x,y,z,e⟩:=Wl p hp;exact⟨x,y,z,(hH p (wq p hp)).trans e⟩
   ·rcases cC h with ⟨rfl,e,hl⟩|⟨ne,h⟩
    ·cases e;exact⟨_,h1,q,rfl,.inr rfl⟩
    ·obtain⟨v',g1,g2⟩:=o.sh j u h;exact⟨v',g1,DU.wm (λ_=> .inl) u (DU.mono k u g2)⟩
   ·rcases cC h with ⟨rfl,rfl,hl⟩|⟨ne,h⟩
    ·cases hm
    ·obtain⟨p,g1,g3⟩:=o.hd j m w h hm;exact⟨p,g1,w.at_ (w.wm (λ_=> .inl) (w.mono k (λ_ _=>rfl) g3)) (aDp ne)⟩
   ·rcases cC h with ⟨rfl,rfl,hl⟩|⟨ne,h⟩
    ·rfl
    ·exact o.nb j m h
  have keep:∀b x,H0 b=some x->H b=some x->H2 b=some x:=λb x h0 h=>(hH b λ⟨j,_,e⟩=>by rw[o.an j b e]at h0;cases h0).trans h;have fW:∀{Hf},Fw (λp=>W p∨p=q) H2 Hf->Fw W H0 Hf:=λfw=>⟨λb x w h0=>fw.fr b x (λz=>z.elim w λe=>by rw[e,nq]at h0;cases h0) (keep b x h0 (o.fw.fr b x w h0)),λp hp=>fw.wo p (.inl hp)⟩;have back:∀p,H2 p=none->H0 p=none:=λp' e2=>by
   cases z:H0 p' with
   |none=>rfl
   |some x=>
    by_cases w:W p'
    ·obtain⟨_,_,_,y⟩:=o2.eb.wo p' (.inl w);rw[y]at e2;cases e2
    ·rw[keep p' x z (o.fw.fr p' x w z)]at e2;cases e2
  refine f o2 h ⟨λ{A1 ρ1 σ1 Hf} o1 ⟨hn,hE⟩=>?_,λ_ z=>z.elim,λ_ z=>z.elim,λ{s v Hf} fw r hs=>?_,λ_ _ z=>z.elim⟩
  ·have bx:∀b,¬Bx (λb=>B b∨b=q) A1 b->¬Bx B (λj p=>j≠i/\A1 j p) b:=λb n z=>n (z.elim (λz=> .inl (.inl z)) λ⟨j,z⟩=> .inr ⟨j,z.2⟩);have kk:∀b x,¬Bx (λb=>B b∨b=q) A1 b->Hf b=some x->¬Bx B (λj p=>j≠i/\A1 j p) b/\Hf b=some x:=λb x n h=>⟨bx b n,h⟩;refine j.nx (A:=λj p=>j≠i/\A1 j p) ⟨o.eb,fW o1.fw,by rw[Cu,o1.len],λj p h=>back p (o1.an j p h.2),λj p h=>o1.aw j p h.2,λj j' p h h'=>o1.inj j j' p h.2 h'.2,λj u h=>?_,λj m w h hm=>?_,λj m h=>?_⟩ hE
   ·rcases cC h with ⟨_,e,_⟩|⟨ne,h⟩
    ·cases e
    ·obtain⟨v,g1,g2⟩:=o1.sh j u h;refine⟨v,g1,?_⟩;rcases hn j _ ne h with n|⟨oo,rfl,n⟩
     ·exact DU.nw u n (DU.mono kk u g2)
     ·exact n (oo.mono kk g2)
   ·rcases cC h with ⟨_,rfl,_⟩|⟨ne,h⟩
    ·cases hm
    ·have n:=hn j _ ne h;obtain⟨p,g1,g3⟩:=o1.hd j m w h hm;refine⟨p,g1,?_⟩;cases m with
     |ow l=>
      cases hm;obtain⟨s,xs,h5,d⟩:=g3;exact⟨λb=>⟨λz=>(s b).mp z.2,λz=>⟨ne,(s b).mpr z⟩⟩,xs,h5,DUs.nw l n (DUs.mono kk l d)⟩
     |_=>first|exact n.elim|cases hm
   ·rcases cC h with ⟨_,rfl,_⟩|⟨ne,h⟩
    ·rfl
    ·exact o1.nb j m h
  have kb:∀b x,¬(B b∨b=q)->Hf b=some x->¬B b/\Hf b=some x:=λb x n h=>⟨λz=>n (.inl z),h⟩;refine j.rt (fW fw) ?_ hs.2;match s,r,hs.1 with
  |.sh u,r,n=>exact DU.nw u n (DU.mono kb u r)
  |.ow l,⟨p',ys,e1,e2,e3,e4⟩,n=>exact⟨p',ys,e1,back p' e2,e3,DUs.nw l n (DUs.mono (λb x n h=>⟨λz=>n (z.elim (λz=> .inl (.inl z)) .inr),h⟩) l e4)⟩
 ·exact h.elim⟩
section
open PySem.Builtin.Dict
variable {prog:Program}{w:World}{A:Around}{E:#v[7]}{s:Shared}{K:Type} [DecidableEq K]{knd:HeapKind prog w K}
theorem aN9{α β:Type} [DecidableEq β]{f:α->β}{c:β}:∀{l:List α},(l.map f).Nodup->(l.filter λy=>f y==c).length<=1
 | [],_=>Bd _
 |a::l,h=>by
  rw[Bo,Ko]at h;by_cases e:f a=c
  ·rw[Jz (by simpa using e),Am,List.filter_eq_nil_iff.mpr λy hy z=>h.1 (List.mem_map.mpr ⟨y,hy,by rw[e];simpa using z⟩)];exact Ak _
  ·rw[Ka (by simpa using e)];exact aN9 h.2
def aE3{id:String}{d:Addr}{xs:List (K×Addr×Value)}{o:Obj}{es ep}{Q:Array DictEntry->Shared->Prop}(ho:s.heap.get? d=some o)(hd:o.data=.dict es ep)(he:es.toList=xs.map (entryOfKey knd))(hq:∀x∈xs,∃ob,s.heap.get? x.2.1=some ob/\ob.cls=.type "tuple")(hn:(xs.map λx=>knd.hash x.1).Nodup)(h:Q es s):
  #v[4] (entriesForEmpty id d) Q E s:=by
 unfold entriesForEmpty;refine Aa (Cy ho hd (Aa ?_));rw[<-Ek];refine Ed _ (λrest _ s'=>s'=s/\∀e∈rest,e∈es.toList) _ ?_ ?_ _ _ ⟨rfl,λe he=>he⟩
 ·rintro e rest _ s' ⟨rfl,hr⟩;obtain⟨x,hx,rfl⟩:=List.mem_map.mp (by rw[<-he];exact hr e Ah);obtain⟨ob,g1,g2⟩:=hq x hx;have q:∀{Q':Bool->Shared->Prop},Q' false s'->#v[4] (quietEq (entryOfKey knd x).key) Q' E s':=λ{Q'} h=>by
   show wpAny _ _ (specialOf (.ref x.2.1) "__eq__">>=_) _ _ _;refine Aa (Em ⟨ob,g1,g2⟩ PySem.F.slot_tuple_eq.lookup (Ac ?_));exact h
  refine Aa (q ?_);rw[if_pos (by rfl),if_neg]
  ·exact Ac ⟨rfl,λe he=>hr e (Af _ he)⟩
  ·rw[<-Aq,Array.toList_filter,he,List.filter_map,Ab];have:=aN9 (f:=λy:K×Addr×Value=>knd.hash y.1) (c:=knd.hash x.1) hn;exact Nat.not_lt.mpr this
 ·rintro _ s' ⟨rfl,_⟩;exact Ac h
def aA3{d:Addr}{xs:List (K×Addr×Value)}{Q:#v[7]}(lo:(d==sysModules)=false)(hm:s.heap.DictOfH knd d xs)(hq:∀x∈xs,∃ob,s.heap.get? x.2.1=some ob/\ob.cls=.type "tuple")(hn:(xs.map λx=>knd.hash x.1).Nodup)(hz:xs.length<=sizeLine)
  (h:∀h' o es ep,h'.get? #v[0]=some o->o.ExactDict->o.data=.dict es ep->es.toList=xs.map (entryOfKey knd)->(∀b o,s.heap.get? b=some o->h'.get? b=some o)->Q (.ref #v[0]) {s with heap:=h'}):
  #v[4] (call (.type "dict") [.ref d]) Q E s:=by
 obtain⟨o,es,ep,h1,h2,h3,h4,h5,h6⟩:=id hm;have lt:d<#v[0]:=Ap h1;refine callType_codes (Q₁:=λobj s₁=>obj=.ref #v[0]/\s₁={s with heap:=s.heap.push #v[8]}) Uo (Rn _) Tu (Vq _ ⟨rfl,rfl⟩) ?_;rintro obj s₁ ⟨rfl,rfl⟩;have hnew:(s.heap.push #v[8]).DictOfH knd #v[0] []:=Ot s.heap;have kp:∀b o,s.heap.get? b=some o->(s.heap.push #v[8]).get? b=some o:=λb o e=>Ad _ e;have g1:=kp d o h1;have hT:Js {s with heap:=s.heap.push #v[8]} (.ref d) "dict":=⟨_,g1,h2.1⟩;have n1:(s.heap.push #v[8]).get? #v[0]=some #v[8]:=Al _ rfl;refine⟨hnew.typeIs,Sx _ _,?_⟩;unfold Builtin.«dict.__init__»;refine Aa ?_;unfold Ma;refine Aa (Gn hnew.typeIs ?_);show wpAny _ _ (pure (#v[0],[Aj d])) _ _ _;refine Ac ?_;show wpAny _ _ (Gk "dict.__init__" #v[0] (.ref d) [] .none) _ _ _;unfold Gk;refine Aa (Hj hT ?_);rw[if_neg (by simp)];generalize hH:s.heap.push #v[8]=H1 at*;unfold Wu Wq;refine Aa (Aa (Aa (Ec hT PySem.F.sub_dict_dict ?_)));rw[if_neg (by simp)];refine Aa (Em hT PySem.F.slot_dict_iter.lookup (Ac ?_));rw[if_pos (by rfl)];refine Aa (Ac ?_);unfold Wt showsAll;rw[if_neg (by simpa using λz:#v[0]=d=>Dw d (z▸lt)),lo];refine Aa (Ac (Aa (Cy g1 h3 ?_)));dsimp only;cases xs with
 |nil=>
  obtain rfl:es= #[]:=Array.toList_inj.mp h4;rw[if_neg (by simp)];refine Aa (Gp g1 h3 (Aa (Cy g1 h3 ?_)));rw[Sr];exact Aa (Ac (Ac (Aa (Ac (Ac ⟨rfl,h _ _ _ _ n1 ⟨rfl,rfl,rfl⟩ rfl rfl kp⟩)))))
 |cons x xs=>
  have al:(es.all λe=>(keyPart e.key).isSome)=false:=by
   rw[<-Array.all_toList,h4];rfl
  rw[al,Gs,if_pos (by rfl)];refine Aa (Cy n1 rfl ?_);rw[if_pos (by rfl)];refine Aa (aE3 g1 h3 h4 (λx hx=>let⟨ob,a,b⟩:=hq x hx;⟨ob,kp _ _ a,b⟩) hn ?_);have ne:es.isEmpty=false:=by
   have:0<es.size:=by rw[<-Aq,h4];exact Nat.zero_lt_succ _
   simp[Tw];intro z;rw[z]at this;cases this
  rw[ne,if_pos (by rfl)];have sz:es.size<=sizeLine+1:=by rw[<-Aq,h4,Ab];lia
  refine Aa (wpAny_updateDictKeysTo n1 rfl (Ac (Aa (Ac (Ac ⟨rfl,?_⟩)))) sz);have u1:=Bj (Kw λ_=>es) n1 (Qy (Io rfl _));refine h _ _ _ _ u1 ((show Obj.ExactDict #v[8]from⟨rfl,rfl,rfl⟩).mapDictKeys _) (Io rfl _) h4 λb o e=>?_;rw[Cj _ _ (λz=>by rw[<-z]at e;exact Dw _ (Ap e))];exact kp b o e
end
section
open PySem.Builtin.Dict
variable {X:Cx}{P:Program}{w:World}
def aHc(hc:X.calm=true):dY X (.type "dict") (λxs H Q=>∃a ps,xs=[V.ref a]/\H a=some (.ext (bN X.prog X.w a ps))/\(∀x∈ps,PKy H (x.1,x.2.1))/\(ps.map λx=>(bM (intKind X.prog X.w)).hash x.1).Nodup/\ps.length<=sizeLine/\∀l,H l=none->Q (.ref l) (upd H l (.ext (bN X.prog X.w l ps)))):=by
 intro pins s σ H xs us Q I r h;obtain⟨a,ps,rfl,h1,h2,hn,hz,q⟩:=h;obtain⟨u,rfl,ru⟩:=vals1 r;cases ru;obtain⟨lo,dd⟩:=pM I.hok h1 h2;have nd:=dd;obtain⟨_,_,_,_,_,_,_,h5,h6⟩:=nd;refine aA3 lo dd (λx hx=>?_) hn hz λh' o es ep g1 g2 g3 g4 kp=>?_
 ·obtain⟨o,v,b,n,e1,e2,_⟩:=h5 x hx;exact⟨o,e1,e2⟩
 ·have hp:bN X.prog X.w #v[0] ps h':=⟨beq_eq_false_iff_ne.mpr (Cg (Ar I.big)),o,es,ep,g1,g2,g3,g4,h6⟩;have ok:bR X.prog X.w (upd H #v[0] (.ext (bN X.prog X.w #v[0] ps))) h' #v[0] (.ext (bN X.prog X.w #v[0] ps)):=⟨hp,⟨o,g1⟩,λh1 h2 p k=>bN.stay h1 h2 p k⟩;exact⟨.ref #v[0],_,I.laid (a:=#v[0]) (o:=.ext (bN X.prog X.w #v[0] ps)) (t':=s.toks) kp (Ak _) ok,rfl,q _ (I.hok.fresh (Ak _))⟩
def aU6(P:Program)(w:World)(F:TV):TV:=λρ R=>F ρ λs=>∃kvs,aG5 P w s kvs/\((kvs.map (·.1)).map (bM (intKind P w)).hash).Nodup/\kvs.length<=10000/\R (.oo (pdO P w kvs))
def aEp{p pos:Pos}{F:TV}(hP:X.prog=P)(hw:X.w=w)(hc:X.calm=true)(hm:X.mg "dict"=none)(ha:VE X a F)(hg:Gl X "dict":=by rfl)(hs:SE X a []:=by rfl)(hpl:BT X pos []:=by rfl):VE X (.Call (.Name "dict" p) [a] [] pos) (aU6 P w F):=by
 subst hP hw;obtain⟨_,p,f⟩:=ha;refine⟨_,iB (aHc hc) hg hm boot_dict (cF p eO hs) ⋯ ⋯ hs hpl,λ{W B ρ σ H R Q} e h q=>f e h λs v H1 h1 w1 r1=>?_⟩;obtain⟨kvs,hs,hn,hl,h2⟩:=h1;obtain⟨a,xs,rfl,g1,g2⟩:=r1.pd hs;have e1:=e.to w1;refine⟨a,xs,rfl,g1,λx hx=>uQ (g2.keys.2 x hx),by rw[<-g2.keys.1,Az]at hn;exact hn,by rw[g2.len];exact Ba hl ⋯,λl nl=>q _ _ _ h2 (w1.trans (e1.eb.new nl)) (RO.back (s:=.oo _) w1 ⟨l,(·=l),rfl,λb hb=>by rw[hb];exact nl,λ_=>Mm,xs,aM,g2.mono λb o nb h=>?_⟩)⟩;exact⟨λz=>z.elim nb (aN h nl),(e1.eb.keep (e1.eb.new nl) b o nb h).2⟩
end
def NdR(W B:Addr->Prop)(H:Hp)(f:Int->Option U)(kvs:List (Key×V)):Prop:=∀i:Int,(f i=none/\nD kvs (.inl i)=none)∨∃u v,f i=some u/\nD kvs (.inl i)=some v/\DU W B H u v
def ndO(f:Int->Option U)(n:Nat):Own:=⟨λW B S H p=>(∀b,S b↔b=p)/\∃kvs,H p=some (.dK kvs)/\kvs.length<=n/\NdR W B H f kvs,
 λk e ⟨s,kvs,h,l,r⟩=>⟨s,kvs,(e _ ((s _).mpr rfl)).trans h,l,λi=>(r i).imp id λ⟨u,v,a,b,d⟩=>⟨u,v,a,b,DU.mono k u d⟩⟩,λk ⟨s,kvs,h,l,r⟩=>⟨s,kvs,h,l,λi=>(r i).imp id λ⟨u,v,a,b,d⟩=>⟨u,v,a,b,DU.wm k u d⟩⟩,
 λ⟨s,_,h,_⟩ b hb=>by rw[(s b).mp hb];exact⟨_,h,trivial⟩⟩
def aYl:TV:=λ_ R=>R (.oo (ndO (λ_=>none) 0))
def aYm(F G:TV):TV:=λρ R=>F ρ λs=>∃f n,s=.bo (ndO f n)/\G ρ λs'=>∃i,s'.rd=.n i/\R (.sh ((f i).getD .no))
def aXe(j:Nat)(Fk Fv:TV):TVS:=λE ρ=>Fv ρ λs=>s.es λu=>∃f n,ρ[j]? =some (.oo (ndO f n))/\n<10000/\Fk ρ λs'=>∃i,s'.rd=.n i/\E.nx (ρ.set j (.oo (ndO (λz=>if z=i then some u else f z) (n+1))))
def aPm{pos:Pos}:VE X (.Dict [] [] pos) aYl:=⟨_,aOn,λ{W B ρ σ H R Q} e h q p n=>q _ _ _ h (e.eb.new n) ⟨p,(·=p),rfl,λb hb=>by rw[hb];exact n,λ_=>Mm,[],aM,Ak _,λ_=> .inl ⟨rfl,rfl⟩⟩⟩
def aIm{o a:Expr}{apos cpos:Pos}{F G:TV}(hr:cW k X.A)(ho:VE X o F)(ha:VE X a G)(hbase:attributeBase o "get" X.env (eval o X.env)=eval o X.env:=by rfl)
  (hfew:((backTo cpos (starEach [a] X.env)).all (λx=> !x.1) && (backToKw cpos (keywordEach [] X.env)).all (λx=>x.1.isSome)
   && decide (([a]:List Expr).length+([]:List Keyword).length+(if([]:List Keyword).isEmpty then 0 else 1)<30))=true:=by rfl)
  (hline:EL apos cpos:=by rfl) (htr:backTo cpos (starEach [a] X.env)=[(false,eval a X.env)]:=by rfl):VE X (.Call (.Attribute o "get" apos) [a] [] cpos) (aYm F G):=by
 obtain⟨_,p,f⟩:=ho;obtain⟨_,p1,f1⟩:=ha;refine⟨_,aM9 (by have:=hr.un;lia) p p1 ⟨hbase,hfew,hline,htr⟩,λ{W B ρ σ H R Q} e h q=>f e h λs v H1 h1 w1 r1=>?_⟩;have e1:=e.to w1;obtain⟨g,n,rfl,h1⟩:=h1;obtain⟨a,S,rfl,nw,φ⟩:=r1;have φ0:=φ;obtain⟨_,kvs0,k0,_⟩:=φ0;refine⟨a,rfl,.inl ⟨kvs0,.inl k0⟩,f1 e1 h1 λs' v' H2 h2 w2 r2=>?_⟩;obtain⟨i,ei,h2⟩:=h2;obtain⟨_,kvs,k1,_,k2⟩:=(ndO g n).mono (e1.eb.keep w2) (λb hb=>let⟨y,hy,_⟩:=(ndO g n).th φ b hb;(w2.fr b y (nw b hb) hy).trans hy.symm) φ;have d:=r2.db e1.eb;rw[ei]at d;obtain rfl:v'=.int i:=d.elim (λd=>d.1) λ⟨_,_,_,e1,_⟩=>nomatch e1
 refine⟨_,aO2.k (k:=.inl i) k1,?_⟩;rcases k2 i with ⟨a1,a2⟩|⟨u,v,a1,a2,a3⟩
 ·rw[a2];rw[a1]at h2;exact q _ _ _ h2 (w1.trans w2) ⟨rfl,rfl⟩
 ·rw[a2];rw[a1]at h2;exact q _ _ _ h2 (w1.trans w2) a3
def aPr{x:Str}{i value:Expr}{pos pos' p':Pos}{Fk Fv:TV}(j:Nat)(hr:cW k X.A)(hk:VE X i Fk)(hv:VE X value Fv)(hN:X.N[j]? =some x:=by rfl)(hvs:Vis X.env.scope x:=by trivial)(hd:ND x:=by decide)
  (hcd:NC x:=by decide) (hs:swapsWith value (some (.Subscript (.Name x p') i pos')) pos.line X.env=pure false:=by rfl):VS X (.Assign [.Subscript (.Name x p') i pos'] value pos) (aXe j Fk Fv):=by
 obtain⟨_,p1,f1⟩:=hk;obtain⟨_,p2,f2⟩:=hv;refine⟨_,aP6 (by have:=hr.un;lia) (pR hN hvs hd hcd) p1 p2 hs,λ{W B H0 A ρ σ H E D} o h jj=>f2 o.ee h λsv v H1 h1 w1 r1=>?_⟩;obtain⟨u,⟨f,n,hj,hl,h2⟩,dv⟩:=r1.du o.ee.eb h1;have o1:=o.to w1;obtain⟨q,g1,g2,_⟩:=o1.hd j _ _ hj rfl;refine⟨_,g1,f1 o1.ee h2 λsk y H3 h3 w3 r3=>?_⟩;obtain⟨i,ei,h4⟩:=h3;have o3:=o1.to w3;obtain⟨q',g4,_,kvs,g5,g6,g7⟩:=o3.hd j _ _ hj rfl;rw[g1]at g4;cases g4;have d:=r3.db o1.ee.eb;rw[ei]at d;obtain rfl:y=.int i:=d.elim (λd=>d.1) λ⟨_,_,_,e1,_⟩=>nomatch e1
 refine⟨q,_,rfl,aL2.k (k:=.inl i) g5 (Rm g6 (Jj hl ⋯)),jj.nx (o3.chg g1 ((g2 q).mpr rfl) (s':=.oo (ndO (λz=>if z=i then some u else f z) (n+1))) rfl rfl ⟨g2,_,aM,Ba (sW ..) ∅,λz=>?_⟩) h4⟩;have kk:∀b y,¬Bx B A b->H3 b=some y->¬Bx B A b/\upd H3 q (.dK (putK kvs (.inl i) v)) b=some y:=λb y n h=>⟨n,(aO (λz:b=q=>n (by rw[z];exact .inr ⟨j,(g2 q).mpr rfl⟩))).trans h⟩;show((if z=i then some u else f z)=none/\_)∨∃u_1 v_1,(if z=i then some u else f z)=some u_1/\_;rw[aLl];by_cases e:z=i
 ·subst e;exact .inr ⟨u,v,if_pos rfl,if_pos rfl,DU.mono kk u (DU.mono (o1.ee.eb.keep w3) u dv)⟩
 ·rw[if_neg e,if_neg λh=>e (Tj h)];exact(g7 z).imp id λ⟨u,v,a,b,d⟩=>⟨u,v,a,b,DU.mono kk u d⟩
inductive aKb(H:Hp):List V->List (Tke×Addr×V)->Prop
 |nil:aKb H [] []
 |cons {vs:List V} {r:List (Tke×Addr×V)} {k:Tke} {c p:Addr} {v:V}:H p=some (.tup [.ref c,v])->PKy H (k,c)->aKb H vs r->aKb H (.ref p::vs) ((k,c,v)::r)
inductive aKy:List (Tke×Addr×V)->#v[13]->Prop
 |nil:aKy [] []
 |cons {k:Tke} {c:Addr} {v:V} {x:Value} {r:List (Tke×Addr×V)} {s:#v[13]}:RelV v x->aKy r s->aKy ((k,c,v)::r) ((k,c,x)::s)
def aJr{P:Program}{w:World}{H:Hp}{h:Heap}(hok:HOk P w H h){zs:List (Tke×Addr×V)}{its:List Value}(t:aKb H vs zs)(rv:Vals vs its):
  ∃ws,aKy zs ws/\ws.map (·.1)=zs.map (·.1)/\ws.length=its.length/\(∀x∈ws,PKy H (x.1,x.2.1))/\∀(i:Nat)(v:Value),its[i]? =some v->∃x p,ws[i]? =some x/\v=.ref p/\h.TwoAt p (.ref x.2.1) x.2.2:=by
 induction t generalizing its with
 |nil=>
  cases rv;exact⟨[],.nil,rfl,rfl,nofun,λi v e=>by simp at e⟩
 |@cons vs r k c p v e1 e2 t ih=>
  cases rv with
  |@cons _ u _ _ ru rs=>
   obtain⟨ws,h1,h5,h2,h4,h3⟩:=ih rs;obtain rfl:u=Aj p:=ru;obtain⟨_,its,ri,o,g1,g2,n,g3⟩:=(show bR P w H h p (.tup [.ref c,v])from hok p _ e1);obtain⟨v1,v2,rfl,r1,r2⟩:=vals2 ri;obtain rfl:v1=Aj c:=r1;refine⟨(k,c,v2)::ws,.cons r2 h1,congrArg (k::·) h5,congrArg (·+1) h2,λx hx=>(List.mem_cons.mp hx).elim (λz=>z▸e2) (h4 x),λi v e=>?_⟩;cases i with
   |zero=>
    obtain rfl:Aj p=v:=by simpa using e
    exact⟨_,p,rfl,rfl,o,n,g1,g2,g3⟩
   |succ i=>exact h3 i v (by simpa using e)
def aQn{W B:Addr->Prop}{H:Hp}{kvs:List (Tke×U)}(d:DUs W B H (kvs.map λp=>U.tp [tkU p.1,p.2]) vs):∃zs,aKb H vs zs/\zs.map (·.1)=kvs.map (·.1)/\∀ws,aKy zs ws->PdR W B H kvs ws:=by
 induction kvs generalizing vs with
 |nil=>
  obtain rfl:vs=[]:=d;exact⟨[],.nil,rfl,λws h=>by cases h;exact .nil⟩
 |cons k ks ih=>
  obtain⟨v,r,rfl,d,t⟩:=d;obtain⟨zs,h1,h2,h3⟩:=ih t;obtain⟨p,ys,rfl,nb,hp,y1,_,rfl,d1,y2,r2,rfl,d2,e3⟩:=d;obtain rfl:r2=[]:=e3;obtain⟨b,rfl,kb⟩:=tK d1;exact⟨(k.1,b,y2)::zs,.cons hp kb h1,by rw[Bo,Bo,h2],λws h=>by cases h with|cons rv t=>exact .cons d1 rv d2 (h3 _ t)⟩
inductive aIx(P:Program)(w:World)(xs:List V)(H:Hp)(Q:VK):Prop
 |mk (l vs zs:_) (q0_:xs=[.ref l]) (q1_:H l=some (.lst vs)) (q2_:aKb H vs zs) (q3_:(zs.map (·.1)).Nodup) (q4_:∀ws,aKy zs ws->∀d,H d=none->Q (.ref d) (upd H d (.ext (bN P w d ws)))):aIx P w xs H Q
def aWh(P:Program)(w:World):List V->Hp->VK->Prop:=λxs H Q=>aIx P w xs H Q
def aGv{X:Cx}(hc:X.calm=true)(hu:X.A.units+4<cLine):dY X (.type "dict") (aWh X.prog X.w):=by
 intro pins s σ H xs us Q I r h;obtain⟨l,vs,zs,rfl,hl,hp,nd,q⟩:=h;obtain⟨u,rfl,ru⟩:=vals1 r;obtain rfl:u=Aj l:=ru;obtain⟨z,its,n,rv,hg⟩:=(show bR X.prog X.w H s.heap l (.lst vs)from I.hok l _ hl);obtain⟨ws,h0,h5,h2,h1,h3⟩:=aJr I.hok hp rv;have lz:its.length<=sizeLine:=by rw[<-rv.length];exact z
 refine yX (knd:=bM (intKind X.prog X.w)) (I.ok.hd hc) hg (show X.A.in1.in1.units+1<cLine by show X.A.units+1+1+1<cLine;lia) (λh' x a e k=>aPn e k) ws (by rw[h2,Ai]) (by rw[Ai];exact lz) (λx hx=>gK I.hok (h1 x hx)) (λi v e=>h3 i v (by simpa using e)) λh' tk hd hk'=>?_;rw[aF4 _ ws rfl (by rw[h5];exact nd)]at hd;obtain⟨o,es,ep,g1,g2,g3,g4,g5⟩:=hd;have hpo:bN X.prog X.w #v[0] ws h':=⟨beq_eq_false_iff_ne.mpr (Cg (Ar I.big)),o,es,ep,g1,g2,g3,g4,g5⟩;have ok:bR X.prog X.w (upd H #v[0] (.ext (bN X.prog X.w #v[0] ws))) h' #v[0] (.ext (bN X.prog X.w #v[0] ws)):=⟨hpo,⟨o,g1⟩,λa b p k=>bN.stay a b p k⟩;exact⟨.ref #v[0],_,I.laid (a:=#v[0]) (o:=.ext (bN X.prog X.w #v[0] ws)) (t':=tk) hk' (Ak _) ok,rfl,q _ h0 _ (I.hok.fresh (Ak _))⟩
def aZ8(P:Program)(w:World)(F:TV):TV:=λρ R=>F ρ λs=>∃kvs:List (Tke×U),s.rd=.ls (kvs.map λp=> .tp [tkU p.1,p.2])/\(kvs.map (·.1)).Nodup/\R (.oo (pdO P w kvs))
def aGs{X:Cx}{P:Program}{w:World}{p pos:Pos}{F:TV}(hP:X.prog=P)(hw:X.w=w)(hr:cW k X.A)(hc:X.calm=true)(hm:X.mg "dict"=none)(ha:VE X a F)(hg:Gl X "dict":=by rfl)(hs:SE X a []:=by rfl)(hpl:BT X pos []:=by rfl):VE X (.Call (.Name "dict" p) [a] [] pos) (aZ8 P w F):=by
 subst hP hw;obtain⟨_,p,f⟩:=ha;refine⟨_,iB (aGv hc (by have:=hr.un;lia)) hg hm boot_dict (cF p eO hs) ⋯ ⋯ hs hpl,λ{W B ρ σ H R Q} e h q=>f e h λs v H1 h1 w1 r1=>?_⟩;obtain⟨kvs,es,nd,h2⟩:=h1;have e1:=e.to w1;have d:=r1.db e.eb;rw[es]at d;obtain⟨p,xs,rfl,hp,ds⟩:∃p xs,v=.ref p/\H1 p=some (.lst xs)/\DUs W B H1 (kvs.map λp=>U.tp [tkU p.1,p.2]) xs:=d.elim (λ⟨p,xs,a,_,b,c⟩=>⟨p,xs,a,b,c⟩) λ⟨l',p,xs,e1,a,_,b,c⟩=>by cases e1;exact⟨p,xs,a,b,c⟩
 obtain⟨zs,t1,t2,t3⟩:=aQn ds;exact⟨p,xs,zs,rfl,hp,t1,by rw[t2];exact nd,λws rw l nl=>q _ _ _ h2 (w1.trans (e1.eb.new nl)) (RO.back (s:=.oo _) w1 ⟨l,(·=l),rfl,λb hb=>by rw[hb];exact nl,λ_=>Mm,ws,aM,(t3 ws rw).mono λb o nb h=>⟨λz=>z.elim nb (aN h nl),(e1.eb.keep (e1.eb.new nl) b o nb h).2⟩⟩)⟩
end L2
namespace KR
open PySem PyProof.Rows L2
inductive Tm where
 |num (n:Int)
 |take (b:Int) (ss:List Int)
 |bin (k:Bool) (a b:Tm)
abbrev Tk:Type:=Int×List Int
structure Cn where
 num:Addr
 take:Addr
 bin:Bool->Addr
def cls(N:Cn):Tm->Addr
 |.num _=>N.num
 |.take _ _=>N.take
 |.bin k _ _=>N.bin k
def IsC(N:Cn)(C:Addr):Prop:=C=N.num∨C=N.take∨∃k,C=N.bin k
def isC(N:Cn)(t:Tm):IsC N (cls N t):=by
 cases t with
 |num=>exact .inl rfl
 |take=>exact .inr (.inl rfl)
 |bin k=>exact .inr (.inr ⟨k,rfl⟩)
def kids:Tm->List Tm
 |.num _=>[]
 |.take _ _=>[]
 |.bin _ a b=>[a,b]
def ht:Tm->Nat
 |.num _=>1
 |.take _ _=>1
 |.bin _ a b=>max (ht a) (ht b)+1
def rJ:Tm->Nat
 |.num _=>1
 |.take _ _=>1
 |.bin _ a b=>1+(rJ a+rJ b)
def raw:Tm->List Tk
 |.num _=>[]
 |.take b ss=>[(b,ss)]
 |.bin _ a b=>raw a++raw b
def aDq(t:Tm):0<ht t:=by cases t<;>exact Mo _
theorem aUx{t k:Tm}(h:k∈kids t):ht k<ht t:=by cases t<;>grind [kids,ht]
def zM(t:Tm):(kids t).length<=3:=by cases t<;>simp[kids]
theorem aIp{t k:Tm}(h:k∈kids t)(x:Tk)(hx:x∈raw k):x∈raw t:=by cases t<;>grind [kids,raw]
def vL(t:Tm)(l:List Tk):Prop:=l.Pairwise (λx y=>gU x y=true)/\∀x,x∈l↔x∈raw t
def aB5{x y:Tk}(h:gU x y=true):gU y x=false:=by
 unfold gU at h⊢;by_cases e:x.1=y.1
 ·rw[if_pos e]at h;rw[if_pos e.symm];exact aCq _ _ h
 ·rw[if_neg e,decide_eq_true_iff]at h;rw[if_neg (Cg e),decide_eq_false_iff_not]
  lia
def aBh(x:Tk):Prop:=1<=x.1/\x.1<=3/\∀s∈x.2, -9<=s/\s<=9
def Wf:Tm->Prop
 |.num n=> -1000000000000<=n/\n<=1000000000000
 |.take _ _=>True
 |.bin _ a b=>Wf a/\Wf b
theorem aUf{t k:Tm}(h:k∈kids t)(w:Wf t):Wf k:=by cases t<;>grind [kids,Wf]
def aHu(t:Tm):Prop:=Wf t/\∀x∈raw t,aBh x/\1<=x.2.length/\x.2.length<=3
def aHu.kid{t k:Tm}(h:k∈kids t)(a:aHu t):aHu k:=⟨aUf h a.1,λx hx=>a.2 x (aIp h x hx)⟩
end KR
namespace Q
variable {ns:List Int}{n:Nat}{us:List Value}{ys:List Tk}{ps:List Str}{l:List Tk}{kvs:List (Tke×U)}{x q:Str}{t:Tm}{r:Int}{wt row:List Tk}{lst:Tk->Nat}{α:Type}{k:Nat}
open PySem PyProof.Rows L2
def top(i:Nat):Stmt:=PySem.Challenge.pw_slanttiles_k68_whole_none_does_with_fewe.main.body.getD i (.Pass ⟨0,0,0,0⟩)
abbrev pX:Stmt:=top 2
abbrev kJ:Stmt:=top 3
abbrev uT:Stmt:=top 4
abbrev nO:Stmt:=top 6
abbrev rN:Stmt:=top 7
abbrev vA:Stmt:=top 15
abbrev sJ:Stmt:=top 16
abbrev qQ:Stmt:=top 18
abbrev lL:Stmt:=top 20
abbrev qW:Stmt:=top 22
abbrev rP:Stmt:=top 23
abbrev qK:Stmt:=top 24
abbrev xK:Stmt:=top 25
abbrev mL:Stmt:=top 26
abbrev pL:Stmt:=top 27
abbrev lR:Stmt:=inClass (top 36) 0
abbrev fY:Stmt:=inClass (top 36) 1
abbrev lK:Stmt:=inClass (top 36) 4
abbrev jC:Stmt:=inClass (top 36) 5
abbrev iT:Stmt:=inClass (top 36) 6
abbrev iY:Stmt:=inClass (top 37) 0
abbrev eU:Stmt:=inClass (top 37) 1
abbrev lA:Stmt:=inClass (top 38) 0
abbrev fQ:Stmt:=inClass (top 38) 1
abbrev lO:Stmt:=inClass (top 38) 4
abbrev iI:Stmt:=inClass (top 39) 0
abbrev iK:Stmt:=inClass (top 39) 1
abbrev nR:Stmt:=top 42
abbrev qU:Stmt:=top 43
abbrev jT:Stmt:=top 44
abbrev qM:Stmt:=top 45
abbrev iM:Stmt:=inClass (top 50) 0
abbrev qZ:Stmt:=inClass (top 50) 1
abbrev gJ:Stmt:=inClass (top 50) 2
abbrev oF:Stmt:=inClass (top 50) 3
abbrev jD:Stmt:=inClass (top 50) 4
abbrev tM:Stmt:=inClass (top 50) 5
abbrev pO:Stmt:=top 51
abbrev vU:Stmt:=top 52
abbrev zV:Stmt:=top 55
abbrev lC:Stmt:=top 56
abbrev uZ:Stmt:=top 57
abbrev kW:Stmt:=inClass (top 62) 0
abbrev qC:Stmt:=inClass (top 62) 1
abbrev gW:Stmt:=inClass (top 62) 2
abbrev iG:Stmt:=inClass (top 62) 3
abbrev fU:Stmt:=inClass (top 62) 4
abbrev oM:Stmt:=inClass (top 62) 6
abbrev oN:Stmt:=top 63
abbrev xP:Stmt:=top 64
abbrev rO:Stmt:=top 65
abbrev mR:Stmt:=top 67
abbrev sV:Stmt:=top 68
abbrev sH:Stmt:=top 69
abbrev iU:Stmt:=top 70
abbrev jR:Stmt:=top 71
abbrev lQ:Stmt:=top 72
abbrev qI:Stmt:=top 73
abbrev qY:Stmt:=top 74
abbrev jN:Stmt:=top 75
abbrev mK:Stmt:=top 76
abbrev nJ:Stmt:=top 77
abbrev lE:Stmt:=top 78
abbrev dD:Stmt:=top 79
abbrev cM:Stmt:=top 80
abbrev vP:Stmt:=top 81
structure Txt(mg:Str->#v[14]):Prop where
 isinstance:mg "isinstance"=none
 int:mg "int"=none
 bool:mg "bool"=none
 str:mg "str"=none
 tuple:mg "tuple"=none
 list:mg "list"=none
 len:mg "len"=none
 range:mg "range"=none
 enumerate:mg "enumerate"=none
 max:mg "max"=none
 min:mg "min"=none
 sorted:mg "sorted"=none
 sum:mg "sum"=none
 set:mg "set"=none
 all:mg "all"=none
 any:mg "any"=none
 zip:mg "zip"=none
 abs:mg "abs"=none
 dict:mg "dict"=none
 c_GREATEST_NUMBER:∃t,mg "GREATEST_NUMBER"=some (.int 1000000000000 t)
 c_GREATEST_BACK:∃t,mg "GREATEST_BACK"=some (.int 3 t)
 c_GREATEST_STEP:∃t,mg "GREATEST_STEP"=some (.int 9 t)
 c_MOST_STEPS:∃t,mg "MOST_STEPS"=some (.int 3 t)
 c_MOST_DEPTH:∃t,mg "MOST_DEPTH"=some (.int 12 t)
 c_MOST_PARTS:∃t,mg "MOST_PARTS"=some (.int 60 t)
 c_MOST_TAKES:∃t,mg "MOST_TAKES"=some (.int 6 t)
 c_GREATEST_MODULUS:∃t,mg "GREATEST_MODULUS"=some (.int 1000000000 t)
 c_MOST_ROUNDS:∃t,mg "MOST_ROUNDS"=some (.int 12 t)
 c_MOST_SPOTS:∃t,mg "MOST_SPOTS"=some (.int 120 t)
 c_GREATEST_FIXED:∃t,mg "GREATEST_FIXED"=some (.int 1000000000 t)
 c_MOST_LINES:∃t,mg "MOST_LINES"=some (.int 3 t)
 c_GREATEST_SIZE:∃t,mg "GREATEST_SIZE"=some (.int 9 t)
 c_MOST_PLACES:∃t,mg "MOST_PLACES"=some (.int 40 t)
variable {P:Program}{w:World}{K:Ae}{mg:Str->#v[14]}{base:Heap}{f:Addr}{fd:FuncData}
abbrev Fv:=List U->(Sl->Prop)->Prop
def mir(s n:Int):Int:=if n % (2*s)<s then n % (2*s)else 2*s-1-n % (2*s)
def aXf:Fv:=λus R=>∃s n:Int,us=[.n s,.n n]/\0<s/\s<=1000/\R (.sh (.n (mir s n)))
def yD:aK ["size","number","along"] ["size","number"] (aD uZ):={}
def aVp(F:Fun K "mirrored" "mirrored" uZ f fd):↥1 f fd ["size","number"] (spV aXf):=by
 refine vfn F yD (λcdv A outer s H E hr=>(aC (aP (i:=2) yD.nd (bT mH uR (aA 1) (bT lF uR aH (aA 0)))) (aC (bQ (bJ aCc cL (aA 2) (aA 0)) (aF (cZ 2)) aW) (aF (aQ (bT lB cL (bT lB cL (bT lF uR aH (aA 0)) aH) (aA 2))))))) ?_;rintro _ R ⟨s,n,rfl,h1,h2,q⟩;unfold mir at q;refine⟨rfl,?_⟩;refine⟨.inl (by constructor<;>decide),by show 0<2*s;lia,?_⟩;refine⟨λh=>?_,λh=>?_⟩
 ·rw[if_pos (of_decide_eq_true h)]at q;exact q
 ·rw[if_neg (of_decide_eq_false h)]at q;exact⟨.inl (by constructor<;>decide),q⟩
def aZn:U->Bool
 |.v (.int _)=>true
 |_=>false
def aMp:Fv:=λus R=>∃u t,us=[u]/\tyU u=some t/\R (.sh (.b (aZn u)))
def aF3:aK ["thing"] ["thing"] (aD vA):={}
def aPa(F:Fun K "is_whole" "is_whole" vA f fd)(T:Txt mg):↥1 f fd ["thing"] (spV aMp):=by
 refine vfn F aF3 (λcdv A outer s H E hr=>(aF (aQ (sG (oR .int nofun T.isinstance T.int boot_int (aA 0)) (pP (aUg (oR .bl nofun T.isinstance T.bool boot_bool (aA 0)))))))) ?_;rintro _ R ⟨u,t,rfl,ht,q⟩;unfold tyU at ht;split at ht<;>cases ht<;>first|exact⟨rfl,_,rfl,λ_=>⟨_,rfl,q⟩,nofun⟩|exact⟨rfl,_,rfl,nofun,λ_=>q⟩
def isIn(u:U)(a b:Int):Bool:=match u with
 |.v (.int i)=>decide (a<=i) && decide (i<=b)
 |_=>false
def iV:Fv:=λus R=>∃u t a b,us=[u,.n a,.n b]/\tyU u=some t/\R (.sh (.b (isIn u a b)))
def aD7:aK ["thing","least","most"] ["thing","least","most"] (aD sJ):={}
def aJt(F:Fun K "is_within" "is_within" sJ f fd)(c_is_whole:⇑1 "is_whole" ["thing"] (spV aMp)):↥2 f fd ["thing","least","most"] (spV iV):=by
 refine vfn F aD7 (λcdv A outer s H E hr=>(aF (aQ (sG (aJ c_is_whole (hr.mono ⋯) rfl (aB (aA 0) aG)) (pP (aL5 uH uH cL cL (aA 1) (aA 0) (aA 2))))))) ?_;rintro _ R ⟨u,t,a,b,rfl,ht,q⟩;refine⟨rfl,u,t,rfl,ht,?_⟩;match u,q with
 |.v (.int i),q=>exact⟨λ_=>⟨λh=>by simp only[isIn,h,Ur]at q;exact q,λh=>by simp only[isIn,h,Jl]at q;exact q⟩,nofun⟩
 |.v .non,q=>exact⟨nofun,λ_=>q⟩
 |.v (.bl _),q=>exact⟨nofun,λ_=>q⟩
 |.v (.str _),q=>exact⟨nofun,λ_=>q⟩
 |.tp _,q=>exact⟨nofun,λ_=>q⟩
 |.ls _,q=>exact⟨nofun,λ_=>q⟩
 |.dk _ _,q=>exact⟨nofun,λ_=>q⟩
inductive Rim where
 |fixed (v:Int)
 |mirror
 |round
def Rim.u:Rim->U
 |.fixed v=> .tp [.s "fixed",.n v]
 |.mirror=> .tp [.s "mirror"]
 |.round=> .tp [.s "round"]
def Rim.ok:Rim->Prop
 |.fixed v=>0<=v/\v<=1000000000
 |_=>True
def aK6:Fv:=λus R=>∃r:Rim,us=[r.u]/\r.ok/\R (.sh (.b true))
abbrev PW3:List Str:=["thing","least","most"]
def aKf:aK ["thing"] ["thing"] (aD zV):={}
def aL9(F:Fun K "is_rim" "is_rim" zV f fd)(c_is_within:⇑2 "is_within" PW3 (spV iV))(T:Txt mg):↥3 f fd ["thing"] (spV aK6):=by
 obtain⟨_,g_GREATEST_FIXED⟩:=T.c_GREATEST_FIXED;refine vfn F aKf (λcdv A outer s H E hr=>(aC (bQ (mY (pJ (cT (cQ (oR .tp nofun T.isinstance T.tuple Lv (aA 0)))) (kO (bJ (dO (huD hr)) cV (bB aR cU T.len Dq (aL (aA 0) aV)) aH)))) (aF (aQ jH)) aW) (aC (bQ (cT (cQ (oR .str nofun T.isinstance T.str boot_str (bH aU bG (aA 0) aH)))) (aF (aQ jH)) aW) (aC (bQ (bJ (dO (huD hr)) cV (bH aU bG (aA 0) aH) dX) (aF (aQ (sG (oV (dO (huD hr)) cV (bB aR cU T.len Dq (aL (aA 0) aV)) aH) (pP (aJ c_is_within (hr.mono ⋯) rfl (aB (bH aU bG (aA 0) aH) (aB aH (aB (dR g_GREATEST_FIXED) aG)))))))) aW) (aF (aQ (sG (oV (dO (huD hr)) cV (bB aR cU T.len Dq (aL (aA 0) aV)) aH) (pP (oV (aMl (huD hr)) aCm (bH aU bG (aA 0) aH) (bZ (aB dX (aB dX aG)))))))))))) ?_;rintro _ R ⟨r,rfl,ok,q⟩;match r,ok with
 |.fixed v,ok=>
  refine⟨rfl,_,rfl,nofun,λ_=>⟨trivial,trivial,nofun,λ_=>?_⟩⟩;refine⟨_,rfl,_,rfl,nofun,λ_=>?_⟩;refine⟨_,rfl,trivial,trivial,λ_=>?_,λh=>absurd h #v[1]⟩;refine⟨trivial,trivial,λ_=>⟨_,rfl,_,_,_,_,rfl,rfl,?_⟩,nofun⟩;simp only[isIn,ok.1,ok.2,decide_true,Ur];exact q
 |.mirror,_=>
  refine⟨rfl,_,rfl,nofun,λ_=>⟨trivial,trivial,nofun,λ_=>?_⟩⟩;refine⟨_,rfl,_,rfl,nofun,λ_=>?_⟩;refine⟨_,rfl,trivial,trivial,λh=>absurd h #v[1],λ_=>?_⟩;refine⟨trivial,trivial,λ_=>⟨_,rfl,trivial,⟨trivial,trivial,trivial⟩,?_⟩,λh=>absurd h #v[1]⟩;exact Rbl q #v[1]
 |.round,_=>
  refine⟨rfl,_,rfl,nofun,λ_=>⟨trivial,trivial,nofun,λ_=>?_⟩⟩;refine⟨_,rfl,_,rfl,nofun,λ_=>?_⟩;refine⟨_,rfl,trivial,trivial,λh=>absurd h #v[1],λ_=>?_⟩;refine⟨trivial,trivial,λ_=>⟨_,rfl,trivial,⟨trivial,trivial,trivial⟩,?_⟩,λh=>absurd h #v[1]⟩;exact Rbl q #v[1]
def rG(ns:List Int):Int:=ns.foldl (λa n=>a*n) 1
structure eE(ns:List Int):Prop where
 ok:∀n∈ns,1<=n/\n<=9
 l1:1<=ns.length
 l3:ns.length<=3
 mn:rG ns<=40
def aPf:Fv:=λus R=>∃ns:List Int,us=[.ls (ns.map U.n)]/\(∀n∈ns,1<=n/\n<=9)/\ns.length<=3/\R (.sh (.n (rG ns)))
def pZ:aK ["sizes","many","size"] ["sizes"] (aD xP):={}
def aP2(F:Fun K "product" "product" xP f fd):↥1 f fd ["sizes"] (spV aPf):=by
 refine vfn F pZ (λcdv A outer s H E hr=>(aC (aP (i:=1) pZ.nd aH) (aC (bW Au rfl (aX (aA 0)) (cI (i:=2) pZ.nd) (aF (aP (i:=1) pZ.nd (bT lF uR (aA 1) (aA 2))))) (aF (cZ 1))))) ?_;rintro _ R ⟨ns,rfl,ok,_,q⟩;refine⟨rfl,?_⟩;refine bC (λl ρ=>∃(ms:List Int)(a:Int)(x y:Sl),l=ms.map U.n/\ρ=[x,.sh (.n a),y]/\(∀n∈ms,1<=n/\n<=9)/\R (.sh (.n (ms.foldl (λa n=>a*n) a)))) ?_ ?_ ⟨ns,1,_,_,rfl,rfl,ok,q⟩
 ·rintro ρ ⟨ms,a,x,y,e,rfl,_,q⟩;obtain rfl:=List.map_eq_nil_iff.mp e.symm;exact q
 ·rintro u r ρ ⟨ms,a,x,y,e,rfl,h,q⟩ ih;obtain⟨n,ms,rfl,rfl,rfl⟩:=List.map_eq_cons_iff.mp e.symm;have hn:=h n Ah;exact⟨.inr ⟨∅,∅⟩,ih _ ⟨ms,_,_,_,rfl,rfl,λm hm=>h m (Af _ hm),q⟩⟩
def grU(C:Addr)(ns:List Int)(rs:List Rim):U:=.ob C ["sizes","rims"] [.ls (ns.map U.n),.ls (rs.map Rim.u)]
def aMc:Fv:=λus R=>∃(ns:List Int)(rs:List Rim),us=[.ls (ns.map U.n),.ls (rs.map Rim.u)]/\(∀n∈ns,1<=n/\n<=9)/\1<=ns.length/\ns.length<=3/\rs.length=ns.length/\(∀r∈rs,r.ok)/\R (.sh .no)
def nC:aK ["sizes","rims","line","rim"] ["sizes","rims"] (aD oN):={}
def aPe(F:Fun K "check_lines" "check_lines" oN f fd)(c_is_within:⇑2 "is_within" PW3 (spV iV))(c_is_rim:⇑3 "is_rim" ["thing"] (spV aK6))(T:Txt mg):↥4 f fd ["sizes","rims"] (spV aMc):=by
 obtain⟨_,g_MOST_LINES⟩:=T.c_MOST_LINES;obtain⟨_,g_GREATEST_SIZE⟩:=T.c_GREATEST_SIZE;refine vfn F nC (λcdv A outer s H E hr=>(aC (bQ (mY (pJ (cT (tH uH uH cL cL aH (bB aR cU T.len Dq (aL (aA 0) aV)) (dR g_MOST_LINES))) (kO (bJ (kY (huD hr)) cV (bB aR cU T.len Dq (aL (aA 1) aV)) (bB aR cU T.len Dq (aL (aA 0) aV)))))) (aF jB) aW) (aF (bW Au rfl (lU T.enumerate (aB (aA 1) aG)) (mF rfl (bU (i:=2) nC.nd (bU (i:=3) nC.nd iD))) (aF (bQ (mY (pJ (cT (cQ (aJ c_is_within (hr.mono ⋯) rfl (aB (bH aU bG (aA 0) (aA 2)) (aB aH (aB (dR g_GREATEST_SIZE) aG)))))) (kO (cT (cQ (aJ c_is_rim (hr.mono ⋯) rfl (aB (aA 3) aG))))))) (aF jB) aW)))))) ?_;rintro _ R ⟨ns,rs,rfl,ok,l1,l3,el,rk,q⟩;refine⟨rfl,?_⟩;have e1:(ns.map U.n).length=ns.length:=Ab ..;have e2:(rs.map Rim.u).length=ns.length:=by rw[Ab,el]
 refine⟨λ_=>⟨λh=>?_,λ_=>⟨trivial,trivial,λh=>?_,λ_=>?_⟩⟩,λh=>?_⟩
 ·simp at h;lia
 ·simp only[U.eq,U.d,D.eq,eqV,Sl.rd]at h;simp[el]at h
 ·refine bC (λl ρ=>∃(k:Nat)(ss:List Rim)(x y:Sl),l=(ss.map Rim.u |>.zipIdx k).map (λx=> .tp [.n (x.2:Nat),x.1])/\ρ=[.sh (.ls (ns.map U.n)),.sh (.ls (rs.map Rim.u)),x,y]/\k+ss.length=ns.length/\∀r∈ss,r.ok) ?_ ?_ ⟨0,rs,_,_,rfl,rfl,∅,rk⟩
  ·rintro ρ ⟨k,ss,x,y,e,rfl,_⟩;exact q
  ·rintro u r ρ ⟨k,ss,x,y,e,rfl,hk,ho⟩ ih;match ss,e,hk,ho with
   |s::ss,e,hk,ho=>
    cases e;have hl:k<ns.length:=by rw[Am]at hk;lia
    have hn:=ok _ (Eu hl);refine⟨rfl,U.n ns[k],jA (by rw[As,Ag hl];rfl),_,_,_,_,rfl,rfl,?_⟩;refine⟨λh=>?_,λ_=>⟨s,rfl,ho s Ah,nofun,λ_=>ih _ ⟨k+1,ss,_,_,rfl,rfl,by rw[Am]at hk;lia,λr hr=>ho r (Af _ hr)⟩⟩⟩;simp[isIn,hn.1,hn.2]at h
 ·simp at h;lia
def aGt(C:Addr):Fv:=λus R=>∃ns rs,us=[grU C ns rs]/\R (.sh (.n ns.length))
def aBx:aK ["self"] ["self"] (aD qC):={}
def aM1{C:Addr}(F:Fun K "lines" "Grid.lines" qC f fd)(cG:Cfl K C ["sizes","rims"])(T:Txt mg):↥1 f fd ["self"] (spV (aGt C)):=by
 refine vfn F aBx (λcdv A outer s H E hr=>(aF (aQ (bB aR cU T.len Dq (aL (dW cG (aA 0)) aV))))) ?_;rintro _ R ⟨ns,rs,rfl,q⟩;refine⟨rfl,rfl,.inl ⟨rfl,?_⟩⟩;rw[<-Ab (f:=U.n)]at q;exact q
def aSh(C:Addr):Fv:=λus R=>∃ns rs,us=[grU C ns rs]/\eE ns/\R (.sh (.n (rG ns)))
def uF:aK ["self"] ["self"] (aD gW):={}
def aQu{C:Addr}(F:Fun K "places_many" "Grid.places_many" gW f fd)(cG:Cfl K C ["sizes","rims"])(c_product:⇑1 "product" ["sizes"] (spV aPf)):↥2 f fd ["self"] (spV (aSh C)):=by
 refine vfn F uF (λcdv A outer s H E hr=>(aF (aQ (aJ c_product (hr.mono ⋯) rfl (aB (dW cG (aA 0)) aG))))) ?_;rintro _ R ⟨ns,rs,rfl,g,q⟩;exact⟨rfl,rfl,.inl ⟨rfl,ns,rfl,g.ok,g.l3,q⟩⟩
open PySem PyProof.Rows L2 KR
def enc(N:Cn):Tm->U
 |.num n=> .ob N.num ["value"] [.n n]
 |.take b ss=> .ob N.take ["back","steps"] [.n b,.tp (ss.map U.n)]
 |.bin k a b=> .ob (N.bin k) ["one","other"] [enc N a,enc N b]
def fV{N:Cn}{m:Str}{F:Addr->Fv}{G:TVa}{ρ:EV}{R:Sl->Prop}(t:Tm)(h1:(["value","back","steps","one","other"]:List Str).elem m=false)(h:G ρ λvs=>F (cls N t) (enc N t::vs) R):mOb (IsC N) m F G ρ R (enc N t):=by
 have hc:=isC N t;have k:∀ns:List Str,(∀x∈ns,x∈(["value","back","steps","one","other"]:List Str))->ns.elem m=false:=λns hn=>by
  cases q:ns.elem m with
  |false=>rfl
  |true=>
   have:=hn m (List.elem_iff.mp q);rw[List.elem_iff.mpr this]at h1;cases h1
 cases t with
 |num n=>exact⟨hc,k _ (by simp),h⟩
 |take b ss=>exact⟨hc,k _ (by simp),h⟩
 |bin j a b=>exact⟨hc,k _ (by simp),h⟩
def kZ(N:Cn)(C:Addr):Fv:=λus R=>∃t,us=[enc N t]/\cls N t=C/\R (.ow ((kids t).map (enc N)))
variable {f C:Addr}{N:Cn}
def aBs:aK ["self"] ["self"] (aD lR):={}
def aB9(F:Fun K "inner" "Term.inner" lR f fd)(hC:∀t,cls N t=C->kids t=[]):↥1 f fd ["self"] (spV (kZ N C)):=by
 refine vfn F aBs (λcdv A outer s H E hr=>(aF (aQ (bK aG)))) ?_;rintro _ R ⟨t,rfl,e,q⟩;rw[hC t e]at q;exact⟨rfl,q⟩
def yV:aK ["self"] ["self"] (aD iK):={}
def aJx{k:Bool}(F:Fun K "inner" "Paired.inner" iK f fd)(cP:Cfl K (N.bin k) ["one","other"])(hC:∀t,cls N t=N.bin k->∃a b,t=.bin k a b):↥1 f fd ["self"] (spV (kZ N (N.bin k))):=by
 refine vfn F yV (λcdv A outer s H E hr=>(aF (aQ (bK (aB (dW cP (aA 0)) (aB (dW cP (aA 0)) aG)))))) ?_;rintro _ R ⟨t,rfl,e,q⟩;obtain⟨a,b,rfl⟩:=hC t e;exact⟨rfl,rfl,.inl ⟨rfl,rfl,.inr ⟨by decide+kernel,.inl ⟨rfl,q⟩⟩⟩⟩
def aB0(h:l.Pairwise λx y=>gU x y=true):l.Nodup:=h.imp λ{x y} h z=>by
 subst z;rw[aB5 h]at h;cases h
def Few(t:Tm):Prop:=∃ks:List Tk,ks.length<18/\∀x∈raw t,x∈ks
def aD2(f:Few t)(h:vL t l):l.length<=17:=by
 obtain⟨ks,kl,km⟩:=f;have:=(aB0 h.1).length_le_of_subset (l₂:=ks) λx hx=>km x ((h.2 x).mp hx)
 lia
theorem aLc(h:∀b ss,t≠.take b ss)(x:Tk):x∈raw t↔ ∃k∈kids t,x∈raw k:=by cases t<;>simp[raw,kids]<;>grind
def zP(t:Tm){d:Nat}(h:ht t<=d+1):∀k∈kids t,ht k<=d:=λk hk=>by have:=aUx hk;lia
def sE(N:Cn)(d:Nat)(C:Addr):Fv:=λus R=>∃t,us=[enc N t]/\cls N t=C/\ht t<=d/\Few t/\∀ys,vL t ys->R (.ow (ys.map tkU))
abbrev lG(P:Program)(w:World)(K:Ae)(mg:Str->#v[14])(base:Heap)(N:Cn)(k:Nat)(m:Str)(F:Addr->Fv):Prop:=Dis P w K mg base CX0 k (IsC N) m ["self"] λC=>spV (F C)
variable {d:Nat}
def oO:aK ["self","pairs","part"] ["self"] (aD lK):={}
def aKv(F:Fun K "takes" "Term.takes" lK f fd)(hC:∀t,cls N t=C->∀b ss,t≠.take b ss)(D_inner:lG P w K mg base N 1 "inner" (kZ N))(D_takes:lG P w K mg base N (d+1) "takes" (sE N d))(T:Txt mg):↥(d+2) f fd ["self"] (spV (sE N (d+1) C)):=by
 refine vfn F oO (λcdv A outer s H E hr=>(aC (aP (i:=1) oO.nd (bK aG)) (aC (bW Au rfl (aX (bY (aA 0) D_inner (hr.mono ∅))) (cI (i:=2) oO.nd) (aF (aDw 1 (bY (aA 2) D_takes (hr.mono ∅))))) (aF (aQ (aI4 hr rfl T.sorted T.set (aL (aA 1) aV))))))) ?_;rintro _ R ⟨t,rfl,e,hd,fw,q⟩;refine⟨rfl,fV t #v[1] ⟨t,rfl,rfl,?_⟩⟩;refine bC (λl ρ=>∃(ks js:List Tm)(ps:List Tk)(x:Sl),l=ks.map (enc N)/\js++ks=kids t/\ρ=[.sh (enc N t),.ow (ps.map tkU),x]/\ps.length<=17*js.length/\∀y,y∈ps↔ ∃k∈js,y∈raw k) ?_ ?_ ⟨kids t,[],[],_,rfl,rfl,rfl,Ak _,by simp⟩
 ·rintro ρ ⟨ks,js,ps,x,el,ej,rfl,pl,pm⟩;obtain rfl:=List.map_eq_nil_iff.mp el.symm;rw[Ax]at ej;subst ej;have kl:=zM t;have rk:=aLc (hC t e);exact⟨ps,rfl,∅,λys pw ym=>q ys ⟨pw,λy=>(ym y).trans ((pm y).trans (rk y).symm)⟩⟩
 ·rintro u r ρ ⟨ks,js,ps,x,el,ej,rfl,pl,pm⟩ ih;obtain⟨k,ks,rfl,rfl,rfl⟩:=List.map_eq_cons_iff.mp el.symm;have hk:k∈kids t:=by rw[<-ej];simp
  have fk:Few k:=let⟨zs,zl,zm⟩:=fw;⟨zs,zl,λy hy=>zm y (aIp hk y hy)⟩;refine fV k #v[1] ⟨k,rfl,rfl,zP t hd k hk,fk,λys ik=>?_⟩;have yl:=aD2 fk ik;have kl:=zM t;have jl:js.length+(ks.length+1)<=3:=by rw[<-ej,An,Am]at kl;exact kl
  refine⟨by rw[Ab,Ab];lia,ih _ ⟨ks,js++[k],ps++ys,_,rfl,by rw[Bu];exact ej,by rw[Ce];rfl,by rw[An,An];show _<=17*(js.length+1);lia,λy=>?_⟩⟩;rw[Iw,pm y,ik.2 y];constructor
  ·rintro(⟨j,hj,hy⟩|hy)
   ·exact⟨j,Il _ hj,hy⟩
   ·exact⟨k,by simp,hy⟩
  ·rintro⟨j,hj,hy⟩;rcases List.mem_append.mp hj with hj|hj
   ·exact .inl ⟨j,hj,hy⟩
   ·rw[List.mem_singleton.mp hj]at hy;exact .inr hy
def aBw:aK ["self"] ["self"] (aD lO):={}
def aKu(F:Fun K "takes" "Take.takes" lO f fd)(cK:Cfl K N.take ["back","steps"])(hC:∀t,cls N t=N.take->∃b ss,t=.take b ss):↥(d+2) f fd ["self"] (spV (sE N (d+1) N.take)):=by
 refine vfn F aBw (λcdv A outer s H E hr=>(aF (aQ (bK (aB (bZ (aB (dW cK (aA 0)) (aB (dW cK (aA 0)) aG))) aG))))) ?_;rintro _ R ⟨t,rfl,e,hd,fw,q⟩;obtain⟨b,ss,rfl⟩:=hC t e;exact⟨rfl,rfl,.inl ⟨rfl,rfl,.inr ⟨by decide+kernel,.inl ⟨rfl,q [(b,ss)] ⟨Hg ..,λ_=>Mm⟩⟩⟩⟩⟩
def aFn(N:Cn)(g:Tm->Nat)(d:Nat)(C:Addr):Fv:=λus R=>∃t,us=[enc N t]/\cls N t=C/\ht t<=d/\rJ t<=200/\R (.sh (.n (g t)))
theorem aAr{t k:Tm}(h:k∈kids t):rJ k<=rJ t:=by cases t<;>grind [kids,rJ]
def aOa(t:Tm):∀m:Int,(kids t=[]/\m=0)∨(m∈(kids t).map (λk=>(ht k:Int))/\∀a∈(kids t).map (λk=>(ht k:Int)),a<=m)->1+m=(ht t:Int):=by
 intro m h;cases t with
 |num n=>rcases h with ⟨_,h⟩|⟨h,_⟩<;>simp[kids,ht]at h⊢;lia
 |take b ss=>rcases h with ⟨_,h⟩|⟨h,_⟩<;>simp[kids,ht]at h⊢;lia
 |bin k a b=>rcases h with ⟨h,_⟩|⟨h,g⟩<;>simp[kids,ht]at h⊢;simp[kids]at g;lia
def aN6(t:Tm):1+((kids t).map (λk=>(rJ k:Int))).sum=(rJ t:Int):=by
 cases t<;>simp[kids,rJ]<;>lia
def ints_map{g:Tm->Nat}(ks:List Tm):ks.map (λk=>U.n (g k))=(ks.map λk=>(g k:Int)).map U.n:=by rw[Az];rfl
def aFq{g:Tm->Nat}{h:U->(Option U->Prop)->Prop}{R:List U->Prop}(hf:∀k∈kids t,∀c:Option U->Prop,c (some (.n (g k)))->h (enc N k) c)(q:R (((kids t).map λk=>(g k:Int)).map U.n)):cO h ((kids t).map (enc N)) [] R:=by
 rw[<-ints_map]at q;revert hf q;generalize kids t=ks;have key:∀(ks:List Tm)(acc:List U),(∀k∈ks,∀c:Option U->Prop,c (some (.n (g k)))->h (enc N k) c)->R (acc++ks.map λk=>U.n (g k))->cO h (ks.map (enc N)) acc R:=by
  intro ks;induction ks with
  |nil=>exactλacc _ q=>by rw[Ep,Ax]at q;exact q
  |cons k ks ih=>exactλacc hf q=>hf k Ah _ (ih _ (λj hj=>hf j (Af _ hj)) (by rw[Bu];exact q))
 exactλhf q=>key ks [] hf q
abbrev aD4:List Str:=["self"]
def aBj:aK ["self"] ["self"] (aD jC):={}
def aJb(F:Fun K "depth" "Term.depth" jC f fd)(D_inner:lG P w K mg base N 1 "inner" (kZ N))(D_depth:lG P w K mg base N (d+1) "depth" (aFn N ht d))(T:Txt mg):↥(d+2) f fd ["self"] (spV (aFn N ht (d+1) C)):=by
 refine vfn F aBj (λcdv A outer s H E hr=>(aF (aQ (bT dG fB aH (aEb rfl T.max (aL (gD (own:=["part"]) (cap:=[]) (aD jC) aD4 rfl rfl (λx h=>bD h) #v[1] rfl (vic (aX (bY (aA 0) D_inner (hr.mono ∅)))) ↑(aZ (i:=0) (~~~["part"]) rfl (Dc rfl) (Dl rfl)) (bL ⋯) ↑(bY (aA 0) D_depth (hr.mono ∅))) aV) aH))))) ?_;rintro _ R ⟨t,rfl,e,hd,hp,q⟩;refine⟨rfl,fV t #v[1] ⟨t,rfl,rfl,?_⟩⟩;refine⟨by have:=zM t;rw[Ab];lia,aFq (g:=ht) (λk hk c hc=>fV k #v[1] ⟨k,rfl,rfl,zP t hd k hk,by have:=aAr hk;lia,hc⟩) ?_⟩;refine⟨_,rfl,λh=>?_,λm hm ha=>?_⟩
 ·have:=aOa t 0 (.inl ⟨List.map_eq_nil_iff.mp h,rfl⟩);rw[<-this]at q;exact q
 ·have:=aOa t m (.inr ⟨hm,ha⟩);rw[<-this]at q;exact q
abbrev aDj:List Str:=["self"]
def aBk:aK ["self"] ["self"] (aD iT):={}
def aJm(F:Fun K "parts" "Term.parts" iT f fd)(D_inner:lG P w K mg base N 1 "inner" (kZ N))(D_parts:lG P w K mg base N (d+1) "parts" (aFn N rJ d))(T:Txt mg):↥(d+2) f fd ["self"] (spV (aFn N rJ (d+1) C)):=by
 refine vfn F aBk (λcdv A outer s H E hr=>(aF (aQ (bT dG fB aH (bB (aLk rfl) aV8 T.sum boot_sum (aL (gD (own:=["part"]) (cap:=[]) (aD iT) aDj rfl rfl (λx h=>bD h) #v[1] rfl (vic (aX (bY (aA 0) D_inner (hr.mono ∅)))) ↑(aZ (i:=0) (~~~["part"]) rfl (Dc rfl) (Dl rfl)) (bL ⋯) ↑(bY (aA 0) D_parts (hr.mono ∅))) aV)))))) ?_;rintro _ R ⟨t,rfl,e,hd,hp,q⟩;have kl:=zM t;refine⟨rfl,fV t #v[1] ⟨t,rfl,rfl,?_⟩⟩;refine⟨by rw[Ab];lia,aFq (g:=rJ) (λk hk c hc=>fV k #v[1] ⟨k,rfl,rfl,zP t hd k hk,by have:=aAr hk;lia,hc⟩) ?_⟩;refine⟨_,rfl,by rw[Ab];lia,λn hn=>?_,?_⟩
 ·obtain⟨k,hk,rfl⟩:=List.mem_map.mp hn;have:=aAr hk
  lia
 ·have:=aN6 t;rw[<-this]at q;exact q
def aGl:Fv:=λus R=>∃ss:List Int,us=[.tp (ss.map U.n)]/\1<=ss.length/\ss.length<=3/\(∀s∈ss, -9<=s/\s<=9)/\R (.sh (.b true))
abbrev aFh:List Str:=["thing"]
def aDi:aK ["thing"] ["thing"] (aD nR):={}
def aPk(F:Fun K "are_steps" "are_steps" nR f fd)(c_is_within:⇑2 "is_within" PW3 (spV iV))(T:Txt mg):↥3 f fd ["thing"] (spV aGl):=by
 obtain⟨_,g_MOST_STEPS⟩:=T.c_MOST_STEPS;obtain⟨_,g_GREATEST_STEP⟩:=T.c_GREATEST_STEP;refine vfn F aDi (λcdv A outer s H E hr=>(aC (bQ (mY (pJ (cT (cQ (oR .tp nofun T.isinstance T.tuple Lv (aA 0)))) (kO (cT (tH uH uH cL cL aH (bB aR cU T.len Dq (aL (aA 0) aV)) (dR g_MOST_STEPS)))))) (aF (aQ jH)) aW) (aF (aQ (bB rT (xU rfl) T.all Qv (aL (gD (own:=["step"]) (cap:=[]) (aD nR) aFh rfl rfl (λx h=>bD h) #v[1] rfl (vic (aV3 (aA 0))) ↑(aZ (i:=0) (~~~["step"]) rfl (Dc rfl) (Dl rfl)) (bL ⋯) ↑(aJ c_is_within (hr.mono ⋯) rfl (aB (aA 0) (aB (aMg (dR g_GREATEST_STEP)) (aB (dR g_GREATEST_STEP) aG))))) aV)))))) ?_;rintro _ R ⟨ss,rfl,l1,l3,hs,q⟩;have e1:(ss.map U.n).length=ss.length:=Ab ..;refine⟨rfl,_,rfl,nofun,λ_=>⟨λ_=>⟨λh=>?_,λ_=>?_⟩,λh=>?_⟩⟩
 ·simp at h;lia
 ·refine⟨∅,eY (h:=λ_=> .b true) (λu hu k hk=>?_) ?_⟩
  ·obtain⟨s,hs',rfl⟩:=List.mem_map.mp hu;have:=hs s hs';refine⟨_,_,_,_,rfl,rfl,?_⟩;show k (some (.b (isIn (.n s) (-9) 9)));rw[show isIn (.n s) (-9) 9=true by simp[isIn,this.1,this.2]];exact hk
  ·refine⟨ss.map λ_=>true,by rw[Az,Az];rfl,?_⟩;exact Rbl q (by simp)
 ·simp at h;lia
def uL(N:Cn)(C:Addr):Fv:=λus R=>∃t,us=[enc N t]/\cls N t=C/\aHu t/\R (.sh .no)
def wI:aK ["self"] ["self"] (aD fY):={}
def aKa(F:Fun K "own_fault" "Term.own_fault" fY f fd):↥4 f fd ["self"] (spV (uL N C)):=by
 refine bI.mono (vfn F wI (λcdv A outer s H E(hr:cW 0 _)=>(aF (aQ tO))) ?_) ⋯;rintro _ R ⟨t,rfl,e,ok,q⟩;exact⟨rfl,q⟩
def uD:aK ["self"] ["self"] (aD eU):={}
def aJq(F:Fun K "own_fault" "Number.own_fault" eU f fd)(cN:Cfl K N.num ["value"])(hC:∀t,cls N t=N.num->∃n,t=.num n)(c_is_within:⇑2 "is_within" PW3 (spV iV))(T:Txt mg):↥4 f fd ["self"] (spV (uL N N.num)):=by
 obtain⟨_,g_GREATEST_NUMBER⟩:=T.c_GREATEST_NUMBER;refine vfn F uD (λcdv A outer s H E hr=>(aC (bQ (cQ (aJ c_is_within (hr.mono ⋯) rfl (aB (dW cN (aA 0)) (aB (aMg (dR g_GREATEST_NUMBER)) (aB (dR g_GREATEST_NUMBER) aG))))) (aF (aQ tO)) aW) (aF (aQ dX)))) ?_;rintro _ R ⟨t,rfl,e,ok,q⟩;obtain⟨n,rfl⟩:=hC t e;have h:=ok.1;simp only[Wf]at h;refine⟨rfl,rfl,.inl ⟨rfl,_,_,_,_,rfl,rfl,λ_=>q,λz=>?_⟩⟩;simp[isIn,h.1,h.2]at z
def wL:aK ["self"] ["self"] (aD fQ):={}
def aJg(F:Fun K "own_fault" "Take.own_fault" fQ f fd)(cK:Cfl K N.take ["back","steps"])(hC:∀t,cls N t=N.take->∃b ss,t=.take b ss)(c_is_within:⇑2 "is_within" PW3 (spV iV))(c_are_steps:⇑3 "are_steps" ["thing"] (spV aGl))(T:Txt mg):↥4 f fd ["self"] (spV (uL N N.take)):=by
 obtain⟨_,g_GREATEST_BACK⟩:=T.c_GREATEST_BACK;refine vfn F wL (λcdv A outer s H E hr=>(aC (bQ (cT (cQ (aJ c_is_within (hr.mono ⋯) rfl (aB (dW cK (aA 0)) (aB aH (aB (dR g_GREATEST_BACK) aG)))))) (aF (aQ dX)) aW) (aC (bQ (cT (cQ (aJ c_are_steps (hr.mono ⋯) rfl (aB (dW cK (aA 0)) aG)))) (aF (aQ dX)) aW) (aF (aQ tO))))) ?_;rintro _ R ⟨t,rfl,e,ok,q⟩;obtain⟨b,ss,rfl⟩:=hC t e;obtain⟨⟨h1,h2,h3⟩,h4,h5⟩:=ok.2 (b,ss) Ah;refine⟨rfl,rfl,.inl ⟨rfl,_,_,_,_,rfl,rfl,λz=>?_,λ_=>?_⟩⟩
 ·simp only at h1 h2;simp[isIn,h1,h2]at z
 ·exact⟨rfl,.inr ⟨by decide+kernel,.inl ⟨rfl,ss,rfl,h4,h5,h3,nofun,λ_=>q⟩⟩⟩
def fFF(N:Cn)(d:Nat):Fv:=λus R=>∃t,us=[enc N t]/\ht t<=d/\aHu t/\R (.sh .no)
def mZ:aK ["term","part","fault"] ["term"] (aD jT):={}
def aXo(F:Fun K "first_fault" "first_fault" jT f fd)(c_first_fault:⇑(d+4) "first_fault" ["term"] (spV (fFF N d)))(D_inner:lG P w K mg base N 1 "inner" (kZ N))(D_own_fault:lG P w K mg base N 4 "own_fault" (uL N)):↥(d+5) f fd ["term"] (spV (fFF N (d+1))):=by
 refine vfn F mZ (λcdv A outer s H E hr=>(aC (bW Au rfl (aX (bY (aA 0) D_inner (hr.mono ∅))) (cI (i:=1) mZ.nd) (aC (aP (i:=2) mZ.nd (aJ c_first_fault (hr.mono ∅) rfl (aB (aA 1) aG))) (aF (bQ (aDd (aA 2)) (aF (cZ 2)) aW)))) (aF (aQ (bY (aA 0) D_own_fault (hr.mono ∅)))))) ?_;rintro _ R ⟨t,rfl,hd,ok,q⟩;refine⟨rfl,fV t #v[1] ⟨t,rfl,rfl,?_⟩⟩;refine bC (λl ρ=>∃(ks:List Tm)(x y:Sl),l=ks.map (enc N)/\(∀k∈ks,k∈kids t)/\ρ=[.sh (enc N t),x,y]) ?_ ?_ ⟨kids t,_,_,rfl,λ_ h=>h,rfl⟩
 ·rintro ρ ⟨ks,x,y,el,hk,rfl⟩;exact fV t #v[1] ⟨t,rfl,rfl,ok,q⟩
 ·rintro u r ρ ⟨ks,x,y,el,hk,rfl⟩ ih;obtain⟨k,ks,rfl,rfl,rfl⟩:=List.map_eq_cons_iff.mp el.symm;have kk:=hk k Ah;exact⟨k,rfl,zP t hd k kk,ok.kid kk,nofun,λ_=>ih _ ⟨ks,_,_,rfl,λj hj=>hk j (Af _ hj),rfl⟩⟩
def Ln(t:Tm)(n:Nat):Prop:=(n=1∨n=2∨n=3)/\(∀x∈raw t,x.2.length=n)/\∃ks:List Tk,ks.length<=6/\∀x∈raw t,x∈ks
def Ln.few(h:Ln t n):Few t:=let⟨ks,l,m⟩:=h.2.2;⟨ks,∅,m⟩
def aA1(N:Cn)(d:Nat):Fv:=λus R=>∃t n,us=[enc N t]/\ht t<=d/\Ln t n/\∀s,s=.sh .no∨s=.sh (.n (n:Nat))->R s
abbrev aG1:List Str:=["term","counts"]
def xZ:aK ["term","counts"] ["term"] (aD qU):={}
def aH8(F:Fun K "lines_of" "lines_of" qU f fd)(D_takes:lG P w K mg base N (d+1) "takes" (sE N d))(T:Txt mg):↥(d+3) f fd ["term"] (spV (aA1 N d)):=by
 refine vfn F xZ (λcdv A outer s H E hr=>(aC (aP (i:=1) xZ.nd (aM4 rfl T.sorted T.set (aL (gD (own:=["take"]) (cap:=[]) (aD qU) aG1 rfl rfl (λx h=>bD h) #v[1] rfl (vic (aX (bY (aA 0) D_takes (hr.mono ∅)))) ↑(aZ (i:=0) (~~~["take"]) rfl (Dc rfl) (Dl rfl)) (bL ⋯) ↑(bB aR cU T.len Dq (aL (bH aU bG (aA 0) aH) aV))) aV))) (aC (bQ (bJ uI cL (bB aR cU T.len Dq (aL (aA 1) aV)) aH) (aF jB) aW) (aC (bQ (bJ (dO (huD hr)) cV (bB aR cU T.len Dq (aL (aA 1) aV)) aH) (aF (aQ tO)) aW) (aF (aQ (bH aU bG (aA 1) aH))))))) ?_;rintro _ R ⟨t,n,rfl,hd,ln,q⟩;refine⟨rfl,fV t #v[1] ⟨t,rfl,rfl,hd,ln.few,λys ik=>?_⟩⟩;have yl:=aD2 ln.few ik;refine⟨by rw[Ab];lia,eY (h:=λ_=> .n (n:Nat)) (λu hu k hk=>?_) ?_⟩
 ·obtain⟨y,hy,rfl⟩:=List.mem_map.mp hu;have e:=ln.2.1 y ((ik.2 y).mp hy);refine⟨_,rfl,?_⟩;show k (some (.n ((y.2.map U.n).length:Nat)));rw[Ab,e];exact hk
 ·refine⟨ys.map λ_=>n,n,by rw[Az,Az];rfl,λm hm=>?_,by rcases ln.1 with rfl|rfl|rfl<;>decide,?_⟩
  ·obtain⟨_,_,rfl⟩:=List.mem_map.mp hm;rfl
  ·generalize decide (0<(ys.map λ_=>n).length)=b;cases b
   ·exact⟨nofun,λ_=>⟨trivial,trivial,λ_=>q _ (.inl rfl),nofun⟩⟩
   ·exact⟨nofun,λ_=>⟨trivial,trivial,nofun,λ_=>⟨_,rfl,q _ (.inr rfl)⟩⟩⟩
def aI8(N:Cn)(d:Nat):Fv:=λus R=>∃t n,us=[enc N t]/\ht t<=d/\aHu t/\rJ t<=60/\Ln t n/\R (.sh .no)
def uJ:aK ["term","fault"] ["term"] (aD qM):={}
def aKj(F:Fun K "check_term" "check_term" qM f fd)(d12:d<=12)(c_first_fault:⇑(d+4) "first_fault" ["term"] (spV (fFF N d)))(c_lines_of:⇑(d+3) "lines_of" ["term"] (spV (aA1 N d)))(D_takes:lG P w K mg base N (d+1) "takes" (sE N d))(D_depth:lG P w K mg base N (d+1) "depth" (aFn N ht d))(D_parts:lG P w K mg base N (d+1) "parts" (aFn N rJ d))(T:Txt mg):↥(d+5) f fd ["term"] (spV (aI8 N d)):=by
 obtain⟨_,g_MOST_DEPTH⟩:=T.c_MOST_DEPTH;obtain⟨_,g_MOST_PARTS⟩:=T.c_MOST_PARTS;obtain⟨_,g_MOST_TAKES⟩:=T.c_MOST_TAKES;refine vfn F uJ (λcdv A outer s H E hr=>(aC (aP (i:=1) uJ.nd (aJ c_first_fault (hr.mono ∅) rfl (aB (aA 0) aG))) (aC (bQ (aDd (aA 1)) (aF jB) aW) (aC (aSt (aJ c_lines_of (hr.mono ∅) rfl (aB (aA 0) aG))) (aC (bQ (bJ uI cL (bY (aA 0) D_depth (hr.mono ∅)) (dR g_MOST_DEPTH)) (aF jB) aW) (aC (bQ (bJ uI cL (bY (aA 0) D_parts (hr.mono ∅)) (dR g_MOST_PARTS)) (aF jB) aW) (aF (bQ (bJ uI cL (bB aR cU T.len Dq (aL (bY (aA 0) D_takes (hr.mono ∅)) aV)) (dR g_MOST_TAKES)) (aF jB) aW)))))))) ?_;rintro _ R ⟨t,n,rfl,hd,ok,hp,ln,q⟩;refine⟨rfl,t,rfl,hd,ok,nofun,λ_=>?_⟩;refine⟨t,n,rfl,hd,ln,λ_ _=>?_⟩;refine fV t #v[1] ⟨t,rfl,rfl,hd,∅,λz=>?_,λ_=>?_⟩
 ·have:=of_decide_eq_true z
  lia
 refine fV t #v[1] ⟨t,rfl,rfl,hd,∅,λz=>?_,λ_=>?_⟩
 ·have:=of_decide_eq_true z
  lia
 refine fV t #v[1] ⟨t,rfl,rfl,hd,ln.few,λys ik=>⟨λz=>?_,λ_=>q⟩⟩;have:=of_decide_eq_true z;obtain⟨ks,kl,km⟩:=ln.2.2;have h2:=(aB0 ik.1).length_le_of_subset (l₂:=ks) λx hx=>km x ((ik.2 x).mp hx);rw[Ab]at this
 lia
def GoodR(n:Int)(m:Int)(l:List Int):Prop:=(l.length:Int)=n/\l.length<=40/\∀x∈l,0<=x/\x<m
def aNt:Fv:=λus R=>∃(l:List Int)(n m:Int),us=[.ls (l.map U.n),.n n,.n m]/\GoodR n m l/\R (.sh (.b true))
abbrev aN1:List Str:=["thing","many","modulus"]
def aKl:aK ["thing","many","modulus"] ["thing","many","modulus"] (aD vU):={}
def aPg(F:Fun K "is_row" "is_row" vU f fd)(c_is_within:⇑2 "is_within" PW3 (spV iV))(T:Txt mg):↥3 f fd ["thing","many","modulus"] (spV aNt):=by
 refine vfn F aKl (λcdv A outer s H E hr=>(aC (bQ (mY (pJ (cT (cQ (oR .ls nofun T.isinstance T.list Jn (aA 0)))) (kO (bJ (kY (huD hr)) cV (bB aR cU T.len Dq (aL (aA 0) aV)) (aA 1))))) (aF (aQ jH)) aW) (aF (aQ (bB rT (xU rfl) T.all Qv (aL (gD (own:=["worth"]) (cap:=[("modulus",2)]) (aD vU) aN1 rfl rfl (λx h=>bD h) #v[1] rfl (vic (aX (aA 0))) ↑(aZ (i:=0) (~~~["worth","modulus"]) rfl (Dc rfl) (Dl rfl)) (bL ⋯) ↑(aJ c_is_within (hr.mono ⋯) rfl (aB (aA 0) (aB aH (aB (bT lB cL (aA 1) aH) aG))))) aV)))))) ?_;rintro _ R ⟨l,n,m,rfl,⟨h1,h2,h3⟩,q⟩;refine⟨rfl,_,rfl,nofun,λ_=>⟨trivial,trivial,λz=>?_,λ_=>?_⟩⟩
 ·simp[U.eq,U.d,D.eq,eqV,Sl.rd,h1]at z
 ·refine⟨by rw[Ab];lia,eY (h:=λ_=> .b true) (λu hu k hk=>?_) ⟨l.map λ_=>true,by rw[Az,Az];rfl,Rbl q (by simp)⟩⟩;obtain⟨x,hx,rfl⟩:=List.mem_map.mp hu;have:=h3 x hx;refine⟨_,_,_,_,rfl,rfl,?_⟩;show k (some (.b (isIn (.n x) 0 (m-1))));rw[show isIn (.n x) 0 (m-1)=true by simp[isIn,this.1];lia];exact hk
def pG(ls:List (List Int)):List U:=ls.map λl=> .ls (l.map U.n)
def aFp:Fv:=λus R=>∃(ls:List (List Int))(k n m:Int),us=[.ls (pG ls),.n k,.n n,.n m]/\(ls.length:Int)=k/\ls.length<=3/\(∀l∈ls,GoodR n m l)/\R (.sh (.b true))
abbrev aHd:List Str:=["thing","deep","many","modulus"]
def aFm:aK ["thing","deep","many","modulus"] ["thing","deep","many","modulus"] (aD pO):={}
def aHb(F:Fun K "are_rows" "are_rows" pO f fd)(c_is_row:⇑3 "is_row" ["thing","many","modulus"] (spV aNt))(T:Txt mg):↥4 f fd ["thing","deep","many","modulus"] (spV aFp):=by
 refine vfn F aFm (λcdv A outer s H E hr=>(aC (bQ (mY (pJ (cT (cQ (oR .ls nofun T.isinstance T.list Jn (aA 0)))) (kO (bJ (kY (huD hr)) cV (bB aR cU T.len Dq (aL (aA 0) aV)) (aA 1))))) (aF (aQ jH)) aW) (aF (aQ (bB rT (xU rfl) T.all Qv (aL (gD (own:=["row"]) (cap:=[("many",2),("modulus",3)]) (aD pO) aHd rfl rfl (λx h=>bD h) #v[1] rfl (vic (aX (aA 0))) ↑(aZ (i:=0) (~~~["row","many","modulus"]) rfl (Dc rfl) (Dl rfl)) (bL ⋯) ↑(aJ c_is_row (hr.mono ⋯) rfl (aB (aA 0) (aB (aA 1) (aB (aA 2) aG))))) aV)))))) ?_;rintro _ R ⟨ls,k,n,m,rfl,h1,h2,h3,q⟩;have e1:(pG ls).length=ls.length:=Ab ..;refine⟨rfl,_,rfl,nofun,λ_=>⟨trivial,trivial,λz=>?_,λ_=>?_⟩⟩
 ·simp[U.eq,U.d,D.eq,eqV,Sl.rd,h1,e1]at z
 ·refine⟨∅,eY (h:=λ_=> .b true) (λu hu k hk=>?_) ⟨ls.map λ_=>true,by unfold pG;rw[Az,Az];rfl,Rbl q (by simp)⟩⟩;obtain⟨x,hx,rfl⟩:=List.mem_map.mp hu;exact⟨x,n,m,rfl,h3 x hx,hk⟩
def dpt(ys:List Tk):Int:=if ys=[]then 1 else ys.foldl (λm y=>max m y.1) 0
def aLz{m:Int}(hp:∀y∈ys,0<=y.1)(hm:m∈ys.map (·.1))(ha:∀a∈ys.map (·.1),a<=m):dpt ys=m:=by
 have key:∀(l:List Tk)(a:Int),(∀y∈l,y.1<=m)->a<=m->l.foldl (λm y=>max m y.1) a<=m/\a<=l.foldl (λm y=>max m y.1) a/\∀y∈l,y.1<=l.foldl (λm y=>max m y.1) a:=by
  intro l;induction l with
  |nil=>exactλa _ h=>⟨h,Nx _,λ_ z=>nomatch z⟩
  |cons x l ih=>
   intro a h1 h2;have hx:=h1 x Ah;obtain⟨g1,g2,g3⟩:=ih (max a x.1) (λy hy=>h1 y (Af _ hy)) ∅;refine⟨g1,by rw[Gc];lia,λy hy=>?_⟩;rw[Gc];rcases List.mem_cons.mp hy with rfl|hy
   ·lia
   ·exact g3 y hy
 obtain⟨y,hy,rfl⟩:=List.mem_map.mp hm;have h0:=hp y hy;obtain⟨g1,g2,g3⟩:=key ys 0 (λz hz=>ha _ (List.mem_map.mpr ⟨z,hz,rfl⟩)) h0;unfold dpt;rw[if_neg (by intro z;rw[z]at hy;cases hy)];have:=g3 y hy
 lia
def aS9(C:Addr):Fv:=λus R=>∃(ys:List Tk)(ns:List Str)(ws:List U),us=[.ob C ("taken"::ns) (.ls (ys.map tkU)::ws)]/\ys.length<=17/\(∀y∈ys,0<=y.1)/\R (.sh (.n (dpt ys)))
abbrev aHl:List Str:=["self"]
def aFs:aK ["self"] ["self"] (aD qZ):={}
def aRb(F:Fun K "deep" "Job.deep" qZ f fd)(cJ:Cfl K C ["taken"])(T:Txt mg):↥1 f fd ["self"] (spV (aS9 C)):=by
 refine vfn F aFs (λcdv A outer s H E hr=>(aF (aQ (aEb rfl T.max (aL (gD (own:=["take"]) (cap:=[]) (aD qZ) aHl rfl rfl (λx h=>bD h) #v[1] rfl (vic (aX (dW cJ (aA 0)))) ↑(aZ (i:=0) (~~~["take"]) rfl (Dc rfl) (Dl rfl)) (bL ⋯) ↑(bH aU bG (aA 0) aH)) aV) aH)))) ?_;rintro _ R ⟨ys,ns,ws,rfl,yl,hp,q⟩;have e:(ys.map tkU).map (λu=>match u with|.tp (x::_)=>x|u=>u)=(ys.map (·.1)).map U.n:=by rw[Az,Az];rfl
 refine⟨rfl,rfl,.inl ⟨rfl,by rw[Ab];lia,eY (h:=λu=>match u with|.tp (x::_)=>x|u=>u) (λu hu k hk=>?_) ?_⟩⟩
 ·obtain⟨y,hy,rfl⟩:=List.mem_map.mp hu;exact⟨_,rfl,hk⟩
 ·rw[Fg,e];refine⟨_,rfl,λz=>?_,λm hm ha=>?_⟩
  ·have z:=List.map_eq_nil_iff.mp z;subst z;exact q
  ·rw[aLz hp hm ha]at q;exact q
inductive aIu(us:List U)(R:(List Str->List U->Prop)):Prop
 |mk (ns:List Int) (rs:List Rim) (q0_:us=[.ls (ns.map U.n),.ls (rs.map Rim.u)]) (q1_:eE ns) (q2_:rs.length=ns.length) (q3_:(∀r∈rs,r.ok)) (q4_:R ["sizes","rims"] [.ls (ns.map U.n),.ls (rs.map Rim.u)]):aIu us R
def aGm:List U->(List Str->List U->Prop)->Prop:=λus R=>aIu us R
def zN(ns:List Int):U.dts 5 (ns.map U.n):=by
 induction ns with
 |nil=>trivial
 |cons r rs ih=>exact⟨trivial,ih⟩
def aQb(rs:List Rim):U.dts 5 (rs.map Rim.u):=by
 induction rs with
 |nil=>trivial
 |cons r rs ih=>exact⟨by cases r<;>first|exact⟨trivial,trivial⟩|exact⟨trivial,trivial,trivial⟩,ih⟩
def xJ:aK ["self","sizes","rims"] ["self","sizes","rims"] (aD kW):={}
def aN7(F:Fun K "__init__" "Grid.__init__" kW f fd)(cG:Cfl K C ["sizes","rims"])(c_check_lines:⇑4 "check_lines" ["sizes","rims"] (spV aMc))(c_product:⇑1 "product" ["sizes"] (spV aPf))(T:Txt mg):↥5 f fd ["self","sizes","rims"] (spI C aGm):=by
 obtain⟨_,g_MOST_PLACES⟩:=T.c_MOST_PLACES;refine F.ok xJ (λvs H Q E h=>?_) (λcdv A outer s H vs Q E hr h=>?_)
 ·obtain⟨x,dx,vs',H1,W,B,us,R,rfl,_,_,_,_,ds,⟨ns,rs,rfl,_⟩,_⟩:=h;rw[Am, <-ds.length];rfl
 ·obtain⟨x,dx,vs',H1,W,B,us,R,rfl,n1,hx,s1,eb,ds,⟨ns,rs,rfl,g,el,rk,hR⟩,q⟩:=h;obtain⟨v1,_,rfl,d1,v2,r,rfl,d2,dr⟩:=ds;obtain rfl:r=[]:=dr;have ee:∀{H'},Fw W H1 H'->EE W B H' [.no,.sh (.ls (ns.map U.n)),.sh (.ls (rs.map Rim.u))] [some (.ref x),some v1,some v2]:=λfw=>qR (nU (DU.mono (eb.keep fw) _ d1) (nU (DU.mono (eb.keep fw) _ d2) (aOp (eb.to fw))));have nw:¬W x:=λz=>eb.dm x (eb.wb x z) n1;have nB:¬B x:=eb.nw n1;refine⟨_,(bO (qT (VE.can (aJ c_check_lines (hr.mono ⋯) rfl (aB (aA 1) (aB (aA 2) aG))))) (bO (yL (VC.can (bJ uI cL (aJ c_product (hr.mono ⋯) rfl (aB (aA 1) aG)) (dR g_MOST_PLACES))) (eG oY) nQ) (bO (jL (pv 0) (VE.can (kE (mQ rfl) vG T.list Jn (aL (aA 1) aV))) rfl) (eG (jL (pv 0) (VE.can (kE (mQ rfl) vG T.list Jn (aL (aA 2) aV))) rfl))))),?_⟩;have f0:=eb.same s1;refine aCp (R:=λ_=>True) (ee f0) ⟨ns,rs,rfl,g.ok,g.l1,g.l3,el,rk,trivial⟩ λs v H2 _ w2 _=>?_;have f2:=f0.trans w2;refine aAv (R:=λc=>c=false) (ee f2) ⟨ns,rfl,g.ok,g.l3,decide_eq_false (by have:=g.mn;lia)⟩ λc H3 hc w3=>?_;subst hc;refine wZ ?_;have f3:=f2.trans w3;have hx3:H3 x=some (.ins C dx []):=w3.fr _ _ nw (w2.fr _ _ nw hx);refine aCp (R:=λs=>s=.ow (ns.map U.n)) (ee f3) rfl λs v4 H4 hs w4 r4=>?_;subst hs;obtain⟨p4,x4,rfl,n4,h4,d4⟩:=r4;have f4:=f3.trans w4;have hx4:=w4.fr _ _ nw hx3;refine⟨_,rfl,x,C,dx,_,rfl,hx4,cG.cl,cG.na _ (by simp),⋯,?_⟩;have f5:=f4.upd (o:=.ins C dx (jW "sizes" (.ref p4) [])) n1 nw;have hx5:upd H4 x (.ins C dx (jW "sizes" (.ref p4) [])) x=_:=aM;have h5:=fG (B:=B) (o:=.ins C dx (jW "sizes" (.ref p4) [])) hx4 p4 _ (λz=>(eb.to f3).dm p4 z n4) h4 (.inr ⟨_,rfl⟩);have d5:=DUs.data (fG (o:=.ins C dx (jW "sizes" (.ref p4) [])) hx4) 5 _ (zN ns) d4.less;revert f5 hx5 h5 d5;generalize upd H4 x (.ins C dx (jW "sizes" (.ref p4) []))=H5;intro f5 hx5 h5 d5;refine aCp (R:=λs=>s=.ow (rs.map Rim.u)) (ee f5) rfl λs v6 H6 hs w6 r6=>?_;subst hs;obtain⟨p6,x6,rfl,n6,h6,d6⟩:=r6;have hx6:=w6.fr _ _ nw hx5;refine⟨_,rfl,x,C,dx,_,rfl,hx6,cG.cl,cG.na _ (by simp),by show(1:Nat)<1000;decide,?_⟩;have e6:=eb.to (f5.trans w6);refine q ["sizes","rims"] _ [.ref p4,.ref p6] _ hR ((f5.trans w6).upd n1 nw) aM rfl ⟨_,_,rfl,⟨p4,x4,rfl,(eb.to f3).nw n4,?_,?_⟩,_,_,rfl,⟨p6,x6,rfl,(eb.to f5).nw n6,?_,?_⟩,rfl⟩
  ·exact fG (B:=B) hx6 p4 _ ((eb.to f3).nw n4) (w6.fr _ _ (λz=>(eb.to f3).nw n4 (eb.wb _ z)) h5) (.inr ⟨_,rfl⟩)
  ·exact DUs.data (fG hx6) 5 _ (zN ns) (DUs.mono ((eb.to f5).keep w6) _ d5)
  ·exact fG (B:=B) hx6 p6 _ ((eb.to f5).nw n6) h6 (.inr ⟨_,rfl⟩)
  ·exact DUs.data (fG hx6) 5 _ (aQb rs) d6.less
def iC(N:Cn)(CG CJ:Addr)(ns:List Int)(rs:List Rim)(t:Tm)(ys:List Tk)(m r:Int)(ls:List (List Int)):U:=.ob CJ ["taken","grid","term","modulus","rounds","first"] [.ls (ys.map tkU),grU CG ns rs,enc N t,.n m,.n r,.ls (pG ls)]
structure aTf(ns:List Int)(rs:List Rim)(t:Tm)(m r:Int)(ls:List (List Int)):Prop where
 gs:eE ns
 el:rs.length=ns.length
 rk:∀x∈rs,x.ok
 hd:ht t<=8
 ok:aHu t
 pr:rJ t<=60
 ln:Ln t ns.length
 m2:2<=m/\m<=1000000000
 r0:0<=r/\r<=12
 rm:r*rG ns<=120
 dp:∀ys,vL t ys->(ls.length:Int)=dpt ys
 l3:ls.length<=3
 rw_:∀l∈ls,GoodR (rG ns) m l
inductive aI2(N:Cn)(CG:Addr)(us:List U)(R:(List Str->List U->Prop)):Prop
 |mk (ns:List Int) (rs:List Rim) (t:Tm) (m r:Int) (ls:List (List Int)) (q0_:us=[grU CG ns rs,enc N t,.n m,.n r,.ls (pG ls)]) (q1_:aTf ns rs t m r ls) (q2_:∀ys,vL t ys->R ["taken","grid","term","modulus","rounds","first"] [.ls (ys.map tkU),grU CG ns rs,enc N t,.n m,.n r,.ls (pG ls)]):aI2 N CG us R
def aH4(N:Cn)(CG:Addr):List U->(List Str->List U->Prop)->Prop:=λus R=>aI2 N CG us R
def aQr(ls:List (List Int)):U.dts 6 (pG ls):=by
 induction ls with
 |nil=>trivial
 |cons l ls ih=>exact⟨zN l,ih⟩
def aO1(ys:List Tk):U.dts 7 (ys.map tkU):=by
 induction ys with
 |nil=>trivial
 |cons y ys ih=>exact⟨⟨trivial,zN y.2,trivial⟩,ih⟩
def bAe(i j:Int):U.eq (.n i) (.n j)=(i==j):=rfl
abbrev aA5:List Str:=["self","grid","term","modulus","rounds","first"]
def yQ:aK ["self","grid","term","modulus","rounds","first"] ["self","grid","term","modulus","rounds","first"] (aD iM):={}
def aMa{CG CJ:Addr}(F:Fun K "__init__" "Job.__init__" iM f fd)(cJ:Cfl K CJ ["taken","grid","term","modulus","rounds","first"])(c_check_term:⇑13 "check_term" ["term"] (spV (aI8 N 8)))(c_lines_of:⇑11 "lines_of" ["term"] (spV (aA1 N 8)))
  (c_is_within:⇑2 "is_within" PW3 (spV iV)) (c_are_rows:⇑4 "are_rows" ["thing","deep","many","modulus"] (spV aFp)) (D_takes:lG P w K mg base N 9 "takes" (sE N 8)) (D_lines:Dis P w K mg base CX0 1 (·=CG) "lines" ["self"] λ_=>spV (aGt CG)) (D_places_many:Dis P w K mg base CX0 2 (·=CG) "places_many" ["self"] λ_=>spV (aSh CG)) (D_deep:Dis P w K mg base CX0 1 (·=CJ) "deep" ["self"] λ_=>spV (aS9 CJ)) (T:Txt mg):↥14 f fd ["self","grid","term","modulus","rounds","first"] (spI CJ (aH4 N CG)):=by
 obtain⟨_,g_GREATEST_MODULUS⟩:=T.c_GREATEST_MODULUS;obtain⟨_,g_MOST_ROUNDS⟩:=T.c_MOST_ROUNDS;obtain⟨_,g_MOST_SPOTS⟩:=T.c_MOST_SPOTS;refine F.ok yQ (λvs H Q E h=>?_) (λcdv A outer s H vs Q E hr h=>?_)
 ·obtain⟨x,dx,vs',H1,W,B,us,R,rfl,_,_,_,_,ds,⟨ns,rs,t,m,r,ls,rfl,_⟩,_⟩:=h;rw[Am, <-ds.length];rfl
 ·obtain⟨x,dx,vs',H1,W,B,us,R,rfl,n1,hx,s1,eb,ds,⟨ns,rs,t,m,r,ls,rfl,g,hR⟩,q⟩:=h;obtain⟨v1,_,rfl,d1,v2,_,rfl,d2,v3,_,rfl,d3,v4,_,rfl,d4,v5,r5,rfl,d5,dr⟩:=ds;obtain rfl:r5=[]:=dr;have ee:∀{H' s0},Fw W H1 H'->EE W B H' [s0,.sh (grU CG ns rs),.sh (enc N t),.sh (.n m),.sh (.n r),.sh (.ls (pG ls))] [some (.ref x),some v1,some v2,some v3,some v4,some v5]->EE W B H' [s0,.sh (grU CG ns rs),.sh (enc N t),.sh (.n m),.sh (.n r),.sh (.ls (pG ls))] [some (.ref x),some v1,some v2,some v3,some v4,some v5]:=λ_ e=>e;have et:∀{H'},Fw W H1 H'->EE W B H' [.sh (grU CG ns rs),.sh (enc N t),.sh (.n m),.sh (.n r),.sh (.ls (pG ls))] [some v1,some v2,some v3,some v4,some v5]:=λfw=>nU (DU.mono (eb.keep fw) _ d1) (nU (DU.mono (eb.keep fw) _ d2) (nU d3 (nU d4 (nU (DU.mono (eb.keep fw) _ d5) (aOp (eb.to fw))))));have nw:¬W x:=λz=>eb.dm x (eb.wb x z) n1;refine⟨_,(bO (qT (VE.can (aJ c_check_term (hr.mono ⋯) rfl (aB (aA 2) aG)))) (bO (yL (VC.can (bJ (tZ (huD hr)) aCm (aJ c_lines_of (hr.mono ⋯) rfl (aB (aA 2) aG)) (bZ (aB tO (aB (bY (aA 1) D_lines (hr.mono ⋯)) aG))))) (eG oY) nQ) (bO (yL (VC.can (cT (cQ (aJ c_is_within (hr.mono ⋯) rfl (aB (aA 3) (aB aH (aB (dR g_GREATEST_MODULUS) aG))))))) (eG oY) nQ) (bO (yL (VC.can (mY (pJ (cT (cQ (aJ c_is_within (hr.mono ⋯) rfl (aB (aA 4) (aB aH (aB (dR g_MOST_ROUNDS) aG)))))) (kO (bJ uI cL (bT lF uR (aA 4) (bY (aA 1) D_places_many (hr.mono ⋯))) (dR g_MOST_SPOTS)))))) (eG oY) nQ) (bO (jL (pv 0) (VE.can (bY (aA 2) D_takes (hr.mono ⋯))) rfl) (bO (yL (VC.can (cT (cQ (aJ c_are_rows (hr.mono ⋯) rfl (aB (aA 5) (aB (bY (aA 0) D_deep (hr.mono ⋯)) (aB (bY (aA 1) D_places_many (hr.mono ⋯)) (aB (aA 3) aG)))))))) (eG oY) nQ) (bO (jL (pv 0) (pv 1) rfl) (bO (jL (pv 0) (pv 2) rfl) (bO (jL (pv 0) (pv 3) rfl) (bO (jL (pv 0) (pv 4) rfl) (eG (jL (pv 0) (VE.can (gD (own:=["row"]) (cap:=[]) (aD iM) aA5 rfl rfl (λx h=>bD h) #v[1] rfl (vic (aX (aA 5))) ↑(aZ (i:=0) (~~~["row"]) rfl (Dc rfl) (Dl rfl)) (bL ⋯) ↑(kE (mQ rfl) vG T.list Jn (aL (aA 0) aV)))) rfl)))))))))))),?_⟩;have f0:=eb.same s1;refine aCp (R:=λ_=>True) (qR (et f0)) ⟨t,_,rfl,g.hd,g.ok,g.pr,g.ln,trivial⟩ λs v H2 _ w2 _=>?_;have f2:=f0.trans w2;refine aAv (R:=λc=>c=false) (qR (et f2)) ⟨t,_,rfl,g.hd,g.ln,λs hs=>?_⟩ λc H3 hc w3=>?_
  ·rcases hs with rfl|rfl
   ·exact⟨rfl,rfl,ns,rs,rfl,trivial,⟨trivial,trivial,trivial⟩,rfl⟩
   ·refine⟨rfl,rfl,ns,rs,rfl,trivial,⟨trivial,trivial,trivial⟩,?_⟩;simp[bAe,Sl.rd]
  subst hc;refine wZ ?_;have f3:=f2.trans w3;refine aAv (R:=λc=>c=false) (qR (et f3)) ⟨_,_,_,_,rfl,rfl,?_⟩ λc H4 hc w4=>?_
  ·show(!isIn (.n m) 2 1000000000)=false;simp[isIn,g.m2.1,g.m2.2]
  subst hc;refine wZ ?_;have f4:=f3.trans w4;refine aAv (R:=λc=>c=false) (qR (et f4)) ⟨_,_,_,_,rfl,rfl,λz=>?_,λ_=>⟨rfl,rfl,ns,rs,rfl,g.gs,?_⟩⟩ λc H5 hc w5=>?_
  ·simp[isIn,g.r0.1,g.r0.2]at z
  ·refine⟨.inl ⟨by have:=g.r0;lia,by have:=g.r0;lia⟩,?_⟩;exact decide_eq_false (by have:=g.rm;lia)
  subst hc;refine wZ ?_;have f5:=f4.trans w5;have hx5:H5 x=some (.ins CJ dx []):=w5.fr _ _ nw (w4.fr _ _ nw (w3.fr _ _ nw (w2.fr _ _ nw hx)));refine aCp (R:=λs=>∃ys,vL t ys/\s=.ow (ys.map tkU)) (qR (et f5)) (fV t #v[1] ⟨t,rfl,rfl,g.hd,g.ln.few,λys hy=>⟨ys,hy,rfl⟩⟩) λs v6 H6 hs w6 r6=>?_;obtain⟨ys,hy,rfl⟩:=hs;obtain⟨p6,x6,rfl,n6,h6,d6⟩:=r6;have f6:=f5.trans w6;have hx6:=w6.fr _ _ nw hx5;have nB6:¬B p6:=(eb.to f5).nw n6;refine⟨_,rfl,x,CJ,dx,_,rfl,hx6,cJ.cl,cJ.na _ (by simp),⋯,?_⟩;have f7:=f6.upd (o:=.ins CJ dx (jW "taken" (.ref p6) [])) n1 nw;have hx7:upd H6 x (.ins CJ dx (jW "taken" (.ref p6) [])) x=_:=aM;have h7:=fG (B:=B) (o:=.ins CJ dx (jW "taken" (.ref p6) [])) hx6 p6 _ nB6 h6 (.inr ⟨_,rfl⟩);have d7:=DUs.data (fG (o:=.ins CJ dx (jW "taken" (.ref p6) [])) hx6) 7 _ (aO1 ys) d6.less;revert f7 hx7 h7 d7;generalize upd H6 x (.ins CJ dx (jW "taken" (.ref p6) []))=H7;intro f7 hx7 h7 d7;have yl:=aD2 g.ln.few hy;have yp:∀y∈ys,0<=y.1:=λy h=>by have:=(g.ok.2 y ((hy.2 y).mp h)).1.1;lia
  have dJ:DU W B H7 (.ob CJ ["taken"] [.ls (ys.map tkU)]) (.ref x):=⟨x,dx,[.ref p6],rfl,eb.nw n1,hx7,rfl,_,_,rfl,⟨p6,x6,rfl,nB6,h7,d7⟩,rfl⟩;refine aAv (R:=λc=>c=false) (nU dJ (et f7)) ⟨rfl,rfl,ys,[],[],rfl,yl,yp,rfl,rfl,ns,rs,rfl,g.gs,ls,_,_,_,rfl,g.dp ys hy,g.l3,g.rw_,rfl⟩ λc H8 hc w8=>?_;subst hc;refine wZ ?_;have step:∀{H fs fs'},(Fw W H1 H/\H x=some (.ins CJ dx fs)/\DU W B H (.ls (ys.map tkU)) (.ref p6))->(Fw W H1 (upd H x (.ins CJ dx fs'))/\upd H x (.ins CJ dx fs') x=some (.ins CJ dx fs')/\DU W B (upd H x (.ins CJ dx fs')) (.ls (ys.map tkU)) (.ref p6)):=λ⟨a,b,c⟩=>⟨a.upd n1 nw,aM,DU.data (fG b) 8 _ (aO1 ys) c⟩;have k8:Fw W H1 H8/\H8 x=some (.ins CJ dx [("taken",.ref p6)])/\DU W B H8 (.ls (ys.map tkU)) (.ref p6):=⟨f7.trans w8,w8.fr _ _ nw hx7,DU.mono ((eb.to f7).keep w8) _ ⟨p6,x6,rfl,nB6,h7,d7⟩⟩;have fl:∀{k:Nat},k<=6->k<1000:=λh=>by lia
  refine⟨_,rfl,_,rfl,x,CJ,dx,_,rfl,k8.2.1,cJ.cl,cJ.na _ (by simp),fl (by show(1:Nat)<=6;decide),?_⟩;have k9:=step (fs':=[("taken",.ref p6),("grid",v1)]) k8;refine⟨_,rfl,_,rfl,x,CJ,dx,_,rfl,k9.2.1,cJ.cl,cJ.na _ (by simp),fl (by show(2:Nat)<=6;decide),?_⟩;have k10:=step (fs':=[("taken",.ref p6),("grid",v1),("term",v2)]) k9;refine⟨_,rfl,_,rfl,x,CJ,dx,_,rfl,k10.2.1,cJ.cl,cJ.na _ (by simp),fl (by show(3:Nat)<=6;decide),?_⟩;have k11:=step (fs':=[("taken",.ref p6),("grid",v1),("term",v2),("modulus",v3)]) k10;refine⟨_,rfl,_,rfl,x,CJ,dx,_,rfl,k11.2.1,cJ.cl,cJ.na _ (by simp),fl (by show(4:Nat)<=6;decide),?_⟩;have k12:=step (fs':=[("taken",.ref p6),("grid",v1),("term",v2),("modulus",v3),("rounds",v4)]) k11;refine aCp (R:=λs=>s=.ow (pG ls)) (qR (et k12.1)) ⟨by have:=g.l3;show(pG ls).length<=_;unfold pG;rw[Ab];lia,eY (h:=id) (λu hu k hk=>?_) (by rw[Fg,List.map_id])⟩ λs v13 H13 hs w13 r13=>?_
  ·obtain⟨l,_,rfl⟩:=List.mem_map.mp hu;exact hk
  subst hs;obtain⟨p13,x13,rfl,n13,h13,d13⟩:=r13;have f13:=k12.1.trans w13;have nB13:¬B p13:=(eb.to k12.1).nw n13;have k13:Fw W H1 H13/\H13 x=some (.ins CJ dx [("taken",.ref p6),("grid",v1),("term",v2),("modulus",v3),("rounds",v4)])/\DU W B H13 (.ls (ys.map tkU)) (.ref p6):=⟨f13,w13.fr _ _ nw k12.2.1,DU.mono ((eb.to k12.1).keep w13) _ k12.2.2⟩;refine⟨_,rfl,x,CJ,dx,_,rfl,k13.2.1,cJ.cl,cJ.na _ (by simp),fl (by show(5:Nat)<=6;decide),?_⟩;have k14:=step (fs':=[("taken",.ref p6),("grid",v1),("term",v2),("modulus",v3),("rounds",v4),("first",.ref p13)]) k13;have fin:=λu{v:V}(d:DU W B H1 u v)=>DU.mono (eb.keep k14.1) u d;exact q _ _ [.ref p6,v1,v2,v3,v4,.ref p13] _ (hR ys hy) k14.1 aM rfl ⟨_,_,rfl,k14.2.2,_,_,rfl,fin _ d1,_,_,rfl,fin _ d2,_,_,rfl,fin _ d3,_,_,rfl,fin _ d4,_,_,rfl,⟨p13,x13,rfl,nB13,fG (B:=B) k13.2.1 p13 _ nB13 h13 (.inr ⟨_,rfl⟩),DUs.data (fG k13.2.1) 6 _ (aQr ls) d13.less⟩,rfl⟩
def aY0{c:Bool}{a b:Prop}(h:c=true)(x:a):if c=true then a else b:=by rw[if_pos h];exact x
def aXy{c:Bool}{a b:Prop}(h:c=false)(x:b):if c=true then a else b:=by rw[if_neg (by rw[h];exact Ao)];exact x
def aC6(K:Ae)(ns:List Int):Opq where
 φ:=λ_ B H v=>∃a,v=.ref a/\((¬B a/\Rd H a (.lst (ns.map V.int)))∨∀H',SqL K H' a (ns.map V.int))
 mono:=λk ⟨a,e,h⟩=>by
  rcases h with ⟨nb,h|⟨o,h⟩⟩|h
  ·exact⟨a,e,.inl ⟨(k _ _ nb h).1,.inl (k _ _ nb h).2⟩⟩
  ·exact⟨a,e,.inl ⟨(k _ _ nb h).1,.inr ⟨o,(k _ _ nb h).2⟩⟩⟩
  ·exact⟨a,e,.inr h⟩
 wm:=λ_ h=>h
def aS3(K:Ae):Fv:=λus R=>∃(ns:List Int)(k:Nat),us=[.op (aC6 K ns),.n (k:Int)]/\∀n:Int,R (.sh (.n n))
def aXc(x:Int): -(2 ^ 64)<x % 2147483647/\x % 2147483647<2 ^ 64:=by lia
def DUs.two{W B:Addr->Prop}{H:Hp}{u v:U}{vs:List V}(h:DUs W B H [u,v] vs):∃x y,vs=[x,y]/\DU W B H u x/\DU W B H v y:=by
 obtain⟨x,_,rfl,d1,y,r,rfl,d2,e⟩:=h;obtain rfl:r=[]:=e;exact⟨x,y,rfl,d1,d2⟩
def yS:aK ["_law_script","_law_k"] ["_law_script","_law_k"] (aD mR):={}
def aPy(F:Fun K "_law_cell_at" "_law_cell_at" mR f fd)(T:Txt mg):↥1 f fd ["_law_script","_law_k"] (spV (aS3 K)):=by
 refine F.ok yS (λvs H Q E h=>?_) (λcdv A outer s H vs Q E hr h=>?_)
 ·obtain⟨W,B,us,R,eb,ds,⟨ns,k,rfl,_⟩,_⟩:=h;rw[<-ds.length];rfl
 ·obtain⟨W,B,us,R,eb,ds,⟨ns,k,rfl,hR⟩,q⟩:=h;obtain⟨x,y,rfl,⟨a,rfl,hs⟩,⟨rfl,_⟩⟩:=DUs.two ds;have hS:SqL K H a (ns.map V.int):=hs.elim (λh=> .inl h.2) λh=>h H;have q':∀n:Int,Q (.int n) H:=λn=>q _ _ _ (hR n) eb.refl ⟨rfl,rfl⟩;refine⟨_,(bO (yL (aD8 aCc (pv 1) (iW aR (by rfl) T.len PySem.boot_len (cF (pv 0) eO)) (aA9 _)) (eG (xV (yO nG (pv 0) (pv 1) (λ_ _=>rfl)))) nQ) (eG (xV dH))),?_⟩;refine⟨_,rfl,_,rfl,a,_,rfl,.inl hS,_,_,rfl,rfl,_,rfl,?_⟩;by_cases h:k<ns.length
  ·refine aY0 (decide_eq_true (by rw[Ab];lia)) ?_;exact⟨_,rfl,_,rfl,a,_,_,_,rfl,rfl,hS,jA (show(ns.map V.int)[k]? =some (.int ns[k]) by rw[As,Ag h];rfl),q' _⟩
  ·exact aXy (decide_eq_false (by rw[Ab];lia)) (q' 0)
def aCd:Fv:=λus R=>∃m:Int,us=[.wl,.n m]/\0<m/\m<2 ^ 62/\∀r:Int,0<=r->r<m->R (.sh (.n r))
def lX:aK ["_law_tape_here","_law_many","_law_number"] ["_law_tape_here","_law_many"] (aD sH):={}
def aRw(F:Fun K "_law_draw" "_law_draw" sH f fd):↥1 f fd ["_law_tape_here","_law_many"] (spV aCd):=by
 refine F.ok lX (λvs H Q E h=>?_) (λcdv A outer s H vs Q E hr h=>?_)
 ·obtain⟨W,B,us,R,eb,ds,⟨m,rfl,_⟩,_⟩:=h;rw[<-ds.length];rfl
 ·obtain⟨W,B,us,R,eb,ds,⟨m,rfl,hm,hm2,hR⟩,q⟩:=h;obtain⟨v1,v2,rfl,⟨a,rfl,wa⟩,⟨rfl,_⟩⟩:=DUs.two ds;obtain⟨x,y,z,ha⟩:=eb.wo a wa;have up:∀(x y z:Int),Fw W H (upd H a (.lst [.int x,.int y,.int z])):=λx y z=>⟨λb o nw h=>(aO (λe:b=a=>nw (by rw[e];exact wa))).trans h,λp hp=>by
   by_cases e:p=a
   ·exact⟨x,y,z,by rw[e,aM]⟩
   ·obtain⟨x',y',z',h⟩:=eb.wo p hp;exact⟨x',y',z',(aO e).trans h⟩⟩
  have fin:∀(t:Int)(H':Hp),Fw W H H'->Q (.int (t % m)) H':=λt H' fw=>q _ _ _ (hR (t % m) (Jb t ∅) (Hi t hm)) fw ⟨rfl,rfl⟩;refine⟨_,(bO (yL (aD8 uI (yO nG (pv 0) dH (λ_ _=>rfl)) dH (aA9 _)) (bO (aEc (i:=2) lX.nd rfl (Dc rfl) (jJ mH (yO nG (pv 0) dH (λ_ _=>rfl)) (pv 1))) (bO (aO8 (jJ aA2 (yO nG (pv 0) dH (λ_ _=>rfl)) (pv 1)) (aNi (pv 0) dH set_list)) (eG (xV (pv 2))))) nQ) (bO (aO8 (jJ wX (yO nG (pv 0) dH (λ_ _=>rfl)) dH) (aNi (pv 0) dH set_list)) (bO (aEc (i:=2) lX.nd rfl (Dc rfl) (jJ mH (jJ lF (jJ wX (jJ wX (yO nG (pv 0) dH (λ_ _=>rfl)) (jJ lF dH (yO nG (pv 0) dH (λ_ _=>rfl)))) dH) dH) dH)) (bO (aEc (i:=2) lX.nd rfl (Dc rfl) (jJ mH (jJ lF (pv 2) (jJ wX (jJ aA2 (pv 2) dH) dH)) dH)) (eG (xV (jJ mH (jJ mH (jJ lF (pv 2) (jJ wX (jJ aA2 (pv 2) dH) dH)) dH) (pv 1)))))))),?_⟩;refine⟨_,rfl,a,_,_,_,rfl,rfl,SqL.of ha,rfl,_,_,rfl,rfl,_,rfl,?_⟩;refine aZ0 (λ_=>?_) (λ_=>?_)
  ·refine⟨_,rfl,a,_,_,_,rfl,rfl,SqL.of ha,rfl,_,rfl,_,_,rfl,rfl,hm,?_⟩;refine⟨_,rfl,a,_,_,_,rfl,rfl,SqL.of ha,rfl,_,rfl,_,_,rfl,rfl,⟨hm,hm2⟩,?_⟩;refine⟨_,rfl,a,_,_,1,rfl,rfl,ha,rfl,?_⟩;exact⟨_,rfl,fin _ _ (up _ _ _)⟩
  ·refine⟨_,rfl,a,_,_,_,rfl,rfl,SqL.of ha,rfl,_,_,rfl,rfl,?_⟩;refine⟨_,rfl,a,_,_,2,rfl,rfl,ha,rfl,?_⟩;have hb:(upd H a (.lst ([V.int x,V.int y,V.int z].set 2 (.int (z+1))))) a=some (.lst [.int x,.int y,.int (z+1)]):=aM;refine⟨_,rfl,a,_,_,_,rfl,rfl,SqL.of hb,rfl,_,rfl,a,_,_,_,rfl,rfl,SqL.of hb,rfl,_,_,rfl,rfl,.inl ⟨⋯,⋯⟩,_,_,rfl,rfl,_,_,rfl,rfl,_,_,rfl,rfl,.inr ⟨⋯,⋯⟩,_,_,rfl,rfl,(by show(0:Int)<2147483647;decide),?_⟩;refine⟨_,rfl,_,rfl,_,_,rfl,rfl,⟨⋯,⋯⟩,_,_,rfl,rfl,_,_,rfl,rfl,.inl (aXc _),_,_,rfl,rfl,(by show(0:Int)<2147483647;decide),?_⟩;refine⟨_,rfl,_,rfl,_,_,rfl,rfl,⟨⋯,⋯⟩,_,_,rfl,rfl,_,_,rfl,rfl,.inl (aXc _),_,_,rfl,rfl,(by show(0:Int)<2147483399;decide),_,rfl,_,_,rfl,rfl,hm,?_⟩;exact fin _ _ (up _ _ _)
theorem aIk{W B:Addr->Prop}{H:Hp}:∀ns:List Int,DUs W B H (ns.map U.n) (ns.map V.int)
 | []=>rfl
 |_::l=>⟨_,_,rfl,⟨rfl,rfl⟩,aIk l⟩
def bAj(K:Ae)(F:TV)(L M:TVo):TV:=λρ R=>F ρ λs=>L ρ λlo=>M ρ λhi=>∃ns:List Int,s=.sh (.op (aC6 K ns))/\R (.ow (qG (ns.map U.n) lo hi))
def aTx{X:Cx}{K:Ae}{a:Expr}{lo hi:Option Expr}{p2 pos:Pos}{F:TV}{L M:TVo}(hK:X.K=K)(ha:VE X a F)(hl:VO X lo L)(hh:VO X hi M):VE X (.Subscript a (.Slice lo hi none p2) pos) (bAj K F L M):=by
 subst hK;obtain⟨_,p,f⟩:=ha;obtain⟨_,p1,f1⟩:=hl;obtain⟨_,p2,f2⟩:=hh;refine⟨_,aE0 (aIb.or aMf) p p1 p2,λ{W B ρ σ H R Q} e h q=>f e h λs v H1 h1 w1 r1=>f1 (e.to w1) h1 λlo H2 h2 w2=>f2 ((e.to w1).to w2) h2 λhi H3 h3 w3=>?_⟩;have e3:=((e.to w1).to w2).to w3;have ww:=(w1.trans w2).trans w3;obtain⟨ns,rfl,h3⟩:=h3;have d:DU W B H3 (.op (aC6 X.K ns)) v:=DU.mono (((e.to w1).to w2).eb.keep w3) _ (DU.mono ((e.to w1).eb.keep w2) _ r1);obtain⟨a,rfl,ha⟩:=d;refine .inl ⟨a,ns.map V.int,rfl,ha.elim (λz=> .inl z.2) λz=>z H3,λp n=>?_⟩;have f4:=e3.eb.new (o:=.lst (aAs (ns.map V.int) lo hi)) n;exact q _ _ _ h3 (ww.trans f4) (RO.back (s:=.ow _) ww ⟨p,_,rfl,n,aM,DUs.mono (λb o nb h=>⟨λz=>z.elim nb (aN h n),(e3.eb.keep f4 b o nb h).2⟩) _ (aIk (W:=W) (B:=B) (H:=H3) ns).cut⟩)
structure aF2(ys:List Tk)(n:Nat):Prop where
 gt:∀y∈ys,aBh y/\y.2.length=n
 yl:ys.length<=17
 n3:n<=3
def aAw{α:Type}{g:Tk->U}{f:U->(Option U->Prop)->Prop}{Q:List U->Prop}(hf:∀y∈ys,∀k:Option U->Prop,k (some (g y))->f (tkU y) k)(hq:Q (ys.map g)):cO f (ys.map tkU) [] Q:=by
 have key:∀(zs:List Tk)(acc:List U),(∀y∈zs,∀k:Option U->Prop,k (some (g y))->f (tkU y) k)->Q (acc++zs.map g)->cO f (zs.map tkU) acc Q:=by
  intro zs;induction zs with
  |nil=>exactλacc _ q=>by rw[Ep,Ax]at q;exact q
  |cons z zs ih=>exactλacc hf q=>hf z Ah _ (ih _ (λy hy=>hf y (Af _ hy)) (by rw[Bu];exact q))
 exact key ys [] hf hq
def rW(n:Nat)(ns:List Int):U.dts n (ns.map U.n):=by
 induction ns with
 |nil=>cases n<;>trivial
 |cons r rs ih=>cases n<;>exact⟨trivial,ih⟩
def gM(n:Nat)(ys:List Tk):U.dts (n+2) (ys.map tkU):=by
 induction ys with
 |nil=>trivial
 |cons y ys ih=>exact⟨⟨trivial,rW n y.2,trivial⟩,ih⟩
def zO(ys:List Tk):U.eq (.ls (ys.map tkU)) (.ls [])=ys.isEmpty:=by cases ys<;>rfl
def mO{p:Tk->Bool}{f:U->(Option U->Prop)->Prop}{Q:List U->Prop}(hf:∀y∈ys,∀k:Option U->Prop,(p y=true->k (some (tkU y)))->(p y=false->k none)->f (tkU y) k)(hq:Q ((ys.filter p).map tkU)):cO f (ys.map tkU) [] Q:=by
 have key:∀(zs:List Tk)(acc:List U),(∀y∈zs,∀k:Option U->Prop,(p y=true->k (some (tkU y)))->(p y=false->k none)->f (tkU y) k)->Q (acc++(zs.filter p).map tkU)->cO f (zs.map tkU) acc Q:=by
  intro zs;induction zs with
  |nil=>exactλacc _ q=>by rw[Sw,Ep,Ax]at q;exact q
  |cons z zs ih=>
   intro acc hf q;refine hf z Ah _ (λh=>?_) λh=>?_
   ·rw[Jz h]at q;exact ih _ (λy hy=>hf y (Af _ hy)) (by rw[Bu];exact q)
   ·rw[Ka (by rw[h];exact Ao)]at q;exact ih _ (λy hy=>hf y (Af _ hy)) q
 exact key ys [] hf hq
def pU(p:List Int):U:=.tp (p.map U.n)
def ext(n:Int)(p:List Int):List (List Int):=(Bk n.toNat).map λ(i:Nat)=>p++[0+(i:Int)]
def uC(ns:List Int):List (List Int):=ns.foldl (λps n=>ps.flatMap (ext n)) [[]]
abbrev plU(ns:List Int):List U:=(uC ns).map pU
def spU(pl:List U)(n:Nat):List U:=(Bk n).flatMap λ(j:Nat)=>pl.map λu=> .tp [.n (1+(j:Int)),u]
theorem aI6{x:Str}{u:U}{R:Sl->Prop}(q:R (.sh u)):∀{xs:List Str}{us:List U}{k:Nat},xs.Nodup->xs[k]? =some x->us[k]? =some u->aHy x xs us R
 | [],_,_,_,h,_=>by simp at h
 |_::_,[],_,_,_,h=>by simp at h
 |a::xs,v::us,0,_,h1,h2=>by
  simp at h1 h2;subst h1 h2;exact .inl ⟨rfl,q⟩
 |a::xs,v::us,k+1,nd,h1,h2=>by
  have h1:xs[k]? =some x:=by simpa using h1
  refine .inr ⟨λe=>?_,aI6 q (List.nodup_cons.mp nd).2 h1 (by simpa using h2)⟩;subst e;exact(List.nodup_cons.mp nd).1 (Ay h1)
def zW(pl:List U)(n:Nat):spU pl n++(pl.map λu=> .tp [.n (1+(n:Int)),u])=spU pl (n+1):=by
 unfold spU;rw[List.range_succ,Lf];simp
def byR:Rim->Int->Int->Option Int
 |.fixed _,s,x=>if 0<=x/\x<s then some x else none
 |.mirror,s,x=>if 0<=x/\x<s then some x else some (mir s x)
 |.round,s,x=>if 0<=x/\x<s then some x else some (x % s)
def oU:Option Int->U
 |none=> .no
 |some i=> .n i
def aYo:Fv:=λus R=>∃(r:Rim)(s x:Int),us=[r.u,.n s,.n x]/\0<s/\s<=9/\R (.sh (oU (byR r s x)))
def xQ:aK ["rim","size","number"] ["rim","size","number"] (aD lC):={}
def aTk(F:Fun K "number_by_rim" "number_by_rim" lC f fd)(c_mirrored:⇑1 "mirrored" ["size","number"] (spV aXf)):↥2 f fd ["rim","size","number"] (spV aYo):=by
 refine vfn F xQ (λcdv A outer s H E hr=>(aC (bQ (tH uH aCc cL cL aH (aA 2) (aA 1)) (aF (cZ 2)) aW) (aC (bQ (bJ (dO (huD hr)) cV (bH aU bG (aA 0) aH) dX) (aF (aQ (bT mH uR (aA 2) (aA 1)))) aW) (aC (bQ (bJ (dO (huD hr)) cV (bH aU bG (aA 0) aH) dX) (aF (aQ (aJ c_mirrored (hr.mono ⋯) rfl (aB (aA 1) (aB (aA 2) aG))))) aW) (aF (aQ tO)))))) ?_;rintro _ R ⟨r,s,x,rfl,h1,h2,q⟩;refine⟨rfl,?_⟩;have fin:(0<=x/\x<s)->R (.sh (.n x)):=λh=>by
  have:byR r s x=some x:=by cases r<;>exact if_pos h
  rw[this]at q;exact q
 have no:∀{k:Bool},k=false->¬k=true:=λh z=>by rw[h]at z;cases z
 refine⟨λh=>⟨λh'=>fin ⟨of_decide_eq_true h,of_decide_eq_true h'⟩,λh'=>?_⟩,λh=>⟨nofun,λ_=>?_⟩⟩
 all_goals
  have nn:¬(0<=x/\x<s):=λz=>by first|exact absurd z.2 (of_decide_eq_false h')|exact absurd z.1 (of_decide_eq_false h)
  clear fin;cases r with
  |fixed c=>
   rw[show byR (.fixed c) s x=none from if_neg nn]at q;exact⟨_,rfl,trivial,trivial,λz=>absurd z (no #v[1]),λ_=>⟨_,rfl,trivial,trivial,λz=>absurd z (no #v[1]),λ_=>q⟩⟩
  |mirror=>
   rw[show byR .mirror s x=some (mir s x)from if_neg nn]at q;exact⟨_,rfl,trivial,trivial,λz=>absurd z (no #v[1]),λ_=>⟨_,rfl,trivial,trivial,λ_=>⟨s,x,rfl,h1,∅,q⟩,λz=>absurd (show _=true by decide+kernel) (no z)⟩⟩
  |round=>
   rw[show byR .round s x=some (x % s)from if_neg nn]at q;exact⟨_,rfl,trivial,trivial,λ_=>⟨h1,q⟩,λz=>absurd (show _=true by decide+kernel) (no z)⟩
def Rim.c:Rim->Int
 |.fixed c=>c
 |_=>0
def bes:List Int->List Rim->List Int->List Int->Except Int (List Int)
 |n::ns,r::rs,i::is,s::ss=>match byR r n (i+s)with
  |none=> .error r.c
  |some x=>match bes ns rs is ss with
   |.error c=> .error c
   |.ok l=> .ok (x::l)
 |_,_,_,_=> .ok []
def aZf:Except Int (List Int)->U
 |.error c=> .tp [.s "rim",.n c]
 |.ok l=> .tp [.s "place",.tp (l.map U.n)]
def pre(xs:List Int):Except Int (List Int)->Except Int (List Int)
 |.error c=> .error c
 |.ok l=> .ok (xs++l)
def aXu(C:Addr):Fv:=λus R=>∃(ns:List Int)(rs:List Rim)(is ss:List Int),us=[grU C ns rs,.tp (is.map U.n),.tp (ss.map U.n)]/\eE ns/\rs.length=ns.length/\is.length=ns.length/\ss.length=ns.length/\R (.sh (aZf (bes ns rs is ss)))
def fL:aK ["self","place","steps","numbers","line","rim","number"] ["self","place","steps"] (aD oM):={}
def aVt(F:Fun K "beside" "Grid.beside" oM f fd)(cG:Cfl K C ["sizes","rims"])(c_number_by_rim:⇑2 "number_by_rim" ["rim","size","number"] (spV aYo))(T:Txt mg):↥3 f fd ["self","place","steps"] (spV (aXu C)):=by
 refine vfn F fL (λcdv A outer s H E hr=>(aC (aP (i:=3) fL.nd (bK aG)) (aC (bW Au rfl (lU T.enumerate (aB (dW cG (aA 0)) aG)) (mF rfl (bU (i:=4) fL.nd (bU (i:=5) fL.nd iD))) (aC (aP (i:=6) fL.nd (aJ c_number_by_rim (hr.mono ⋯) rfl (aB (aA 5) (aB (bH aU bG (dW cG (aA 0)) (aA 4)) (aB (bT dG fB (bH aU bG (aA 1) (aA 4)) (bH aU bG (aA 2) (aA 4))) aG))))) (aC (bQ (aVn (aA 6)) (aF (aQ (bZ (aB dX (aB (bH aU bG (aA 5) aH) aG))))) aW) (aF (wY 3 (aA 6)))))) (aF (aQ (bZ (aB dX (aB (kE (yM rfl) aF7 T.tuple Lv (aL (aA 3) aV)) aG)))))))) ?_;rintro _ R ⟨ns,rs,is,ss,rfl,gs,el,il,sl,q⟩;refine⟨rfl,rfl,.inr ⟨by decide+kernel,.inl ⟨rfl,?_⟩⟩⟩;refine bC (λl ρ=>∃(k:Nat)(qs:List Rim)(xs:List Int)(x y z:Sl),l=(qs.map Rim.u |>.zipIdx k).map (λx=> .tp [.n (x.2:Nat),x.1])/\ρ=[.sh (grU C ns rs),.sh (.tp (is.map U.n)),.sh (.tp (ss.map U.n)),.ow (xs.map U.n),x,y,z]/\k+qs.length=ns.length/\xs.length=k/\bes ns rs is ss=pre xs (bes (ns.drop k) qs (is.drop k) (ss.drop k))) ?_ ?_ ⟨0,rs,[],_,_,_,rfl,rfl,∅,rfl,by rw[Gq,Gq,Gq];cases bes ns rs is ss<;>rfl⟩
 ·rintro ρ ⟨k,qs,xs,x,y,z,e,rfl,hk,_,hb⟩;have:qs=[]:=by
   cases qs with
   |nil=>rfl
   |cons _ _=>cases e
  subst this;have h0:ns.drop k=[]:=List.drop_eq_nil_iff.mpr (by rw[Kp]at hk;lia);rw[hb,h0]at q;have:bes [] [] (is.drop k) (ss.drop k)=.ok []:=rfl;rw[this]at q;have q:R (.sh (.tp [.s "place",.tp ((xs++[]).map U.n)])):=q;rw[Ax]at q;exact q
 ·rintro u l ρ ⟨k,qs,xs,x,y,z,e,rfl,hk,xk,hb⟩ ih;match qs,e,hk,hb with
  |r::qs,e,hk,hb=>
   cases e;rw[Am]at hk;have hn:k<ns.length:=by lia
   have hi:k<is.length:=by lia
   have hs:k<ss.length:=by lia
   have ok:=gs.ok _ (Eu hn);have at_:∀{l:List Int}(h:k<l.length),atI (l.map U.n) (k:Int)=some (U.n l[k]):=λ{l} h=>jA (by rw[As,Ag h];rfl);rw[Bf hn,Bf hi,Bf hs]at hb;have hb':bes ns rs is ss=pre xs (match byR r ns[k] (is[k]+ss[k])with
    |none=> .error r.c
    |some x=>match bes (ns.drop (k+1)) qs (is.drop (k+1)) (ss.drop (k+1))with
     |.error c=> .error c
     |.ok l=> .ok (x::l)):=hb
   refine⟨rfl,rfl,.inl ⟨rfl,_,at_ hn,_,at_ hi,_,at_ hs,r,ns[k],is[k]+ss[k],rfl,∅,∅,?_⟩⟩;cases hy:byR r ns[k] (is[k]+ss[k])with
   |none=>
    rw[hy]at hb';have hb':bes ns rs is ss=.error r.c:=hb';rw[hb']at q;refine⟨λ_=>?_,nofun⟩;cases r with
    |fixed c=>exact⟨_,rfl,q⟩
    |mirror=>exact absurd hy (by simp only[byR];split<;>nofun)
    |round=>exact absurd hy (by simp only[byR];split<;>nofun)
   |some v=>
    rw[hy]at hb';refine⟨nofun,λ_=>?_⟩;refine⟨?_,ih _ ⟨k+1,qs,xs++[v],_,_,_,rfl,by rw[Ce];rfl,∅,by rw[An,xk];rfl,?_⟩⟩
    ·rw[Ab,xk];have:=gs.l3;lia
    ·rw[hb'];cases bes (ns.drop (k+1)) qs (is.drop (k+1)) (ss.drop (k+1))with
     |error c=>rfl
     |ok l=>show Oy _=Oy _;rw[Bu];rfl
variable {CG CJ:Addr}
def whr(ns:List Int)(rs:List Rim)(q y:Tk):U:=match bes ns rs q.2 y.2 with
 |.error c=> .tp [.s "rim",.n c]
 |.ok l=>if 0<q.1-y.1 then .tp [.s "spot",tkU (q.1-y.1,l)]else .tp [.s "first",tkU (q.1-y.1,l)]
def aPl(N:Cn)(CG CJ:Addr):Fv:=λus R=>∃ns rs t ys m r ls,∃q y:Tk,us=[iC N CG CJ ns rs t ys m r ls,tkU q,tkU y]/\eE ns/\rs.length=ns.length/\q.2.length=ns.length/\y.2.length=ns.length/\R (.sh (whr ns rs q y))
def qJ:aK ["self","spot","take","beside","round_at"] ["self","spot","take"] (aD tM):={}
def aNr(F:Fun K "where" "Job.where" tM f fd)(cJ:Cfl K CJ ["taken","grid","term","modulus","rounds","first"])(D_beside:Dis P w K mg base CX0 3 (·=CG) "beside" ["self","place","steps"] λ_=>spV (aXu CG))(T:Txt mg):↥4 f fd ["self","spot","take"] (spV (aPl N CG CJ)):=by
 refine vfn F qJ (λcdv A outer s H E hr=>(aC (aP (i:=3) qJ.nd (vW (dW cJ (aA 0)) D_beside (hr.mono ⋯) (aB (bH aU bG (aA 1) aH) (aB (bH aU bG (aA 2) aH) aG)))) (aC (bQ (bJ (dO (huD hr)) cV (bH aU bG (aA 3) aH) dX) (aF (cZ 3)) aW) (aC (aP (i:=4) qJ.nd (bT lB cL (bH aU bG (aA 1) aH) (bH aU bG (aA 2) aH))) (aC (bQ (bJ uI cL (aA 4) aH) (aF (aQ (bZ (aB dX (aB (bZ (aB (aA 4) (aB (bH aU bG (aA 3) aH) aG))) aG))))) aW) (aF (aQ (bZ (aB dX (aB (bZ (aB (aA 4) (aB (bH aU bG (aA 3) aH) aG))) aG)))))))))) ?_;rintro _ R ⟨ns,rs,t,ys,m,r,ls,q0,y,rfl,gs,el,ql,yl,q⟩;have no:∀{k:Bool},k=false->¬k=true:=λh z=>by rw[h]at z;cases z
 refine⟨rfl,rfl,.inr ⟨by decide+kernel,.inl ⟨rfl,rfl,rfl,_,rfl,_,rfl,ns,rs,q0.2,y.2,rfl,gs,el,ql,yl,?_⟩⟩⟩;unfold whr at q;cases hb:bes ns rs q0.2 y.2 with
 |error c=>
  rw[hb]at q;exact⟨_,rfl,trivial,trivial,λ_=>q,λz=>absurd (show _=true by decide+kernel) (no z)⟩
 |ok l=>
  rw[hb]at q;refine⟨_,rfl,trivial,trivial,λz=>absurd z (no #v[1]),λ_=>⟨_,rfl,_,rfl,λz=>?_,λz=>?_⟩⟩
  ·have q:R (.sh (if 0<q0.1-y.1 then .tp [.s "spot",tkU (q0.1-y.1,l)]else .tp [.s "first",tkU (q0.1-y.1,l)])):=q;rw[if_pos (of_decide_eq_true z)]at q;exact⟨_,rfl,q⟩
  ·have q:R (.sh (if 0<q0.1-y.1 then .tp [.s "spot",tkU (q0.1-y.1,l)]else .tp [.s "first",tkU (q0.1-y.1,l)])):=q;rw[if_neg (of_decide_eq_false z)]at q;exact⟨_,rfl,q⟩
def rdU(ns:List Int)(rs:List Rim)(q y:Tk):U:=.tp [tkU y,whr ns rs q y]
def aMw(N:Cn)(CG CJ:Addr):Fv:=λus R=>∃ns rs t ys m r ls,∃q:Tk,us=[iC N CG CJ ns rs t ys m r ls,tkU q]/\eE ns/\rs.length=ns.length/\q.2.length=ns.length/\(∀y∈ys,y.2.length=ns.length)/\ys.length<=17/\R (.ow (ys.map (rdU ns rs q)))
abbrev aA4:List Str:=["self","spot"]
def yZ:aK ["self","spot"] ["self","spot"] (aD jD):={}
def aMe(F:Fun K "reads_of" "Job.reads_of" jD f fd)(cJ:Cfl K CJ ["taken","grid","term","modulus","rounds","first"])(D_where:Dis P w K mg base CX0 4 (·=CJ) "where" ["self","spot","take"] λ_=>spV (aPl N CG CJ))(T:Txt mg):↥5 f fd ["self","spot"] (spV (aMw N CG CJ)):=by
 refine vfn F yZ (λcdv A outer s H E hr=>(aF (aQ (gD (own:=["take"]) (cap:=[("self",0),("spot",1)]) (aD jD) aA4 rfl rfl (λx h=>bD h) #v[1] rfl (vic (aX (dW cJ (aA 0)))) ↑(aZ (i:=0) (~~~["take","self","spot"]) rfl (Dc rfl) (Dl rfl)) (bL ⋯) ↑(bZ (aB (aA 0) (aB (vW (aA 1) D_where (hr.mono ⋯) (aB (aA 2) (aB (aA 0) aG))) aG))))))) ?_;rintro _ R ⟨ns,rs,t,ys,m,r,ls,q0,rfl,gs,el,ql,yl,yn,q⟩;exact⟨rfl,rfl,.inl ⟨rfl,by rw[Ab];lia,aAw (α:=Unit) (g:=rdU ns rs q0) (λy hy k hk=>⟨rfl,rfl,ns,rs,t,ys,m,r,ls,q0,y,rfl,gs,el,ql,yl y hy,hk⟩) q⟩⟩
def kI(ns:List Int)(rs:List Rim)(q y:Tk):Option Tk:=match bes ns rs q.2 y.2 with
 |.error _=>none
 |.ok l=>if 0<q.1-y.1 then some (q.1-y.1,l)else none
def aVc(ns:List Int)(rs:List Rim)(ys:List Tk)(q:Tk)(zs:List Tk):Prop:=zs.Pairwise (λx y=>gU x y=true)/\∀z,z∈zs↔z∈ys.filterMap (kI ns rs q)
def aHi(N:Cn)(CG CJ:Addr):Fv:=λus R=>∃ns rs t ys m r ls,∃q:Tk,us=[iC N CG CJ ns rs t ys m r ls,tkU q]/\eE ns/\rs.length=ns.length/\q.2.length=ns.length/\(∀y∈ys,y.2.length=ns.length)/\ys.length<=17/\∀zs,aVc ns rs ys q zs->R (.ow (zs.map tkU))
def aQz{g:Tk->U}{h:Tk->Option Tk}{f:U->(Option U->Prop)->Prop}{Q:List U->Prop}(hf:∀y∈ys,∀k:Option U->Prop,k ((h y).map tkU)->f (g y) k)(hq:Q ((ys.filterMap h).map tkU)):cO f (ys.map g) [] Q:=by
 have key:∀(zs:List Tk)(acc:List U),(∀y∈zs,∀k:Option U->Prop,k ((h y).map tkU)->f (g y) k)->Q (acc++(zs.filterMap h).map tkU)->cO f (zs.map g) acc Q:=by
  intro zs;induction zs with
  |nil=>exactλacc _ q=>by rw[List.filterMap_nil,Ep,Ax]at q;exact q
  |cons z zs ih=>
   intro acc hf q;refine hf z Ah _ ?_;cases hz:h z with
   |none=>
    rw[List.filterMap_cons_none hz]at q;exact ih _ (λy hy=>hf y (Af _ hy)) q
   |some x=>
    rw[List.filterMap_cons_some hz]at q;exact ih _ (λy hy=>hf y (Af _ hy)) (by rw[Bu];exact q)
 exact key ys [] hf hq
abbrev aGy:List Str:=["job","spot"]
def aEt:aK ["job","spot"] ["job","spot"] (aD pX):={}
def aNk(F:Fun K "leans_of" "leans_of" pX f fd)(D_reads_of:Dis P w K mg base CX0 5 (·=CJ) "reads_of" ["self","spot"] λ_=>spV (aMw N CG CJ))(T:Txt mg):↥6 f fd ["job","spot"] (spV (aHi N CG CJ)):=by
 refine vfn F aEt (λcdv A outer s H E hr=>(aF (aQ (aI4 hr rfl T.sorted T.set (aL (aAz (own:=["take","where"]) (cap:=[]) (aD pX) aGy rfl rfl (λx h=>bD h) #v[1] rfl (vic (aX (vW (aA 0) D_reads_of (hr.mono ⋯) (aB (aA 1) aG)))) ↑(zX rfl (iR (aZ (i:=0) (~~~["take","where"]) rfl (Dc rfl) (Dl rfl)) (iR (aZ (i:=1) (~~~["take","where"]) rfl (Dc rfl) (Dl rfl)) wF))) (aEa (is:=[0,1]) rfl ⋯) ↑(bJ (dO (huD hr)) cV (bH aU bG (aA 1) aH) dX) ↑(bH aU bG (aA 1) aH)) aV))))) ?_;rintro _ R ⟨ns,rs,t,ys,m,r,ls,q0,rfl,gs,el,ql,yl,yn,q⟩;have no:∀{k:Bool},k=false->¬k=true:=λh z=>by rw[h]at z;cases z
 have yes:∀{k:Bool}{p:Prop},k=true->k=false->p:=λh z=>by rw[h]at z;cases z
 refine⟨rfl,rfl,rfl,ns,rs,t,ys,m,r,ls,q0,rfl,gs,el,ql,yl,yn,by rw[Ab];lia,?_⟩;refine aQz (g:=rdU ns rs q0) (h:=kI ns rs q0) (λy hy k hk=>?_) ?_
 ·refine⟨rfl,?_⟩;unfold kI at hk;show gIx (whr ns rs q0 y) (.n 0) _;unfold whr;cases hb:bes ns rs q0.2 y.2 with
  |error c=>
   rw[hb]at hk;exact⟨_,rfl,trivial,trivial,λz=>absurd z (no #v[1]),λ_=>hk⟩
  |ok l=>
   rw[hb]at hk;by_cases hp:0<q0.1-y.1
   ·have hk:k ((if 0<q0.1-y.1 then some (q0.1-y.1,l)else none:Option Tk).map tkU):=hk;rw[if_pos hp]at hk;simp only[if_pos hp];exact⟨_,rfl,trivial,trivial,λ_=>⟨_,rfl,hk⟩,λz=>yes #v[1] z⟩
   ·have hk:k ((if 0<q0.1-y.1 then some (q0.1-y.1,l)else none:Option Tk).map tkU):=hk;rw[if_neg hp]at hk;simp only[if_neg hp];exact⟨_,rfl,trivial,trivial,λz=>absurd z (no #v[1]),λ_=>hk⟩
 ·have hl:(ys.filterMap (kI ns rs q0)).length<=17:=Ba (Oq _ _) yn;exact⟨_,rfl,∅,λzs h1 h2=>q zs ⟨h1,h2⟩⟩
def aSl:Fv:=λus R=>∃(ps:List (List Int))(n:Int),us=[.ls (ps.map pU),.n n]/\0<=n/\n<=9/\(ps.flatMap (ext n)).length<=1000/\(∀p∈ps,p.length<=3)/\R (.ow ((ps.flatMap (ext n)).map pU))
def lJ:aK ["places","size","longer","place","number"] ["places","size"] (aD rO):={}
def aP9(F:Fun K "with_line" "with_line" rO f fd)(T:Txt mg):↥1 f fd ["places","size"] (spV aSl):=by
 refine vfn F lJ (λcdv A outer s H E hr=>(aC (aP (i:=2) lJ.nd (bK aG)) (aC (bW Au rfl (aX (aA 0)) (cI (i:=3) lJ.nd) (aF (bW Au rfl (mV T.range (aL (aA 1) aV)) (cI (i:=4) lJ.nd) (aF (wY 2 (bT dG fB (aA 3) (bZ (aB (aA 4) aG)))))))) (aF (cZ 2))))) ?_;rintro _ R ⟨ps,n,rfl,n0,n9,hl,hp,q⟩;refine⟨rfl,?_⟩;show eF (gR 3) _ _ (ps.map pU) _;refine bC (λl ρ=>∃(qs rest:List (List Int))(x y:Sl),l=rest.map pU/\ρ=[.sh (.ls (ps.map pU)),.sh (.n n),.ow (qs.map pU),x,y]/\(∀p∈rest,p.length<=3)/\qs++rest.flatMap (ext n)=ps.flatMap (ext n)) ?_ ?_ ⟨[],ps,_,_,rfl,rfl,hp,rfl⟩
 ·rintro ρ ⟨qs,rest,x,y,e,rfl,_,ee⟩;obtain rfl:rest=[]:=List.map_eq_nil_iff.mp e.symm;rw[Sd,Ax]at ee;rw[<-ee]at q;exact q
 ·rintro u l ρ ⟨qs,rest0,x,y,e,rfl,h3,ee⟩ ih;cases rest0 with
  |nil=>cases e
  |cons p rest=>
   obtain⟨rfl,rfl⟩:=By e;have p3:=h3 p Ah;refine⟨∅,∅,?_⟩;refine bC (λl ρ=>∃(js:List Nat)(qs':List (List Int))(y:Sl),l=js.map (λi:Nat=>U.n (0+(i:Int)))/\ρ=[.sh (.ls (ps.map pU)),.sh (.n n),.ow (qs'.map pU),.sh (pU p),y]/\qs'++js.map (λi:Nat=>p++[0+(i:Int)])=qs++ext n p) ?_ ?_ ⟨Bk n.toNat,qs,_,rfl,rfl,rfl⟩
   ·rintro ρ ⟨js,qs',y,e,rfl,e2⟩;obtain rfl:js=[]:=List.map_eq_nil_iff.mp e.symm;rw[Ep,Ax]at e2;exact ih _ ⟨qs',rest,_,_,rfl,rfl,λp hp=>h3 p (Af _ hp),by rw[e2,Bu];exact ee⟩
   ·rintro u l ρ ⟨js0,qs',y,e,rfl,e2⟩ ih2;cases js0 with
    |nil=>cases e
    |cons j js=>
     obtain⟨rfl,rfl⟩:=By e;have l2:=congrArg Bz e2;have l3:=congrArg Bz ee;simp only[An,Ht,Ab,Am]at l2 l3;refine⟨by rw[Ab];lia,by rw[Ab];show _+1<=10000;lia,?_⟩;have e3:(qs'.map pU++[U.tp (p.map U.n++[U.n (0+(j:Int))])])=(qs'++[p++[0+(j:Int)]]).map pU:=by
      rw[Ce];show _=_++[U.tp ((p++[0+(j:Int)]).map U.n)];rw[Ce];rfl
     exact ih2 _ ⟨js,qs'++[p++[0+(j:Int)]],.sh (.n (0+(j:Int))),rfl,by rw[<-e3];rfl,by rw[Bu];exact e2⟩
theorem xO:∀(ms:List Int)(ps:List (List Int)),(∀n∈ms,1<=n)->ps.length<=(ms.foldl (λps n=>ps.flatMap (ext n)) ps).length
 | [],_,_=>Ak _
 |n::ms,ps,h=>by
  refine Ba ?_ (xO ms (ps.flatMap (ext n)) λm hm=>h m (Af _ hm));have h1:=h n Ah;have el:∀p,(ext n p).length=n.toNat:=λp=>by unfold ext;rw[Ab,Br]
  clear h;induction ps with
  |nil=>exact Bd _
  |cons p ps ih=>
   rw[Ht,An,el,Am]
   lia
def aR5(C:Addr):Fv:=λus R=>∃ns rs,us=[grU C ns rs]/\eE ns/\(uC ns).length<=40/\∀s,s=.ow (plU ns)∨s=.sh (.ls (plU ns))->R s
def eQ:aK ["self","places","size"] ["self"] (aD iG):={}
def aQv(F:Fun K "all_places" "Grid.all_places" iG f fd)(cG:Cfl K C ["sizes","rims"])(c_with_line:⇑1 "with_line" ["places","size"] (spV aSl))(T:Txt mg):↥2 f fd ["self"] (spV (aR5 C)):=by
 refine vfn F eQ (λcdv A outer s H E hr=>(aC (aP (i:=1) eQ.nd (bK (aB (bZ aG) aG))) (aC (bW Au rfl (aX (dW cG (aA 0))) (cI (i:=2) eQ.nd) (dU 1 (aF (aP (i:=1) eQ.nd (aJ c_with_line (hr.mono ⋯) rfl (aB (aA 1) (aB (aA 2) aG))))))) (aF (cZ 1))))) ?_;rintro _ R ⟨ns,rs,rfl,gs,hl,q⟩;refine⟨rfl,rfl,.inl ⟨rfl,?_⟩⟩;show eF (gR 2) _ _ (ns.map U.n) _;have l3:=gs.l3;refine bC (λl ρ=>∃(ms:List Int)(ps:List (List Int))(s x:Sl),l=ms.map U.n/\(s=.ow (ps.map pU)∨s=.sh (.ls (ps.map pU)))/\ρ=[.sh (grU C ns rs),s,x]/\(∀n∈ms,1<=n/\n<=9)/\(∀p∈ps,p.length+ms.length<=3)/\ms.foldl (λps n=>ps.flatMap (ext n)) ps=uC ns) ?_ ?_ ⟨ns,[[]],_,_,rfl,.inl rfl,rfl,gs.ok,λp hp=>by rw[List.mem_singleton.mp hp];show 0+_<=3;lia,rfl⟩
 ·rintro ρ ⟨ms,ps,s,x,e,hs,rfl,_,_,ee⟩;obtain rfl:ms=[]:=List.map_eq_nil_iff.mp e.symm;have ee:ps=uC ns:=ee;subst ee;rcases hs with rfl|rfl
  ·exact q _ (.inl rfl)
  ·exact q _ (.inr rfl)
 ·rintro u l ρ ⟨ms0,ps,s,x,e,hs,rfl,hm,h3,ee⟩ ih;cases ms0 with
  |nil=>cases e
  |cons n ms=>
   obtain⟨rfl,rfl⟩:=By e;have hn:=hm n Ah;have hm':∀x∈ms,1<=x/\x<=9:=λx hx=>hm x (Af _ hx);have ee:ms.foldl (λps n=>ps.flatMap (ext n)) (ps.flatMap (ext n))=uC ns:=ee;have le:=xO ms (ps.flatMap (ext n)) λx hx=>(hm' x hx).1;rw[ee]at le;have nx:=ih [.sh (grU C ns rs),.ow ((ps.flatMap (ext n)).map pU),.sh (.n n)] ⟨ms,ps.flatMap (ext n),_,_,rfl,.inl rfl,rfl,hm',λp hp=>by
    obtain⟨p0,h0,h1⟩:=List.mem_flatMap.mp hp;obtain⟨i,_,rfl⟩:=List.mem_map.mp h1;have:=h3 p0 h0;rw[Am]at this;rw[An];show _+1+_<=3;lia,ee⟩
   rcases hs with rfl|rfl
   ·exact⟨ps,n,rfl,∅,∅,∅,λp hp=>by have:=h3 p hp;lia,nx⟩
   ·exact⟨ps,n,rfl,∅,∅,∅,λp hp=>by have:=h3 p hp;lia,nx⟩
def aEe(pl:List U)(n:Nat)(h:pl.length<=40):(spU pl n).length<=40*n:=by
 induction n with
 |zero=>exact Ak _
 |succ n ih=>
  rw[<-zW,An,Ab]
  lia
def aNv(N:Cn)(CG CJ:Addr):Fv:=λus R=>∃ns rs t ys m r ls,us=[iC N CG CJ ns rs t ys m r ls]/\eE ns/\(uC ns).length<=40/\0<=r/\r<=12/\R (.ow (spU (plU ns) r.toNat))
abbrev yW:List Str:=["self","places","spots","round_at"]
def fP:aK ["self","places","spots","round_at"] ["self"] (aD gJ):={}
def aR0(F:Fun K "all_spots" "Job.all_spots" gJ f fd)(cJ:Cfl K CJ ["taken","grid","term","modulus","rounds","first"])(D_all_places:Dis P w K mg base CX0 2 (·=CG) "all_places" ["self"] λ_=>spV (aR5 CG))(T:Txt mg):↥3 f fd ["self"] (spV (aNv N CG CJ)):=by
 refine vfn F fP (λcdv A outer s H E hr=>(aC (aP (i:=1) fP.nd (bY (dW cJ (aA 0)) D_all_places (hr.mono ⋯))) (dU 1 (aC (aP (i:=2) fP.nd (bK aG)) (aC (bW Au rfl (aC0 T.range (aL aH (aL (bT dG fB (dW cJ (aA 0)) aH) aV))) (cI (i:=3) fP.nd) (aF (aDw 2 (gD (own:=["place"]) (cap:=[("round_at",3)]) (aD gJ) yW rfl rfl (λx h=>bD h) #v[1] rfl (vic (aX (aA 1))) ↑(aZ (i:=0) (~~~["place","round_at"]) rfl (Dc rfl) (Dl rfl)) (bL ⋯) ↑(bZ (aB (aA 1) (aB (aA 0) aG))))))) (aF (cZ 2))))))) ?_;rintro _ R ⟨ns,rs,t,ys,m,r,ls,rfl,gs,hl,r0,r12,q⟩;have pl40:(plU ns).length<=40:=by rw[Ab];exact hl
 have main:eF (gR 3) (aUn 2 (aCx 1 [("round_at",3)] (vLs (aDc 1)) (gR 0) (aYu (aA6 (aDc 1) (aA6 (aDc 0) aJz))))) {nx:=aOi 2 {nx:=λ_=>R (.sh .no),rt:=R},rt:=R} (jZ 1 (r+1-1).toNat) [.sh (iC N CG CJ ns rs t ys m r ls),.sh (.ls (plU ns)),.ow [],.no]:=by
  refine bC (λl ρ=>∃(k:Nat)(x:Sl),l=(We k (r.toNat-k)).map (λi:Nat=>U.n (1+(i:Int)))/\k<=r.toNat/\ρ=[.sh (iC N CG CJ ns rs t ys m r ls),.sh (.ls (plU ns)),.ow (spU (plU ns) k),x]) ?_ ?_ ⟨0,_,by rw[Qd, <-Qg,show(r+1-1)=r by lia];rfl,Bd _,rfl⟩
  ·rintro ρ ⟨k,x,e,hk,rfl⟩;have:k=r.toNat:=by
    have:=congrArg Bz e;simp at this
    lia
   subst this;exact q
  ·rintro u l ρ ⟨k,x,e,hk,rfl⟩ ih;have hlt:k<r.toNat:=by
    have:=congrArg Bz e;simp at this
    lia
   rw[show r.toNat-k=(r.toNat-(k+1))+1 by lia,Sa,Bo]at e;obtain⟨rfl,rfl⟩:=By e;have sl:=aEe (plU ns) k pl40;refine⟨∅,eY (h:=λu=> .tp [.n (1+(k:Int)),u]) (λu hu c hc=>hc) ⟨?_,?_⟩⟩
   ·rw[Fg,Ab];lia
   ·rw[Fg];exact ih _ ⟨k+1,_,rfl,hlt,by rw[<-zW];rfl⟩
 refine⟨rfl,rfl,.inr ⟨by decide+kernel,.inl ⟨rfl,rfl,rfl,ns,rs,rfl,gs,hl,λs hs=>?_⟩⟩⟩;rcases hs with rfl|rfl
 all_goals
  refine⟨rfl,show aHy "rounds" ["taken","grid","term","modulus","rounds","first"] _ _ from aI6 (xs:=["taken","grid","term","modulus","rounds","first"]) (k:=4) (u:=.n r) ?_ #v[1] rfl rfl⟩;exact⟨⟨∅,∅,∅,∅⟩,main⟩
def pull{g:α->U}{p:α->Prop}{xs:List U}(h:∀x∈xs,∃a,x=g a/\p a):∃as:List α,xs=as.map g/\∀a∈as,p a:=by
 induction xs with
 |nil=>exact⟨[],rfl,nofun⟩
 |cons x xs ih=>
  obtain⟨a,rfl,ha⟩:=h x Ah;obtain⟨as,rfl,hs⟩:=ih λy hy=>h y (Af _ hy);exact⟨a::as,rfl,λb hb=>(List.mem_cons.mp hb).elim (λe=>e▸ha) (hs b)⟩
def lY(lo:Int)(n:Nat):(jZ lo n).length=n:=by simp[jZ]
def sS{l:List U}(h0:0<=r)(h:r<l.length):∃u∈l,atI l r=some u:=by
 obtain⟨n,rfl⟩:=Pk h0;have hn:n<l.length:=by lia
 exact⟨l[n],Eu hn,jA (Ag hn)⟩
def aLa(l m:List Int):D.eqs (U.ds (l.map U.n)) (U.ds (m.map U.n))=decide (l=m):=by
 induction l generalizing m with
 |nil=>cases m<;>rfl
 |cons a l ih=>
  cases m with
  |nil=>rfl
  |cons b m=>
   show(eqV (.int a) (.int b) && D.eqs (U.ds (l.map U.n)) (U.ds (m.map U.n)))=_;rw[ih];simp[eqV];rfl
def aG6(a b:Tk):U.eq (tkU a) (tkU b)=decide (a=b):=by
 show(eqV (.int a.1) (.int b.1) && (D.eqs (U.ds (a.2.map U.n)) (U.ds (b.2.map U.n)) && true))=_;rw[aLa];obtain⟨a1,a2⟩:=a;obtain⟨b1,b2⟩:=b;simp[eqV];rfl
def zR(zs:List Tk)(p:Tk):((zs.map tkU).any λe=>e.eq (tkU p))=decide (p∈zs):=by
 rw[Vf,Kt,List.any_eq_true,decide_eq_true_iff];exact⟨λ⟨x,hx,h⟩=>by rw[<-of_decide_eq_true ((aG6 x p).symm.trans h)];exact hx,λh=>⟨p,h,(aG6 p p).trans (decide_eq_true rfl)⟩⟩
def aS2:Fv:=λus R=>∃n:Int,us=[.n n]/\∀a b c:Int,R (.ow [.n a,.n b,.n c])
def aEk:aK ["_law_cell"] ["_law_cell"] (aD sV):={}
def aQ2(F:Fun K "_law_tape" "_law_tape" sV f fd)(T:Txt mg):↥1 f fd ["_law_cell"] (spV aS2):=by
 refine vfn F aEk (λcdv A outer s H E(hr:cW 0 _)=>(aF (aQ (bK (aB (bT mH uR (aA 0) aH) (aB (bT lF uR (kE aK3 aTt T.int boot_int (aL (oV aY2 cL (aA 0) (bT aVz uR aH aH)) aV)) (aA 0)) (aB aH aG))))))) ?_;rintro _ R ⟨n,rfl,q⟩;have k:∀c:Bool, -(2 ^ 64)<(if c then 1 else 0:Int)/\(if c then 1 else 0:Int)<2 ^ 64:=λc=>by cases c<;>decide
 exact⟨rfl,by show(0:Int)<2147483647;decide,⟨⋯,⋯,⋯⟩,.inl (k _),q _ _ _⟩
def wS:List (List Int):=[[3],[2,2],[4],[1],[2,1],[5],[2,1,2],[3,2]]
structure yP(ns:List Int)(rs:List Rim)(ys:List Tk)(r:Int):Prop where
 gs:eE ns
 p6:rG ns<=6
 rl:rs.length=ns.length
 ro:∀x∈rs,x.ok
 yl:ys.length<=3
 yn:ys.Nodup
 yg:∀y∈ys,aBh y/\y.2.length=ns.length
 r0:0<=r
 r5:r<=5
 sz:ns∈wS
def wD(ns:List Int)(rs:List Rim)(ys:List Tk)(r:Int):U:=.tp [.ls (ns.map U.n),.ls (rs.map Rim.u),.ls (ys.map tkU),.n r]
def aMk:Fv:=λus R=>us=[.wl]/\∀ns rs ys r,yP ns rs ys r->R (.sh (wD ns rs ys r))
abbrev vR:List Str:=["_law_tape_here","_law_sizes","_law_rims","_law_takes","_law_k","_law_back","_law_steps"]
def dN:aK ["_law_tape_here","_law_sizes","_law_rims","_law_takes","_law_k","_law_back","_law_steps"] ["_law_tape_here"] (aD iU):={}
def aOr(F:Fun K "_law_world" "_law_world" iU f fd)(c__law_draw:⇑1 "_law_draw" ["_law_tape_here","_law_many"] (spV aCd))(T:Txt mg):↥2 f fd ["_law_tape_here"] (spV aMk):=by
 refine vfn F dN (λcdv A outer s H E hr=>(aC (aP (i:=1) dN.nd (bH aU bG (bK (aB (bK (aB aH aG)) (aB (bK (aB aH (aB aH aG))) (aB (bK (aB aH aG)) (aB (bK (aB aH aG)) (aB (bK (aB aH (aB aH aG))) (aB (bK (aB aH aG)) (aB (bK (aB aH (aB aH (aB aH aG)))) (aB (bK (aB aH (aB aH aG))) aG))))))))) (aJ c__law_draw (hr.mono ⋯) rfl (aB (aA 0) (aB aH aG))))) (aC (aWt (i:=2) (own:=["_law_size"]) (cap:=[("_law_tape_here",0)]) dN.nd (aD iU) vR rfl rfl (λx h=>bD h) #v[1] rfl (vic (aX (aA 1))) ↑(aZ (i:=0) (~~~["_law_size","_law_tape_here"]) rfl (Dc rfl) (Dl rfl)) (bL ⋯) ↑(bH aU bG (bK (aB (bZ (aB dX (aB aH aG))) (aB (bZ (aB dX aG)) (aB (bZ (aB dX aG)) aG)))) (aJ c__law_draw (hr.mono ⋯) rfl (aB (aA 1) (aB aH aG))))) (aC (aP (i:=3) dN.nd (bK aG)) (aC (bW Au rfl (mV T.range (aL (bH aU bG (bK (aB aH (aB aH (aB aH (aB aH (aB aH (aB aH aG))))))) (aJ c__law_draw (hr.mono ⋯) rfl (aB (aA 0) (aB aH aG)))) aV)) (cI (i:=4) dN.nd) (aC (aP (i:=5) dN.nd (bH aU bG (bK (aB aH (aB aH (aB aH (aB aH aG))))) (aJ c__law_draw (hr.mono ⋯) rfl (aB (aA 0) (aB aH aG))))) (aC (aP (i:=6) dN.nd (kE (yM rfl) aF7 T.tuple Lv (aL (gD (own:=["_law_size"]) (cap:=[("_law_tape_here",0)]) (aD iU) vR rfl rfl (λx h=>bD h) #v[1] rfl (vic (aX (aA 1))) ↑(aZ (i:=0) (~~~["_law_size","_law_tape_here"]) rfl (Dc rfl) (Dl rfl)) (bL ⋯) ↑(bT lB cL (aJ c__law_draw (hr.mono ⋯) rfl (aB (aA 1) (aB aH aG))) aH)) aV))) (aF (bQ (bJ (tZ (huD hr)) aCm (bZ (aB (aA 5) (aB (aA 6) aG))) (aA 3)) (aF (wY 3 (bZ (aB (aA 5) (aB (aA 6) aG))))) aW))))) (dU 2 (dU 3 (aF (aQ (bZ (aB (aA 1) (aB (aA 2) (aB (aA 3) (aB (aJ c__law_draw (hr.mono ⋯) rfl (aB (aA 0) (aB aH aG))) aG)))))))))))))) ?_;rintro _ R ⟨rfl,q⟩;refine⟨rfl,8,rfl,⋯,⋯,λr r0 r8=>?_⟩;obtain⟨u,hu,eu⟩:=sS (l:=[U.ls [.n 3],.ls [.n 2,.n 2],.ls [.n 4],.ls [.n 1],.ls [.n 2,.n 1],.ls [.n 5],.ls [.n 2,.n 1,.n 2],.ls [.n 3,.n 2]]) r0 r8;have key:∃ns:List Int,u=.ls (ns.map U.n)/\eE ns/\rG ns<=6/\ns∈wS:=by
  simp only[Ck,Bt,or_false]at hu;rcases hu with rfl|rfl|rfl|rfl|rfl|rfl|rfl|rfl
  ·exact⟨[3],rfl,⟨⋯,⋯,⋯,⋯⟩,⋯,⋯⟩
  ·exact⟨[2,2],rfl,⟨⋯,⋯,⋯,⋯⟩,⋯,⋯⟩
  ·exact⟨[4],rfl,⟨⋯,⋯,⋯,⋯⟩,⋯,⋯⟩
  ·exact⟨[1],rfl,⟨⋯,⋯,⋯,⋯⟩,⋯,⋯⟩
  ·exact⟨[2,1],rfl,⟨⋯,⋯,⋯,⋯⟩,⋯,⋯⟩
  ·exact⟨[5],rfl,⟨⋯,⋯,⋯,⋯⟩,⋯,⋯⟩
  ·exact⟨[2,1,2],rfl,⟨⋯,⋯,⋯,⋯⟩,⋯,⋯⟩
  ·exact⟨[3,2],rfl,⟨⋯,⋯,⋯,⋯⟩,⋯,⋯⟩
 obtain⟨ns,rfl,gs,p6,sz⟩:=key;have l3:=gs.l3;refine⟨_,eu,by rw[Ab];lia,gH (λx=>∃a:Rim,x=a.u/\a.ok) (λu hu c hc=>⟨3,rfl,⋯,⋯,λr r0 r3=>?_⟩) λxs xl xp=>?_⟩
 ·obtain⟨x,hx,ex⟩:=sS (l:=[U.tp [.s "fixed",.n 7],.tp [.s "mirror"],.tp [.s "round"]]) r0 r3;refine⟨_,ex,hc _ ?_⟩;simp only[Ck,Bt,or_false]at hx;rcases hx with rfl|rfl|rfl
  ·exact⟨.fixed 7,rfl,⋯,⋯⟩
  ·exact⟨.mirror,rfl,trivial⟩
  ·exact⟨.round,rfl,trivial⟩
 obtain⟨rs,rfl,ro⟩:=pull xp;rw[Ab,Ab]at xl;refine⟨6,rfl,⋯,⋯,λr r0 r6=>?_⟩;obtain⟨u,hu,eu⟩:=sS (l:=[U.n 2,.n 1,.n 3,.n 2,.n 3,.n 0]) r0 r6;have key:∃m:Int,u=.n m/\0<=m/\m<=3:=by
  simp only[Ck,Bt,or_false]at hu;rcases hu with rfl|rfl|rfl|rfl|rfl|rfl<;>exact⟨_,rfl,⋯,⋯⟩
 obtain⟨m,rfl,m0,m3⟩:=key;refine⟨_,eu,∅,∅,?_⟩;refine bC (λl ρ=>∃(ys:List Tk)(a b c:Sl),ρ=[.sh .wl,.sh (.ls (ns.map U.n)),.ow (rs.map Rim.u),.ow (ys.map tkU),a,b,c]/\ys.length+l.length<=3/\ys.Nodup/\∀y∈ys,aBh y/\y.2.length=ns.length) ?_ ?_ ?_
 rotate_left 2
 ·exact⟨[],_,_,_,rfl,by simp[lY];lia,Ib,nofun⟩
 ·rintro ρ ⟨ys,a,b,c,rfl,yl,yn,yg⟩;exact⟨6,rfl,⋯,⋯,λr r0 r6=>q ns rs ys r ⟨gs,p6,∅,ro,by simpa using yl,yn,yg,r0,∅,sz⟩⟩
 ·rintro u l ρ ⟨ys,a,b,c,rfl,yl,yn,yg⟩ ih;rw[Am]at yl;refine⟨4,rfl,⋯,⋯,λr r0 r4=>?_⟩;obtain⟨u,hu,eu⟩:=sS (l:=[U.n 1,.n 1,.n 2,.n 3]) r0 r4;have key:∃m:Int,u=.n m/\1<=m/\m<=3:=by
   simp only[Ck,Bt,or_false]at hu;rcases hu with rfl|rfl|rfl|rfl<;>exact⟨_,rfl,⋯,⋯⟩
  obtain⟨bk,rfl,b1,b3⟩:=key;refine⟨_,eu,by rw[Ab];lia,gH (λx=>∃s:Int,x=.n s/\(-9<=s/\s<=9)) (λu hu c hc=>⟨5,rfl,⋯,⋯,λt t0 t5=>hc _ ⟨_,rfl,∅⟩⟩) λxs xl xp=>?_⟩;obtain⟨ss,rfl,hs⟩:=pull xp;rw[Ab,Ab]at xl;have e:(!((ys.map tkU).any λe=>e.eq (tkU (bk,ss))))= !decide ((bk,ss)∈ys):=by rw[zR]
  have dts:=gM 38 ys;have di:=rW 38 ss;by_cases hm:(bk,ss)∈ys
  ·refine⟨⟨trivial,di,trivial⟩,dts,λz=>?_,λ_=>ih _ ⟨ys,_,_,_,rfl,∅,yn,yg⟩⟩;have z:(!((ys.map tkU).any λe=>e.eq (tkU (bk,ss))))=true:=z;rw[e,decide_eq_true hm]at z;cases z
  ·refine⟨⟨trivial,di,trivial⟩,dts,λ_=>⟨by rw[Ab];lia,ih _ ⟨ys++[(bk,ss)],_,_,_,by rw[Ce];rfl,by rw[An,Cq];lia,List.nodup_append.mpr ⟨yn,by simp,λa ha b hb=>by rw[List.mem_singleton.mp hb];exactλe=>hm (e▸ha)⟩,λy hy=>?_⟩⟩,λz=>?_⟩
   ·rcases List.mem_append.mp hy with h|h
    ·exact yg y h
    ·rw[List.mem_singleton.mp h];exact⟨⟨b1,b3,hs⟩,by show ss.length=_;lia⟩
   ·have z:(!((ys.map tkU).any λe=>e.eq (tkU (bk,ss))))=false:=z;rw[e,decide_eq_false hm]at z;cases z
structure aS5(ns:List Int)(q:Tk):Prop where
 l:q.2.length=ns.length
 x:∀x∈q.2,0<=x/\x<=9
def aEh:Fv:=λus R=>∃ns:List Int,us=[.ls (ns.map U.n)]/\eE ns/\(uC ns).length<=40/\R (.sh (.ls (plU ns)))
abbrev aBm:List Str:=["_law_sizes","_law_found","_law_size","_law_longer","_law_place"]
def dZ:aK ["_law_sizes","_law_found","_law_size","_law_longer","_law_place"] ["_law_sizes"] (aD jR):={}
def aRr(n:Int)(p:List Int):(jZ 0 n.toNat).map (λu=>U.tp (p.map U.n++[u]))=(ext n p).map pU:=by
 unfold jZ ext pU;simp[Pr]
def aJ3(F:Fun K "_law_places" "_law_places" jR f fd)(T:Txt mg):↥1 f fd ["_law_sizes"] (spV aEh):=by
 refine vfn F dZ (λcdv A outer s H E(hr:cW 0 _)=>(aC (aP (i:=1) dZ.nd (bK (aB (bZ aG) aG))) (dU 1 (aC (bW Au rfl (aX (aA 0)) (cI (i:=2) dZ.nd) (aC (aP (i:=3) dZ.nd (bK aG)) (aC (bW Au rfl (aX (aA 1)) (cI (i:=4) dZ.nd) (aF (aDw 3 (gD (own:=["_law_k"]) (cap:=[("_law_place",4)]) (aD jR) aBm rfl rfl (λx h=>bD h) #v[1] rfl (vic (mV T.range (aL (aA 2) aV))) ↑(aZ (i:=0) (~~~["_law_k","_law_place"]) rfl (Dc rfl) (Dl rfl)) (bL ⋯) ↑(bT dG fB (aA 1) (bZ (aB (aA 0) aG))))))) (dU 3 (aF (aP (i:=1) dZ.nd (aA 3))))))) (aF (cZ 1)))))) ?_;rintro _ R ⟨ns,rfl,gs,l40,q⟩;have l3:=gs.l3;refine⟨rfl,?_⟩;refine bC (λl ρ=>∃(ms:List Int)(ps:List (List Int))(a b c:Sl),l=ms.map U.n/\ρ=[.sh (.ls (ns.map U.n)),.sh (.ls (ps.map pU)),a,b,c]/\(∀n∈ms,1<=n/\n<=9)/\(∀p∈ps,p.length+ms.length<=3)/\ms.foldl (λps n=>ps.flatMap (ext n)) ps=uC ns) ?_ ?_ ⟨ns,[[]],_,_,_,rfl,rfl,gs.ok,λp hp=>by rw[List.mem_singleton.mp hp];show 0+_<=3;lia,rfl⟩
 ·rintro ρ ⟨ms,ps,a,b,c,el,rfl,_,_,ee⟩;obtain rfl:ms=[]:=List.map_eq_nil_iff.mp el.symm;have ee:ps=uC ns:=ee;subst ee;exact q
 ·rintro u l ρ ⟨ms0,ps,a,b,c,el,rfl,hm,h3,ee⟩ ih;cases ms0 with
  |nil=>cases el
  |cons n ms=>
   obtain⟨rfl,rfl⟩:=By el;have hn:=hm n Ah;have hm':∀x∈ms,1<=x/\x<=9:=λx hx=>hm x (Af _ hx);have ee:ms.foldl (λps n=>ps.flatMap (ext n)) (ps.flatMap (ext n))=uC ns:=ee;have le:=xO ms (ps.flatMap (ext n)) λx hx=>(hm' x hx).1;rw[ee]at le;show eF (gR 4) _ _ (ps.map pU) [.sh (.ls (ns.map U.n)),.sh (.ls (ps.map pU)),.sh (.n n),.ow [],c];refine bC (λl ρ=>∃(dn rs:List (List Int))(c:Sl),l=rs.map pU/\dn++rs=ps/\ρ=[.sh (.ls (ns.map U.n)),.sh (.ls (ps.map pU)),.sh (.n n),.ow ((dn.flatMap (ext n)).map pU),c]) ?_ ?_ ⟨[],ps,_,rfl,rfl,rfl⟩
   ·rintro ρ ⟨dn,rs,c,el,ed,rfl⟩;obtain rfl:rs=[]:=List.map_eq_nil_iff.mp el.symm;rw[Ax]at ed;subst ed;exact ih _ ⟨ms,_,_,_,_,rfl,rfl,hm',λp hp=>by
     obtain⟨p0,h0,h1⟩:=List.mem_flatMap.mp hp;obtain⟨i,_,rfl⟩:=List.mem_map.mp h1;have:=h3 p0 h0;rw[Am]at this;rw[An];show _+1+_<=3;lia,ee⟩
   ·rintro u l ρ ⟨dn,rs,c,el,ed,rfl⟩ ih2;cases rs with
    |nil=>cases el
    |cons p rs=>
     obtain⟨rfl,rfl⟩:=By el;have ll:(dn.flatMap (ext n)).length+(ext n p).length<=40:=by
      have:(ps.flatMap (ext n)).length=(dn.flatMap (ext n)).length+((ext n p).length+(rs.flatMap (ext n)).length):=by
       rw[<-ed,Lf,An,Ht,An]
      lia
     refine⟨∅,∅,by rw[lY];lia,eY (h:=λu=> .tp (p.map U.n++[u])) (λu hu k hk=>⟨?_,hk⟩) ?_⟩
     ·have:=h3 p (by rw[<-ed];simp);rw[Ab];show _+1<=10000;lia
     ·have ex:=aRr n p;refine⟨by rw[Fg,ex,Ab,Ab];lia,ih2 _ ⟨dn++[p],rs,.sh (pU p),rfl,by rw[<-ed];simp,?_⟩⟩;rw[Fg,ex,Lf,Ce,Ht,Sd,Ax];rfl
def aGn:Fv:=λus R=>∃ns rs ys r,us=[wD ns rs ys r]/\yP ns rs ys r/\(uC ns).length<=40/\∀s,s=.ow (spU (plU ns) r.toNat)->R s
abbrev aDt:List Str:=["_law_world_here","_law_found","_law_turn"]
def oJ:aK ["_law_world_here","_law_found","_law_turn"] ["_law_world_here"] (aD lQ):={}
def aOm(F:Fun K "_law_spots" "_law_spots" lQ f fd)(c__law_places:⇑1 "_law_places" ["_law_sizes"] (spV aEh))(T:Txt mg):↥2 f fd ["_law_world_here"] (spV aGn):=by
 refine vfn F oJ (λcdv A outer s H E hr=>(aC (aP (i:=1) oJ.nd (bK aG)) (aC (bW Au rfl (aC0 T.range (aL aH (aL (bT dG fB (bH aU bG (aA 0) aH) aH) aV))) (cI (i:=2) oJ.nd) (aF (aDw 1 (gD (own:=["_law_place"]) (cap:=[("_law_turn",2)]) (aD lQ) aDt rfl rfl (λx h=>bD h) #v[1] rfl (vic (aX (aJ c__law_places (hr.mono ⋯) rfl (aB (bH aU bG (aA 0) aH) aG)))) ↑(aZ (i:=0) (~~~["_law_place","_law_turn"]) rfl (Dc rfl) (Dl rfl)) (bL ⋯) ↑(bZ (aB (aA 1) (aB (aA 0) aG))))))) (aF (cZ 1))))) ?_;rintro _ R ⟨ns,rs,ys,r,rfl,g,l40,q⟩;have r0:=g.r0;have r5:=g.r5;have pl40:(plU ns).length<=40:=by rw[Ab];exact l40
 refine⟨rfl,_,rfl,⟨∅,∅,∅,∅⟩,?_⟩;refine bC (λl ρ=>∃(k:Nat)(x:Sl),l=(We k (r.toNat-k)).map (λi:Nat=>U.n (1+(i:Int)))/\k<=r.toNat/\ρ=[.sh (wD ns rs ys r),.ow (spU (plU ns) k),x]) ?_ ?_ ⟨0,_,by rw[Qd, <-Qg,show(r+1-1)=r by lia];rfl,Bd _,rfl⟩
 ·rintro ρ ⟨k,x,e,hk,rfl⟩;have:k=r.toNat:=by
   have:=congrArg Bz e;simp at this
   lia
  subst this;exact q _ rfl
 ·rintro u l ρ ⟨k,x,e,hk,rfl⟩ ih;have hlt:k<r.toNat:=by
   have:=congrArg Bz e;simp at this
   lia
  rw[show r.toNat-k=(r.toNat-(k+1))+1 by lia,Sa,Bo]at e;obtain⟨rfl,rfl⟩:=By e;have sl:=aEe (plU ns) k pl40;refine⟨_,rfl,ns,rfl,g.gs,l40,∅,eY (h:=λu=> .tp [.n (1+(k:Int)),u]) (λu hu c hc=>hc) ⟨?_,?_⟩⟩
  ·rw[Fg,Ab];lia
  ·rw[Fg];exact ih _ ⟨k+1,_,rfl,hlt,by rw[<-zW];rfl⟩
def thU:Except Int (List Int)->U
 |.error _=> .no
 |.ok l=> .tp (l.map U.n)
def aMt:Fv:=λus R=>∃ns rs ys r is ss,us=[wD ns rs ys r,.tp (is.map U.n),.tp (ss.map U.n)]/\yP ns rs ys r/\is.length=ns.length/\ss.length=ns.length/\(∀x∈is,0<=x/\x<=9)/\(∀x∈ss, -9<=x/\x<=9)/\R (.sh (thU (bes ns rs is ss)))
def dB:aK ["_law_world_here","_law_place","_law_steps","_law_found","_law_k","_law_size","_law_at"] ["_law_world_here","_law_place","_law_steps"] (aD qI):={}
def aOz(F:Fun K "_law_there" "_law_there" qI f fd)(T:Txt mg):↥1 f fd ["_law_world_here","_law_place","_law_steps"] (spV aMt):=by
 refine vfn F dB (λcdv A outer s H E(hr:cW 0 _)=>(aC (aP (i:=3) dB.nd (bZ aG)) (aC (bW Au rfl (lU T.enumerate (aB (bH aU bG (aA 0) aH) aG)) (mF rfl (bU (i:=4) dB.nd (bU (i:=5) dB.nd iD))) (aC (aP (i:=6) dB.nd (bT dG fB (bH aU bG (aA 1) (aA 4)) (bH aU bG (aA 2) (aA 4)))) (aC (bQ (mY (aDh (cT (tH uH aCc cL cL aH (aA 6) (aA 5))) (aDr (bJ (dO (huD hr)) cV (bH aU bG (bH aU bG (bH aU bG (aA 0) aH) (aA 4)) aH) dX)))) (aF (aQ tO)) aW) (aC (bQ (bJ (dO (huD hr)) cV (bH aU bG (bH aU bG (bH aU bG (aA 0) aH) (aA 4)) aH) dX) (aF (aP (i:=6) dB.nd (bT mH uR (aA 6) (aA 5)))) aW) (aC (bQ (bJ (dO (huD hr)) cV (bH aU bG (bH aU bG (bH aU bG (aA 0) aH) (aA 4)) aH) dX) (aF (aP (i:=6) dB.nd (bB (aJo rfl) aWj T.min boot_min (aL (bT mH uR (aA 6) (bT lF uR aH (aA 5))) (aL (bT lB cL (bT lB cL (bT lF uR aH (aA 5)) aH) (bT mH uR (aA 6) (bT lF uR aH (aA 5)))) aV))))) aW) (aF (aP (i:=3) dB.nd (bT dG fB (aA 3) (bZ (aB (aA 6) aG)))))))))) (aF (cZ 3))))) ?_;rintro _ R ⟨ns,rs,ys,r,is,ss,rfl,g,il,sl,hi,hs,q⟩;refine⟨rfl,_,rfl,?_⟩;refine bC (λl ρ=>∃(k:Nat)(ms xs:List Int)(x y z:Sl),l=(ms.map U.n |>.zipIdx k).map (λx=> .tp [.n (x.2:Nat),x.1])/\ρ=[.sh (wD ns rs ys r),.sh (.tp (is.map U.n)),.sh (.tp (ss.map U.n)),.sh (.tp (xs.map U.n)),x,y,z]/\ns.drop k=ms/\xs.length=k/\bes ns rs is ss=pre xs (bes ms (rs.drop k) (is.drop k) (ss.drop k))) ?_ ?_ ⟨0,ns,[],_,_,_,rfl,rfl,rfl,rfl,by rw[Gq,Gq,Gq];cases bes ns rs is ss<;>rfl⟩
 ·rintro ρ ⟨k,ms,xs,x,y,z,e,rfl,hk,_,hb⟩;have:ms=[]:=by
   cases ms with
   |nil=>rfl
   |cons _ _=>cases e
  subst this;rw[hb]at q;have q:R (.sh (.tp ((xs++[]).map U.n))):=q;rw[Ax]at q;exact q
 ·rintro u l ρ ⟨k,ms,xs,x,y,z,e,rfl,hk,xk,hb⟩ ih;match ms,e,hk,hb with
  |n::ms,e,hk,hb=>
   cases e;have hn:k<ns.length:=by have:=congrArg Bz hk;rw[Dm,Am]at this;lia
   have hi':k<is.length:=by lia
   have hs':k<ss.length:=by lia
   have hr':k<rs.length:=by have:=g.rl;lia
   rw[Bf hn]at hk;obtain⟨rfl,hk2⟩:=By hk;have ok:=g.gs.ok _ (Eu hn);have at_:∀{l:List Int}(h:k<l.length),atI (l.map U.n) (k:Int)=some (U.n l[k]):=λ{l} h=>jA (by rw[As,Ag h];rfl);have atr:atI (rs.map Rim.u) (k:Int)=some (rs[k].u):=jA (by rw[As,Ag hr'];rfl);have l3:=g.gs.l3;rw[Bf hi',Bf hs',Bf hr']at hb;have hb':bes ns rs is ss=pre xs (match byR rs[k] ns[k] (is[k]+ss[k])with
    |none=> .error rs[k].c
    |some x=>match bes ms (rs.drop (k+1)) (is.drop (k+1)) (ss.drop (k+1))with
     |.error c=> .error c
     |.ok l=> .ok (x::l)):=hb
   have nx:∀v,byR rs[k] ns[k] (is[k]+ss[k])=some v->eF (zT [4,5]) _ _ _ [.sh (wD ns rs ys r),.sh (.tp (is.map U.n)),.sh (.tp (ss.map U.n)),.sh (.tp (xs.map U.n++[.n v])),.sh (.n (k:Nat)),.sh (.n ns[k]),.sh (.n v)]:=λv hy=>by
    refine ih _ ⟨k+1,ms,xs++[v],_,_,_,rfl,by rw[Ce];rfl,hk2,by rw[An,xk];rfl,?_⟩;rw[hb',hy];cases bes ms (rs.drop (k+1)) (is.drop (k+1)) (ss.drop (k+1))with
    |error c=>rfl
    |ok l=>show Oy _=Oy _;rw[Bu];rfl
   refine⟨rfl,_,at_ hi',_,at_ hs',?_⟩;have lo:∀{v:Int},byR rs[k] ns[k] (is[k]+ss[k])=some v->(xs.map U.n).length+1<=10000:=λ_=>by rw[Ab];lia
   generalize rs[k]=rk at*;generalize ns[k]=n at*;have no:∀{b:Bool}{p:Prop},b=true->b=false->p:=λh z=>by rw[h]at z;cases z
   have sm:∀{b:Bool}{p:Prop},b=false->b=true->p:=λh z=>by rw[h]at z;cases z
   cases rk with
   |fixed c=>
    have A:¬(0<=is[k]+ss[k]/\is[k]+ss[k]<n)->R (.sh .no):=λh=>by
     have hy:byR (.fixed c) n (is[k]+ss[k])=none:=if_neg h;rw[hb',hy]at q;exact q
    refine⟨λz0=>⟨λz1=>⟨_,rfl,_,atr,_,rfl,trivial,trivial,λ_=>A ?_,λz=>no #v[1] z⟩,λz1=>⟨nofun,λ_=>⟨_,rfl,_,atr,_,rfl,trivial,trivial,λz=>sm #v[1] z,λ_=>⟨_,rfl,_,atr,_,rfl,trivial,trivial,λz=>sm #v[1] z,λ_=>?_⟩⟩⟩⟩,λz0=>⟨λ_=>⟨_,rfl,_,atr,_,rfl,trivial,trivial,λ_=>A ?_,λz=>no #v[1] z⟩,nofun⟩⟩
    ·simp at z1;lia
    ·have hy:byR (.fixed c) n (is[k]+ss[k])=some (is[k]+ss[k]):=if_pos ⟨of_decide_eq_true z0,by simp at z1;exact z1⟩;exact⟨lo hy,nx _ hy⟩
    ·have:=of_decide_eq_false z0;lia
   |mirror=>
    have hy:byR .mirror n (is[k]+ss[k])=some (mir n (is[k]+ss[k])):=by
     by_cases h:0<=is[k]+ss[k]/\is[k]+ss[k]<n
     ·refine(if_pos h).trans ?_;unfold mir;rw[Sg h.1 ∅,if_pos h.2]
     ·exact if_neg h
    have em:(if 2*n-1-(is[k]+ss[k]) % (2*n)<(is[k]+ss[k]) % (2*n)then 2*n-1-(is[k]+ss[k]) % (2*n)else(is[k]+ss[k]) % (2*n))=mir n (is[k]+ss[k]):=by
     unfold mir;split<;>split<;>lia
    refine⟨λz0=>⟨λz1=>⟨_,rfl,_,atr,_,rfl,trivial,trivial,λz=>sm #v[1] z,λ_=>⟨_,rfl,_,atr,_,rfl,trivial,trivial,λz=>sm #v[1] z,λ_=>⟨_,rfl,_,atr,_,rfl,trivial,trivial,λ_=>?_,λz=>no #v[1] z⟩⟩⟩,λz1=>⟨nofun,λ_=>⟨_,rfl,_,atr,_,rfl,trivial,trivial,λz=>sm #v[1] z,λ_=>⟨_,rfl,_,atr,_,rfl,trivial,trivial,λ_=>?_,λz=>no #v[1] z⟩⟩⟩⟩,λz0=>⟨λ_=>⟨_,rfl,_,atr,_,rfl,trivial,trivial,λz=>sm #v[1] z,λ_=>⟨_,rfl,_,atr,_,rfl,trivial,trivial,λz=>sm #v[1] z,λ_=>⟨_,rfl,_,atr,_,rfl,trivial,trivial,λ_=>?_,λz=>no #v[1] z⟩⟩⟩,nofun⟩⟩
    all_goals
     refine⟨.inl ⟨⋯,⋯⟩,by show(0:Int)<2*n;lia,.inl ⟨⋯,⋯⟩,.inl ⟨⋯,⋯⟩,by show(0:Int)<2*n;lia,?_⟩;have nx:=nx _ hy;rw[<-em]at nx;exact⟨lo hy,nx⟩
   |round=>
    have hy:byR .round n (is[k]+ss[k])=some ((is[k]+ss[k]) % n):=by
     by_cases h:0<=is[k]+ss[k]/\is[k]+ss[k]<n
     ·exact(if_pos h).trans (by rw[Sg h.1 h.2])
     ·exact if_neg h
    refine⟨λz0=>⟨λz1=>⟨_,rfl,_,atr,_,rfl,trivial,trivial,λz=>sm #v[1] z,λ_=>⟨_,rfl,_,atr,_,rfl,trivial,trivial,λ_=>?_,λz=>no #v[1] z⟩⟩,λz1=>⟨nofun,λ_=>⟨_,rfl,_,atr,_,rfl,trivial,trivial,λ_=>?_,λz=>no #v[1] z⟩⟩⟩,λz0=>⟨λ_=>⟨_,rfl,_,atr,_,rfl,trivial,trivial,λz=>sm #v[1] z,λ_=>⟨_,rfl,_,atr,_,rfl,trivial,trivial,λ_=>?_,λz=>no #v[1] z⟩⟩,nofun⟩⟩
    all_goals
     refine⟨by show(0:Int)<n;lia,⟨_,rfl,_,atr,_,rfl,trivial,trivial,λz=>sm #v[1] z,λ_=>?_⟩⟩;exact⟨lo hy,nx _ hy⟩
def spS(ns:List Int)(n:Nat):List Tk:=(Bk n).flatMap λ(j:Nat)=>(uC ns).map λp=>(1+(j:Int),p)
def tE(ns:List Int)(n:Nat):spU (plU ns) n=(spS ns n).map tkU:=by
 unfold spU spS;rw[List.map_flatMap];congr 1;funext j;rw[Az,Az];rfl
def aNa{n:Int}(h:0<=n)(ps:List (List Int)):((ps.flatMap (ext n)).length:Int)=ps.length*n:=by
 induction ps with
 |nil=>simp
 |cons p ps ih=>
  rw[Ht,An,Am];have:(ext n p).length=n.toNat:=by unfold ext;rw[Ab,Br]
  rw[this,Nv,ih,Nv,Xc]
  lia
theorem aE8:∀(ns:List Int)(ps:List (List Int)),(∀n∈ns,1<=n)->((ns.foldl (λps n=>ps.flatMap (ext n)) ps).length:Int)=ns.foldl (λa n=>a*n) (ps.length:Int)
 | [],_,_=>rfl
 |n::ns,ps,h=>by
  rw[Gc,Gc,aE8 ns _ λx hx=>h x (Af _ hx),aNa (by have:=h n Ah;lia)]
def aAc(h:∀n∈ns,1<=n):((uC ns).length:Int)=rG ns:=aE8 ns [[]] h
theorem aCy:∀(ns:List Int)(ps:List (List Int))(a:Nat),(∀n∈ns,n<=9)->(∀p∈ps,p.length=a/\∀x∈p,0<=x/\x<=9)->∀p∈ns.foldl (λps n=>ps.flatMap (ext n)) ps,p.length=a+ns.length/\∀x∈p,0<=x/\x<=9
 | [],_,_,_,hp=>hp
 |n::ns,ps,a,h,hp=>by
  have:=aCy ns (ps.flatMap (ext n)) (a+1) (λx hx=>h x (Af _ hx)) λp hq=>by
   obtain⟨p0,h0,h1⟩:=List.mem_flatMap.mp hq;obtain⟨i,hi,rfl⟩:=List.mem_map.mp h1;have hn:=h n Ah;have hi:=List.mem_range.mp hi;obtain⟨l0,x0⟩:=hp p0 h0;refine⟨by rw[An,l0];rfl,λx hx=>(List.mem_append.mp hx).elim (x0 x) λhx=>?_⟩;rw[List.mem_singleton.mp hx]
   lia
  intro p hq;obtain⟨a1,a2⟩:=this p hq;exact⟨by rw[a1,Am];lia,a2⟩
def wB{q:Tk}(gs:eE ns)(h:q∈spS ns n):aS5 ns q/\1<=q.1:=by
 obtain⟨j,_,h⟩:=List.mem_flatMap.mp h;obtain⟨p,hp,rfl⟩:=List.mem_map.mp h;obtain⟨a1,a2⟩:=aCy ns [[]] 0 (λn hn=>(gs.ok n hn).2) (λp hp=>by rw[List.mem_singleton.mp hp];exact⟨rfl,nofun⟩) p hp;exact⟨⟨by rw[a1];lia,a2⟩,by show 1<=1+(j:Int);lia⟩
def aMz(ms:List Int):D.eqs (U.ds (ms.map U.n)) (U.ds (ms.map U.n))=true:=by
 induction ms with
 |nil=>rfl
 |cons a l ih=>
  show(eqV (.int a) (.int a) && D.eqs (U.ds (l.map U.n)) (U.ds (l.map U.n)))=true;rw[ih];simp[eqV]
def aVg(ys:List Tk):U.eq (.ls (ys.map tkU)) (.ls (ys.map tkU))=true:=by
 show D.eqs (U.ds _) (U.ds _)=true;induction ys with
 |nil=>rfl
 |cons y l ih=>
  show((eqV (.int y.1) (.int y.1) && (D.eqs (U.ds (y.2.map U.n)) (U.ds (y.2.map U.n)) && true)) && D.eqs (U.ds (l.map tkU)) (U.ds (l.map tkU)))=true;rw[ih,aMz];simp[eqV]
def uP(gs:eE ns):(uC ns).length<=40:=by
 have:=aAc λn hn=>(gs.ok n hn).1;have:=gs.mn
 lia
def aGp(h:l.Pairwise λx y=>gU x y=true):l.Nodup:=h.imp λ{a b} h e=>by
 subst e;unfold gU at h;rw[if_pos rfl,wA]at h;cases h
def Inn:List Int->List Int->Prop
 | [],l=>l=[]
 |n::ns,l=>∃x r,l=x::r/\0<=x/\x<n/\Inn ns r
def aVx{r:Rim}{s x y:Int}(h:0<s)(e:byR r s x=some y):0<=y/\y<s:=by
 cases r with
 |fixed c=>
  simp only[byR]at e;split at e
  ·cases e;assumption
  ·cases e
 |mirror=>
  simp only[byR]at e;split at e
  ·cases e;assumption
  ·cases e;unfold mir;have:=Jb x (by lia:2*s≠0);have:=Hi x (by lia:0<2*s);split<;>lia
 |round=>
  simp only[byR]at e;split at e
  ·cases e;assumption
  ·cases e;exact⟨Jb x ∅,Hi x h⟩
theorem aMo:∀{ns:List Int}{rs:List Rim}{is ss l:List Int},(∀n∈ns,0<n)->rs.length=ns.length->is.length=ns.length->ss.length=ns.length->bes ns rs is ss=.ok l->Inn ns l
 | [],_,_,_,l,_,_,_,_,e=>by cases e;rfl
 |n::ns,r::rs,i::is,s::ss,l,h,h1,h2,h3,e=>by
  unfold bes at e;cases hb:byR r n (i+s)with
  |none=>rw[hb]at e;cases e
  |some x=>
   rw[hb]at e;cases hc:bes ns rs is ss with
   |error c=>rw[hc]at e;cases e
   |ok m=>
    rw[hc]at e;cases e;obtain⟨a,b⟩:=aVx (h n Ah) hb;exact⟨x,m,rfl,a,b,aMo (λy hy=>h y (Af _ hy)) (Hq h1) (Hq h2) (Hq h3) hc⟩
theorem aCl:∀{ns:List Int}{ps:List (List Int)}{p l:List Int},p∈ps->Inn ns l->p++l∈ns.foldl (λps n=>ps.flatMap (ext n)) ps
 | [],_,_,l,h,e=>by rw[show l=[]from e,Ax];exact h
 |n::ns,ps,p,_,h,⟨x,r,e,a,b,t⟩=>by
  subst e;rw[List.append_cons];refine aCl (ns:=ns) (ps:=ps.flatMap (ext n)) (p:=p++[x]) (l:=r) (List.mem_flatMap.mpr ⟨p,h,List.mem_map.mpr ⟨x.toNat,List.mem_range.mpr ∅,?_⟩⟩) t;rw[show 0+(x.toNat:Int)=x by lia]
def aRv{q:Tk}(h1:1<=q.1)(h2:q.1<=n)(h:Inn ns q.2):q∈spS ns n:=List.mem_flatMap.mpr ⟨(q.1-1).toNat,List.mem_range.mpr ∅,List.mem_map.mpr ⟨q.2,aCl (p:=[]) Ah h,by
 show(1+((q.1-1).toNat:Int),q.2)=q;rw[show 1+((q.1-1).toNat:Int)=q.1 by lia]⟩⟩
def aTi{q:Tk}(h:q∈spS ns n):q.1<=n:=by
 obtain⟨j,hj,h⟩:=List.mem_flatMap.mp h;obtain⟨p,hp,rfl⟩:=List.mem_map.mp h;have:=List.mem_range.mp hj;show 1+(j:Int)<=n
 lia
def aT2{n:Int}{ps:List (List Int)}(h:ps.Nodup):(ps.flatMap (ext n)).Nodup:=by
 unfold Os;rw[Ig];refine⟨λp hp=>?_,h.imp λ{a b} h x hx y hy e=>?_⟩
 ·unfold ext;rw[Dg];exact(Gv (n:=n.toNat)).imp λh e=>h (by have:=(By (List.append_cancel_left e)).1;lia)
 ·obtain⟨i,_,rfl⟩:=List.mem_map.mp hx;obtain⟨j,_,rfl⟩:=List.mem_map.mp hy;exact h (List.append_inj' e rfl).1
theorem aFb:∀{ns:List Int}{ps:List (List Int)},ps.Nodup->(ns.foldl (λps n=>ps.flatMap (ext n)) ps).Nodup
 | [],_,h=>h
 |n::ns,ps,h=>aFb (ns:=ns) (ps:=ps.flatMap (ext n)) (aT2 h)
def aBc(ns:List Int)(n:Nat):(spS ns n).Nodup:=by
 unfold Os spS;rw[Ig];refine⟨λj hj=>?_,(Gv (n:=n)).imp λ{a b} h x hx y hy e=>?_⟩
 ·rw[Dg];exact(aFb (ns:=ns) (ps:=[[]]) (by simp)).imp λh e=>h (Tn e).2
 ·obtain⟨p,_,rfl⟩:=List.mem_map.mp hx;obtain⟨p',_,rfl⟩:=List.mem_map.mp hy;have:=(Tn e).1
  lia
def aEd{rs:List Rim}{q z:Tk}(gs:eE ns)(el:rs.length=ns.length)(hq:q∈spS ns n)(hy:∀y∈ys,aBh y/\y.2.length=ns.length)(h:z∈ys.filterMap (kI ns rs q)):z∈spS ns n:=by
 obtain⟨y,hy',e⟩:=List.mem_filterMap.mp h;obtain⟨gq,_⟩:=wB gs hq;have q1:=aTi hq;obtain⟨gy,ly⟩:=hy y hy';unfold kI at e;split at e
 ·cases e
 ·rename_i l hb;split at e
  ·rename_i h0;cases e;exact aRv (by show 1<=q.1-y.1;lia) (by show q.1-y.1<=n;have:=gy.1;lia) (aMo (λn hn=>by have:=(gs.ok n hn).1;lia) el gq.l ly hb)
  ·cases e
def aDb(gs:eE ns)(h:r<=12):(spS ns r.toNat).length<=480:=by
 have:=aEe (plU ns) r.toNat (by rw[Ab];exact uP gs);rw[tE,Ab]at this
 lia
theorem aJ5{i j:Int}(h:i<j)(p:List Int):gB (p++[i]) (p++[j])=true:=by induction p<;>grind [gB]
theorem aLq{i j:Int}{p q:List Int}(e:p.length=q.length)(h:gB p q=true):gB (p++[i]) (q++[j])=true:=by induction p generalizing q<;>cases q<;>grind [gB]
theorem aEr:∀(ns:List Int)(ps:List (List Int))(a:Nat),(∀p∈ps,p.length=a)->ps.Pairwise (λx y=>gB x y=true)->(ns.foldl (λps n=>ps.flatMap (ext n)) ps).Pairwise λx y=>gB x y=true
 | [],_,_,_,h=>h
 |n::ns,ps,a,hl,h=>by
  refine aEr ns (ps.flatMap (ext n)) (a+1) (λp hp=>?_) ?_
  ·obtain⟨p0,h0,h1⟩:=List.mem_flatMap.mp hp;obtain⟨i,_,rfl⟩:=List.mem_map.mp h1;rw[An,hl p0 h0];rfl
  ·rw[Ig];refine⟨λp _=>?_,(List.Pairwise.and_mem.mp h).imp λ{x y} h z hz z' hz'=>?_⟩
   ·unfold ext;rw[Dg];exact(Kg (n:=n.toNat)).imp λh=>aJ5 ∅ _
   ·obtain⟨i,_,rfl⟩:=List.mem_map.mp hz;obtain⟨j,_,rfl⟩:=List.mem_map.mp hz';exact aLq (by rw[hl _ h.1,hl _ h.2.1]) h.2.2
def aLr(ns:List Int)(n:Nat):(spS ns n).Pairwise λx y=>gU x y=true:=by
 unfold spS;rw[Ig];refine⟨λj _=>?_,(Kg (n:=n)).imp λ{a b} h x hx y hy=>?_⟩
 ·rw[Dg];refine(aEr ns [[]] 0 (λp hp=>by rw[List.mem_singleton.mp hp];rfl) (Hg _ _)).imp λh=>?_;unfold gU;rw[if_pos rfl];exact h
 ·obtain⟨p,_,rfl⟩:=List.mem_map.mp hx;obtain⟨p',_,rfl⟩:=List.mem_map.mp hy;unfold gU;rw[if_neg (by show¬(1+(a:Int)=1+(b:Int));lia)];exact decide_eq_true (by show 1+(a:Int)<1+(b:Int);lia)
theorem aP1{x y:Tk}(h:gU x y=true):x.1<=y.1:=by grind [gU]
def aIv{rs:List Rim}{q z:Tk}(hy:∀y∈ys,aBh y/\y.2.length=ns.length)(h:z∈ys.filterMap (kI ns rs q)):z.1<q.1:=by
 obtain⟨y,hy',e⟩:=List.mem_filterMap.mp h;have gy:=(hy y hy').1.1;unfold kI at e;split at e
 ·cases e
 ·split at e
  ·cases e;show q.1-y.1<q.1
   lia
  ·cases e
def aKc{don rst:List Tk}{q0 z:Tk}(e:don++q0::rst=spS ns n)(hz:z∈spS ns n)(lt:z.1<q0.1):z∈don:=by
 have up:=aLr ns n;rw[<-e]at hz up;rw[Qh,List.pairwise_cons]at up;rcases List.mem_append.mp hz with h|h
 ·exact h
 ·rcases List.mem_cons.mp h with h|h
  ·rw[h]at lt;lia
  ·have:=aP1 (up.2.1.1 z h)
   lia
def lDa(ns:List Int)(rs:List Rim)(q:Tk)(acc ys:List Tk):List Tk:=ys.foldl (λacc y=>match kI ns rs q y with
 |some z=>if z∈acc then acc else acc++[z]
 |none=>acc) acc
def lD(ns:List Int)(rs:List Rim)(ys:List Tk)(q:Tk):List Tk:=lDa ns rs q [] ys
theorem aRz{rs:List Rim}{q z:Tk}{ys acc:List Tk}:z∈lDa ns rs q acc ys↔z∈acc∨z∈ys.filterMap (kI ns rs q):=by
 unfold lDa;induction ys generalizing acc with
 |nil=>simp
 |cons y ys ih=>
  rw[Gc,ih,Gy];cases kI ns rs q y with
  |none=>rfl
  |some x=>dsimp only;split<;>grind
def xW{rs:List Rim}{q z:Tk}:z∈lD ns rs ys q↔z∈ys.filterMap (kI ns rs q):=by
 unfold lD;rw[aRz];simp
def aQq{rs:List Rim}{q:Tk}{ys acc:List Tk}:(lDa ns rs q acc ys).length<=acc.length+ys.length:=by
 unfold lDa;induction ys generalizing acc with
 |nil=>simp
 |cons y ys ih=>
  rw[Gc];refine Ba ih ?_;cases kI ns rs q y with
  |none=>simp
  |some x=>dsimp only;split<;>simp<;>lia
def aDf:Fv:=λus R=>∃ns rs ys r,∃q:Tk,us=[wD ns rs ys r,tkU q]/\yP ns rs ys r/\aS5 ns q/\R (.ow ((lD ns rs ys q).map tkU))
def gG:aK ["_law_world_here","_law_spot","_law_found","_law_back","_law_steps","_law_there_here"] ["_law_world_here","_law_spot"] (aD qY):={}
def aJw(F:Fun K "_law_leans" "_law_leans" qY f fd)(c__law_there:⇑1 "_law_there" ["_law_world_here","_law_place","_law_steps"] (spV aMt))(T:Txt mg):↥2 f fd ["_law_world_here","_law_spot"] (spV aDf):=by
 refine vfn F gG (λcdv A outer s H E hr=>(aC (aP (i:=2) gG.nd (bK aG)) (aC (bW Au rfl (aX (bH aU bG (aA 0) aH)) (mF rfl (bU (i:=3) gG.nd (bU (i:=4) gG.nd iD))) (aC (aP (i:=5) gG.nd (aJ c__law_there (hr.mono ⋯) rfl (aB (aA 0) (aB (bH aU bG (aA 1) aH) (aB (aA 4) aG))))) (aF (bQ (mY (aDh (aDd (aA 5)) (aDh (bJ uI cL (bH aU bG (aA 1) aH) (aA 3)) (aDr (bJ (tZ (huD hr)) aCm (bZ (aB (bT lB cL (bH aU bG (aA 1) aH) (aA 3)) (aB (aA 5) aG))) (aA 2)))))) (aF (wY 2 (bZ (aB (bT lB cL (bH aU bG (aA 1) aH) (aA 3)) (aB (aA 5) aG))))) aW)))) (aF (cZ 2))))) ?_;rintro _ R ⟨ns,rs,ys,r,q0,rfl,g,gq,q⟩;refine⟨rfl,_,rfl,?_⟩;refine bC (λl ρ=>∃(rest acc:List Tk)(a b c:Sl),l=rest.map tkU/\ρ=[.sh (wD ns rs ys r),.sh (tkU q0),.ow (acc.map tkU),a,b,c]/\(∀y∈rest,y∈ys)/\acc.length+rest.length<=3/\lDa ns rs q0 acc rest=lD ns rs ys q0) ?_ ?_ ⟨ys,[],_,_,_,rfl,rfl,λ_ h=>h,by have:=g.yl;simpa using this,rfl⟩
 ·rintro ρ ⟨rest,acc,a,b,c,el,rfl,_,_,ee⟩;obtain rfl:rest=[]:=List.map_eq_nil_iff.mp el.symm;have ee:acc=lD ns rs ys q0:=ee;rw[<-ee]at q;exact q
 ·rintro u l ρ ⟨rest0,acc,a,b,c,el,rfl,hs,hl,ee⟩ ih;cases rest0 with
  |nil=>cases el
  |cons y rest=>
   obtain⟨rfl,rfl⟩:=By el;have hy:=hs y Ah;obtain⟨⟨y1,y2,y9⟩,yn⟩:=g.yg y hy;rw[Am]at hl;have ee:lDa ns rs q0 (match kI ns rs q0 y with|some z=>if z∈acc then acc else acc++[z]|none=>acc) rest=lD ns rs ys q0:=ee;have go:∀acc':List Tk,acc'.length<=acc.length+1->(match kI ns rs q0 y with|some z=>if z∈acc then acc else acc++[z]|none=>acc)=acc'->∀a b c:Sl,eF _ _ _ _ [.sh (wD ns rs ys r),.sh (tkU q0),.ow (acc'.map tkU),a,b,c]:=λacc' al ea a b c=>by
    refine ih _ ⟨rest,acc',a,b,c,rfl,rfl,λx hx=>hs x (Af _ hx),∅,?_⟩;rw[<-ea];exact ee
   refine⟨rfl,_,rfl,ns,rs,ys,r,q0.2,y.2,rfl,g,gq.l,yn,gq.x,y9,?_⟩;unfold kI at go;cases hb:bes ns rs q0.2 y.2 with
   |error c=>
    rw[hb]at go;exact⟨nofun,λ_=>⟨nofun,λ_=>go acc ∅ rfl _ _ _⟩⟩
   |ok l=>
    rw[hb]at go;have e:=zR acc (q0.1-y.1,l);by_cases hp:0<q0.1-y.1
    ·have go:∀acc':List Tk,acc'.length<=acc.length+1->(if(q0.1-y.1,l)∈acc then acc else acc++[(q0.1-y.1,l)])=acc'->∀a b c:Sl,eF _ _ _ _ [.sh (wD ns rs ys r),.sh (tkU q0),.ow (acc'.map tkU),a,b,c]:=λacc' al ea a b c=>go acc' al (by dsimp only;rw[if_pos hp];exact ea) a b c;refine⟨λ_=>⟨_,rfl,λ_=>⟨_,rfl,⟨trivial,rW 38 l,trivial⟩,gM 38 acc,λz=>?_,λz=>?_⟩,λz=>?_⟩,nofun⟩
     ·have z:(!((acc.map tkU).any λe=>e.eq (tkU (q0.1-y.1,l))))=true:=z;have nm:(q0.1-y.1,l)∉acc:=λh=>by rw[e,decide_eq_true h]at z;cases z
      refine⟨by rw[Ab];lia,_,rfl,?_⟩;have:=go (acc++[(q0.1-y.1,l)]) (by simp) (if_neg nm);rw[Ce]at this;exact this _ _ _
     ·have z:(!((acc.map tkU).any λe=>e.eq (tkU (q0.1-y.1,l))))=false:=z;have nm:(q0.1-y.1,l)∈acc:=Iv λh=>by rw[e,decide_eq_false h]at z;cases z
      exact go acc ∅ (if_pos nm) _ _ _
     ·have:=of_decide_eq_false z;lia
    ·refine⟨λ_=>⟨_,rfl,λz=>?_,λ_=>⟨nofun,λ_=>go acc ∅ (by dsimp only;rw[if_neg hp]) _ _ _⟩⟩,nofun⟩;have:=of_decide_eq_true z;lia
def fIn(ns:List Str):List U->(List Str->List U->Prop)->Prop:=λus R=>us.length=ns.length/\R ns us
def uO:aK ["self","value"] ["self","value"] (aD iY):={}
def aM3(F:Fun K "__init__" "Number.__init__" iY f fd)(cN:Cfl K C ["value"]):↥1 f fd ["self","value"] (spI C (fIn ["value"])):=by
 refine F.ok uO (λvs H Q E h=>?_) (λcdv A outer s H vs Q E hr h=>?_)
 ·obtain⟨x,dx,vs',H1,W,B,us,R,rfl,_,_,_,_,ds,⟨l,_⟩,_⟩:=h;rw[Am, <-ds.length,l];rfl
 ·obtain⟨x,dx,vs',H1,W,B,us,R,rfl,n1,hx,s1,eb,ds,⟨l,hR⟩,q⟩:=h;have nw:¬W x:=λz=>eb.dm x (eb.wb x z) n1;have f0:=eb.same s1;match us,l,vs',ds with
  | [u0],_,_,⟨v0,_,rfl,d0,rfl⟩=>
   refine⟨_,(eG (jL (pv 0) (pv 1) rfl)),?_⟩;refine⟨v0,rfl,_,rfl,x,C,dx,_,rfl,hx,cN.cl,cN.na _ (by simp),by show(0:Nat)<1000;decide,?_⟩;have key:∀{H'},Fw W H1 H'->H' x=some (.ins C dx ((["value"]:List Str).zip [v0]))->Q .non H':=λfw hx=>q ["value"] _ [v0] _ hR fw hx rfl ⟨_,_,rfl,DU.mono (eb.keep fw) _ d0,rfl⟩;exact key (f0.upd n1 nw) aM
def xR:aK ["self","back","steps"] ["self","back","steps"] (aD lA):={}
def aNy(F:Fun K "__init__" "Take.__init__" lA f fd)(cN:Cfl K C ["back","steps"]):↥1 f fd ["self","back","steps"] (spI C (fIn ["back","steps"])):=by
 refine F.ok xR (λvs H Q E h=>?_) (λcdv A outer s H vs Q E hr h=>?_)
 ·obtain⟨x,dx,vs',H1,W,B,us,R,rfl,_,_,_,_,ds,⟨l,_⟩,_⟩:=h;rw[Am, <-ds.length,l];rfl
 ·obtain⟨x,dx,vs',H1,W,B,us,R,rfl,n1,hx,s1,eb,ds,⟨l,hR⟩,q⟩:=h;have nw:¬W x:=λz=>eb.dm x (eb.wb x z) n1;have f0:=eb.same s1;match us,l,vs',ds with
  | [u0,u1],_,_,⟨v0,_,rfl,d0,⟨v1,_,rfl,d1,rfl⟩⟩=>
   refine⟨_,(bO (jL (pv 0) (pv 1) rfl) (eG (jL (pv 0) (pv 2) rfl))),?_⟩;refine⟨v0,rfl,_,rfl,x,C,dx,_,rfl,hx,cN.cl,cN.na _ (by simp),by show(0:Nat)<1000;decide,⟨v1,rfl,_,rfl,x,C,dx,_,rfl,aM,cN.cl,cN.na _ (by simp),by show(1:Nat)<1000;decide,?_⟩⟩;have key:∀{H'},Fw W H1 H'->H' x=some (.ins C dx ((["back","steps"]:List Str).zip [v0,v1]))->Q .non H':=λfw hx=>q ["back","steps"] _ [v0,v1] _ hR fw hx rfl ⟨_,_,rfl,DU.mono (eb.keep fw) _ d0,⟨_,_,rfl,DU.mono (eb.keep fw) _ d1,rfl⟩⟩;exact key ((f0.upd n1 nw).upd n1 nw) aM
def uN:aK ["self","one","other"] ["self","one","other"] (aD iI):={}
def aF8(F:Fun K "__init__" "Paired.__init__" iI f fd)(cN:Cfl K C ["one","other"]):↥1 f fd ["self","one","other"] (spI C (fIn ["one","other"])):=by
 refine F.ok uN (λvs H Q E h=>?_) (λcdv A outer s H vs Q E hr h=>?_)
 ·obtain⟨x,dx,vs',H1,W,B,us,R,rfl,_,_,_,_,ds,⟨l,_⟩,_⟩:=h;rw[Am, <-ds.length,l];rfl
 ·obtain⟨x,dx,vs',H1,W,B,us,R,rfl,n1,hx,s1,eb,ds,⟨l,hR⟩,q⟩:=h;have nw:¬W x:=λz=>eb.dm x (eb.wb x z) n1;have f0:=eb.same s1;match us,l,vs',ds with
  | [u0,u1],_,_,⟨v0,_,rfl,d0,⟨v1,_,rfl,d1,rfl⟩⟩=>
   refine⟨_,(bO (jL (pv 0) (pv 1) rfl) (eG (jL (pv 0) (pv 2) rfl))),?_⟩;refine⟨v0,rfl,_,rfl,x,C,dx,_,rfl,hx,cN.cl,cN.na _ (by simp),by show(0:Nat)<1000;decide,⟨v1,rfl,_,rfl,x,C,dx,_,rfl,aM,cN.cl,cN.na _ (by simp),by show(1:Nat)<1000;decide,?_⟩⟩;have key:∀{H'},Fw W H1 H'->H' x=some (.ins C dx ((["one","other"]:List Str).zip [v0,v1]))->Q .non H':=λfw hx=>q ["one","other"] _ [v0,v1] _ hR fw hx rfl ⟨_,_,rfl,DU.mono (eb.keep fw) _ d0,⟨_,_,rfl,DU.mono (eb.keep fw) _ d1,rfl⟩⟩;exact key ((f0.upd n1 nw).upd n1 nw) aM
abbrev MkB(P:Program)(w:World)(K:Ae)(mg:Str->#v[14])(base:Heap)(C:Addr)(x:Str)(ns:List Str):Prop:=MkU P w K mg base 1 C x ("self"::ns) (fIn ns)
def aSi(N:Cn)(CG CJ:Addr):Fv:=λus R=>∃ns rs ys r,us=[wD ns rs ys r,.wl]/\yP ns rs ys r/\∀t ls zs,(∀z,z∈zs↔z∈ys)->zs.Pairwise (λx y=>gU x y=true)->R (.sh (iC N CG CJ ns rs t zs 97 r ls))
abbrev aAy:List Str:=["_law_world_here","_law_tape_here","_law_term","_law_back","_law_steps","_law_deep","_law_first"]
def fK:aK ["_law_world_here","_law_tape_here","_law_term","_law_back","_law_steps","_law_deep","_law_first"] ["_law_world_here","_law_tape_here"] (aD jN):={}
def aQh(F:Fun K "_law_job" "_law_job" jN f fd)(M_Number:MkB P w K mg base N.num "Number" ["value"])(M_Take:MkB P w K mg base N.take "Take" ["back","steps"])(M_Added:MkB P w K mg base (N.bin false) "Added" ["one","other"])(M_Multiplied:MkB P w K mg base (N.bin true) "Multiplied" ["one","other"])
  (M_Grid:MkU P w K mg base 5 CG "Grid" ["self","sizes","rims"] aGm) (M_Job:MkU P w K mg base 14 CJ "Job" ["self","grid","term","modulus","rounds","first"] (aH4 N CG))
  (c__law_draw:⇑1 "_law_draw" ["_law_tape_here","_law_many"] (spV aCd)) (c__law_places:⇑1 "_law_places" ["_law_sizes"] (spV aEh)) (T:Txt mg):↥16 f fd ["_law_world_here","_law_tape_here"] (spV (aSi N CG CJ)):=by
 refine vfn F fK (λcdv A outer s H E hr=>(aC (aP (i:=2) fK.nd (qL M_Number (hr.mono ⋯) (aB aH aG))) (aC (bW Au rfl (aX (bH aU bG (aA 0) aH)) (mF rfl (bU (i:=3) fK.nd (bU (i:=4) fK.nd iD))) (aF (aP (i:=2) fK.nd (qL M_Added (hr.mono ⋯) (aB (aA 2) (aB (qL M_Multiplied (hr.mono ⋯) (aB (qL M_Number (hr.mono ⋯) (aB (bT dG fB aH (aJ c__law_draw (hr.mono ⋯) rfl (aB (aA 1) (aB aH aG)))) aG)) (aB (qL M_Take (hr.mono ⋯) (aB (aA 3) (aB (aA 4) aG))) aG))) aG)))))) (aC (aP (i:=5) fK.nd (aEb rfl T.max (aL (gD (own:=["_law_back","_law_steps"]) (cap:=[]) (aD jN) aAy rfl rfl (λx h=>bD h) #v[1] rfl (vic (aX (bH aU bG (aA 0) aH))) ↑(zX rfl (iR (aZ (i:=0) (~~~["_law_back","_law_steps"]) rfl (Dc rfl) (Dl rfl)) (iR (aZ (i:=1) (~~~["_law_back","_law_steps"]) rfl (Dc rfl) (Dl rfl)) wF))) (aEa (is:=[0,1]) rfl ⋯) ↑(aA 0)) aV) aH)) (aC (aLx (i:=6) (own:=["_law_turn"]) (cap:=[("_law_world_here",0),("_law_tape_here",1)]) aIo fK.nd (aD jN) aAy rfl rfl (λx h=>bD h) #v[1] rfl (vic (mV T.range (aL (aA 5) aV))) (λcs cf C s2 H2 fp=>(aZ (i:=0) (~~~["_law_turn","_law_world_here","_law_tape_here"]) rfl (Dc rfl) (Dl rfl))) (bL ⋯) (λcs cf C s2 H2 fp=>(aNd (own:=["_law_place"]) (icap:=[("_law_tape_here",2)]) (aD jN) cf rfl rfl #v[1] rfl (vic (aX (aJ c__law_places (hr.mono ⋯) rfl (aB (bH aU bG (aA 1) aH) aG)))) (λcl C' s3 H3 fp'=>(aZ (i:=0) (~~~["_law_place","_law_tape_here"]) rfl (Dc rfl) (Dl rfl))) (bL ⋯) (λcl C' s3 H3 fp'=>(aJ c__law_draw (hr.mono ⋯) rfl (aB (aA 1) (aB aH aG))))))) (dU 6 (aF (aQ (qL M_Job (hr.mono ⋯) (aB (qL M_Grid (hr.mono ⋯) (aB (kE (mQ rfl) vG T.list Jn (aL (bH aU bG (aA 0) aH) aV)) (aB (kE (mQ rfl) vG T.list Jn (aL (bH aU bG (aA 0) aH) aV)) aG))) (aB (aA 2) (aB aH (aB (bH aU bG (aA 0) aH) (aB (aA 6) aG)))))))))))))) ?_;rintro _ R ⟨ns,rs,ys,r,rfl,g,q⟩;have l1:=g.gs.l1;have l3:=g.gs.l3;have yl:=g.yl;have l40:=uP g.gs;refine⟨rfl,rfl,_,rfl,?_⟩;refine bC (λl ρ=>∃(rest dn:List Tk)(t:Tm)(a b c e:Sl),l=rest.map tkU/\dn++rest=ys/\ρ=[.sh (wD ns rs ys r),.sh .wl,.sh (enc N t),a,b,c,e]/\raw t=dn/\Wf t/\((ht t=1/\rest.length<=3)∨ht t+rest.length<=5)/\rJ t+4*rest.length<=13) ?_ ?_ ⟨ys,[],.num 3,_,_,_,_,rfl,rfl,rfl,rfl,⟨⋯,⋯⟩,.inl ⟨rfl,yl⟩,by show 1+_<=13;lia⟩
 ·rintro ρ ⟨rest,dn,t,a,b,c,e,el,ed,rfl,er,hw,hh,hp⟩;obtain rfl:rest=[]:=List.map_eq_nil_iff.mp el.symm;rw[Ax]at ed;subst ed;have pr:=aAc λn hn=>(g.gs.ok n hn).1;have p6:=g.p6;have r5:=g.r5;have r0:=g.r0;have rm:r*rG ns<=120:=Wi (Int.mul_le_mul r5 p6 ∅ ⋯) ⋯;have gj:∀ls:List (List Int),ls.length<=3->(∀zs,vL t zs->(ls.length:Int)=dpt zs)->(∀l∈ls,GoodR (rG ns) 97 l)->aTf ns rs t 97 r ls:=λls h3 hd hl=>
   ⟨g.gs,g.rl,g.ro,by rcases hh with h|h<;>lia,⟨hw,λx hx=>⟨(g.yg x (er▸hx)).1,by have:=(g.yg x (er▸hx)).2;lia,by have:=(g.yg x (er▸hx)).2;lia⟩⟩,∅,⟨∅,λx hx=>(g.yg x (er▸hx)).2,dn,∅,λx hx=>er▸hx⟩,⟨⋯,⋯⟩,⟨r0,∅⟩,rm,hd,h3,hl⟩
  have yp:∀y∈dn,1<=y.1/\y.1<=3:=λy hy=>⟨(g.yg y hy).1.1,(g.yg y hy).1.2.1⟩;have mem:∀{zs},vL t zs->∀z,z∈zs↔z∈dn:=λh z=>by rw[h.2 z,er]
  refine⟨_,rfl,by rw[Ab];lia,aAw (g:=λy=> .n y.1) (α:=Unit) (λy hy k hk=>⟨rfl,hk⟩) ⟨dn.map (·.1),by rw[Az];rfl,λh=>?_,λm hm ha=>?_⟩⟩
  ·have dq:∀zs,vL t zs->dpt zs=1:=λzs hz=>by
    have e0:=List.map_eq_nil_iff.mp h;have:zs=[]:=List.eq_nil_iff_forall_not_mem.mpr λz hz'=>by have:=(mem hz z).mp hz';rw[e0]at this;cases this
    rw[this];rfl
   refine⟨∅,∅,by rw[lY];lia,gH (λx=>∃l:List Int,x=.ls (l.map U.n)/\GoodR (rG ns) 97 l) (λu hu c hc=>?_) λxs xl xp=>?_⟩
   ·refine⟨_,rfl,ns,rfl,g.gs,l40,by rw[Ab];lia,gH (λx=>∃v:Int,x=.n v/\(0<=v/\v<97)) (λu hu c hc=>⟨97,rfl,⋯,⋯,λv v0 v97=>hc _ ⟨v,rfl,v0,v97⟩⟩) λxs xl xp=>?_⟩;obtain⟨l,rfl,hl⟩:=pull xp;rw[Ab,Ab]at xl;exact hc _ ⟨l,rfl,∅,∅,hl⟩
   ·obtain⟨ls,rfl,hl⟩:=pull xp;rw[Ab,lY]at xl;refine⟨_,rfl,_,rfl,⟨ns,rs,rfl,g.gs,g.rl,g.ro,_,rfl,ns,rs,t,97,r,ls,rfl,gj ls ∅ (λzs hz=>by have:=dq zs hz;lia) hl,λzs hz=>q t ls zs (mem hz) hz.1⟩⟩
  ·have dq:∀zs,vL t zs->dpt zs=m:=λzs hz=>by
    obtain⟨y,hy,e⟩:=List.mem_map.mp hm;refine aLz (λy hy=>by have:=yp y ((mem hz y).mp hy);lia) (List.mem_map.mpr ⟨y,(mem hz y).mpr hy,e⟩) λa ha'=>?_;obtain⟨z,hz',e'⟩:=List.mem_map.mp ha';exact ha a (List.mem_map.mpr ⟨z,(mem hz z).mp hz',e'⟩)
   have m13:1<=m/\m<=3:=by
    obtain⟨y,hy,e⟩:=List.mem_map.mp hm;have:=yp y hy
    lia
   refine⟨∅,∅,by rw[lY];lia,gH (λx=>∃l:List Int,x=.ls (l.map U.n)/\GoodR (rG ns) 97 l) (λu hu c hc=>?_) λxs xl xp=>?_⟩
   ·refine⟨_,rfl,ns,rfl,g.gs,l40,by rw[Ab];lia,gH (λx=>∃v:Int,x=.n v/\(0<=v/\v<97)) (λu hu c hc=>⟨97,rfl,⋯,⋯,λv v0 v97=>hc _ ⟨v,rfl,v0,v97⟩⟩) λxs xl xp=>?_⟩;obtain⟨l,rfl,hl⟩:=pull xp;rw[Ab,Ab]at xl;exact hc _ ⟨l,rfl,∅,∅,hl⟩
   ·obtain⟨ls,rfl,hl⟩:=pull xp;rw[Ab,lY]at xl;refine⟨_,rfl,_,rfl,⟨ns,rs,rfl,g.gs,g.rl,g.ro,_,rfl,ns,rs,t,97,r,ls,rfl,gj ls ∅ (λzs hz=>by have:=dq zs hz;lia) hl,λzs hz=>q t ls zs (mem hz) hz.1⟩⟩
 ·rintro u l ρ ⟨rest0,dn,t,a,b,c,e,el,ed,rfl,er,hw,hh,hp⟩ ih;cases rest0 with
  |nil=>cases el
  |cons y rest=>
   obtain⟨rfl,rfl⟩:=By el;rw[Am]at hh hp;refine⟨rfl,4,rfl,⋯,⋯,λv v0 v4=>⟨rfl,rfl,rfl,rfl,ih _ ⟨rest,dn++[y],.bin false t (.bin true (.num (1+v)) (.take y.1 y.2)),_,_,_,_,rfl,by rw[<-ed];simp,rfl,?_,?_,?_,?_⟩⟩⟩
   ·simp[raw,er]
   ·exact⟨hw,⟨∅,∅⟩,trivial⟩
   ·right;simp only[ht];lia
   ·simp only[rJ];lia
def kvU(l:List Tk)(f:Tk->U):List (Tke×U):=l.map λq=>(q,f q)
def gF(l:List Tk)(f:Tk->U):(kvU l f).map (·.1)=l:=by simp[kvU,Pr]
theorem lM{f:Tk->U}{z:Tk}(h:z∈l):fD (kvU l f) z=some (f z):=by
 unfold kvU;induction l<;>grind [fD]
theorem wN{f:Tk->U}{q:Tk}{u:U}(h:q∉l):pN (kvU l f) q u=kvU (l++[q]) λz=>if z=q then u else f z:=by
 unfold pN;rw[if_neg λz=>h (by have:=pF z;rwa [gF]at this)];simp only[kvU,Ce,Bo,Ep,if_pos];congr 1;exact Do λz _=>by grind
theorem aPp{l m:List (Tke×U)}{z:Tk}:fD (l++m) z=(fD l z).or (fD m z):=by
 induction l<;>grind [fD]
theorem aRp{l:List (Tke×U)}{k z:Tk}{u:U}:fD (pN l k u) z=if z=k then some u else fD l z:=by
 have e:fD (l.map λp=>if p.1=k then(p.1,u)else p) z=if z=k/\(fD l k).isSome then some u else fD l z:=by induction l<;>grind [fD]
 unfold pN;cases hv:fD l k<;>grind [fD,aPp,Option.or]
def lu(ln:Tk->List Tk)(row:List Tk):Nat->Tk->Option Nat
 |0,_=>none
 |n+1,q=>if(row[n]?).any (λr=>decide (q∈ln r))then some n else lu ln row n q
theorem aX0{ln:Tk->List Tk}{row:List Tk}{q:Tk}{p n:Nat}(h:lu ln row n q=some p):∃r,row[p]? =some r/\q∈ln r:=by
 induction n<;>grind [lu]
def aXg(P:Program)(w:World)(N:Cn)(CG CJ:Addr):Fv:=λus R=>∃ns rs t ys m r ls,us=[iC N CG CJ ns rs t ys m r ls]/\eE ns/\rs.length=ns.length/\aF2 ys ns.length/\0<=r/\r<=12/\∀g:Tk->List Tk,(∀q∈spS ns r.toNat,aVc ns rs ys q (g q))->R (.oo (pdO P w (kvU (spS ns r.toNat) λq=> .ls ((g q).map tkU))))
def jK:aK ["job","leans","spot"] ["job"] (aD kJ):={}
def aTj(F:Fun K "leans_by_spot" "leans_by_spot" kJ f fd)(D_all_spots:Dis P w K mg base CX0 3 (·=CJ) "all_spots" ["self"] λ_=>spV (aNv N CG CJ))(c_leans_of:⇑6 "leans_of" ["job","spot"] (spV (aHi N CG CJ)))(T:Txt mg):↥7 f fd ["job"] (spV (aXg P w N CG CJ)):=by
 refine vfn F jK (λcdv A outer s H E hr=>(aC (aP (i:=1) jK.nd (tU (P:=P) (w:=w) rfl rfl)) (aC (bW Au rfl (aX (bY (aA 0) D_all_spots (hr.mono ⋯))) (cI (i:=2) jK.nd) (aF (pW (P:=P) (w:=w) 1 rfl rfl hr (aA 2) (aJ c_leans_of (hr.mono ⋯) rfl (aB (aA 0) (aB (aA 2) aG)))))) (aF (cZ 1))))) ?_;rintro _ R ⟨ns,rs,t,ys,m,r,ls,rfl,gs,el,gy,r0,r12,q⟩;have yn:∀y∈ys,y.2.length=ns.length:=λy hy=>(gy.gt y hy).2;have sl:=aDb gs r12;refine⟨rfl,rfl,rfl,ns,rs,t,ys,m,r,ls,rfl,gs,uP gs,r0,r12,?_⟩;rw[tE];refine bC (λl ρ=>∃(don rst:List Tk)(g:Tk->List Tk)(x:Sl),l=rst.map tkU/\don++rst=spS ns r.toNat/\(∀q∈don,aVc ns rs ys q (g q))/\ρ=[.sh (iC N CG CJ ns rs t ys m r ls),.oo (pdO P w (kvU don λq=> .ls ((g q).map tkU))),x]) ?_ ?_ ⟨[],spS ns r.toNat,λ_=>[],_,rfl,rfl,nofun,rfl⟩
 ·rintro ρ ⟨don,rst,g,x,e1,e2,hd,rfl⟩;obtain rfl:rst=[]:=List.map_eq_nil_iff.mp e1.symm;rw[Ax]at e2;subst e2;exact q g hd
 ·rintro u l ρ ⟨don,rst,g,x,e1,e2,hd,rfl⟩ ih;cases rst with
  |nil=>cases e1
  |cons q0 rst=>
   cases e1;have hq:q0∈spS ns r.toNat:=by rw[<-e2];simp
   obtain⟨gq,_⟩:=wB gs hq;have nd:q0∉don:=λz=>by
    have:=aGp (aLr ns r.toNat);rw[<-e2,Hs]at this;exact this.2.2 q0 z q0 Ah rfl
   have dl:don.length<=480:=by
    have:=congrArg Bz e2;rw[An]at this
    lia
   refine⟨ns,rs,t,ys,m,r,ls,q0,rfl,gs,el,gq.l,yn,gy.yl,λzs hz=>⟨_,rfl,by unfold kvU;rw[Ab];lia,q0,rfl,?_⟩⟩;rw[wN nd,show(λz=>if z=q0 then U.ls (zs.map tkU)else U.ls ((g z).map tkU))=λq=>U.ls ((if q=q0 then zs else g q).map tkU)from funext λz=>by split<;>rfl];refine ih _ ⟨don++[q0],rst,λz=>if z=q0 then zs else g z,.sh (tkU q0),rfl,by rw[<-e2];simp,λp hp=>?_,rfl⟩;dsimp only;rcases List.mem_append.mp hp with h|h
   ·rw[if_neg λe:p=q0=>nd (e▸h)];exact hd p h
   ·obtain rfl:=List.mem_singleton.mp h;rw[if_pos rfl];exact hz
structure rH(ns:List Int)(r:Int)(row:List Tk):Prop where
 nd:row.Nodup
 me:∀q,q∈row↔q∈spS ns r.toNat
def rH.len{row:List Tk}(h:rH ns r row)(gs:eE ns)(r12:r<=12):row.length<=480:=by
 have:=h.nd.length_le_of_subset (l₂:=spS ns r.toNat) λq hq=>(h.me q).mp hq;have:=aDb gs r12
 lia
abbrev lnY(ns:List Int)(rs:List Rim)(ys:List Tk)(q:Tk):List Tk:=ys.filterMap (kI ns rs q)
structure Rd(ns:List Int)(rs:List Rim)(ys row:List Tk)(n:Nat)(dn:List Tk)(kvs:List (Tke×U)):Prop where
 nd:(kvs.map (·.1)).Nodup
 inn:∀q∈kvs.map (·.1),q∈row
 val:∀q,fD kvs q=if q∈dn then some (.n (n:Int))else(lu (lnY ns rs ys) row n q).map λp:Nat=> .n (p:Int)
def Rd.len{rs:List Rim}{ys row dn:List Tk}(h:Rd ns rs ys row n dn kvs):kvs.length<=row.length:=by
 have:=h.nd.length_le_of_subset (l₂:=row) h.inn
 rwa [Ab]at this
def Rd.put{rs:List Rim}{ys row dn:List Tk}{q:Tk}(h:Rd ns rs ys row n dn kvs)(hq:q∈row):Rd ns rs ys row n (dn++[q]) (pN kvs q (.n (n:Int))):=by
 refine⟨aRa h.nd,λz hz=>(aNb.mp hz).elim (h.inn z) λe=>e▸hq,λz=>?_⟩;rw[aRp,h.val];by_cases e:z=q
 ·rw[if_pos e,if_pos (by simp[e])]
 ·rw[if_neg e];by_cases e2:z∈dn
  ·rw[if_pos e2,if_pos (by simp[e2])]
  ·rw[if_neg e2,if_neg (by simp[e2,e])]
def Rd.next{rs:List Rim}{ys row dn:List Tk}{q0:Tk}(h:Rd ns rs ys row n dn kvs)(hr:row[n]? =some q0)(hd:∀z,z∈dn↔z∈lnY ns rs ys q0):Rd ns rs ys row (n+1) [] kvs:=by
 refine⟨h.nd,h.inn,λq=>?_⟩;rw[h.val,if_neg (by simp:q∉([]:List Tk))];rw[show lu (lnY ns rs ys) row (n+1) q=if(row[n]?).any (λr=>decide (q∈lnY ns rs ys r))then some n else lu (lnY ns rs ys) row n q from rfl,hr];show _=((if decide (q∈lnY ns rs ys q0)=true then some n else _):Option Nat).map _;by_cases e:q∈dn
 ·rw[if_pos e,if_pos (decide_eq_true ((hd q).mp e))];rfl
 ·rw[if_neg e,if_neg λz=>e ((hd q).mpr (of_decide_eq_true z))]
def Rd.zero{rs:List Rim}{ys row:List Tk}:Rd ns rs ys row 0 [] []:=⟨Ib,nofun,λ_=>rfl⟩
def qH(row:List Tk):rF (row.map tkU)=(row.zipIdx).map λx=> .tp [.n (x.2:Nat),tkU x.1]:=by
 unfold rF;rw[List.zipIdx_map,Az];rfl
def tD{row:List Tk}{u:U}{l:List U}(e:u::l=(row.zipIdx.drop n).map λx=>U.tp [.n (x.2:Nat),tkU x.1]):∃q0,row[n]? =some q0/\u=.tp [.n (n:Nat),tkU q0]/\l=(row.zipIdx.drop (n+1)).map λx=>U.tp [.n (x.2:Nat),tkU x.1]:=by
 have hlt:n<row.zipIdx.length:=by
  have:=congrArg Bz e;simp at this;simp
  lia
 rw[Bf hlt,Bo,List.getElem_zipIdx]at e;obtain⟨rfl,rfl⟩:=By e;rw[Rc]at hlt;exact⟨_,Ag hlt,by simp,rfl⟩
def aPh(P:Program)(w:World)(N:Cn)(CG CJ:Addr):Fv:=λus R=>∃ns rs t ys m r ls,∃row:List Tk,us=[iC N CG CJ ns rs t ys m r ls,.ls (row.map tkU)]/\eE ns/\rs.length=ns.length/\aF2 ys ns.length/\0<=r/\r<=12/\rH ns r row/\∀g:Tk->U,(∀(j:Nat)(q:Tk),row[j]? =some q->g q=.n (((lu (lnY ns rs ys) row row.length q).getD j:Nat):Int))->R (.oo (pdO P w (kvU row g)))
def dI:aK ["job","row","leans","used","place","reader","made","last","spot"] ["job","row"] (aD uT):={}
def aQt(F:Fun K "last_use" "last_use" uT f fd)(c_leans_by_spot:⇑7 "leans_by_spot" ["job"] (spV (aXg P w N CG CJ)))(T:Txt mg):↥8 f fd ["job","row"] (spV (aPh P w N CG CJ)):=by
 refine vfn F dI (λcdv A outer s H E hr=>(aC (aP (i:=2) dI.nd (aJ c_leans_by_spot (hr.mono ⋯) rfl (aB (aA 0) aG))) (aC (aP (i:=3) dI.nd (tU (P:=P) (w:=w) rfl rfl)) (aC (bW Au rfl (lU T.enumerate (aB (aA 1) aG)) (mF rfl (bU (i:=4) dI.nd (bU (i:=5) dI.nd iD))) (aF (bW Au rfl (aX (yK (P:=P) (w:=w) rfl rfl hr (aA 2) (aA 5))) (cI (i:=6) dI.nd) (aF (pW (P:=P) (w:=w) 3 rfl rfl hr (aA 6) (aA 4)))))) (aC (aP (i:=7) dI.nd (tU (P:=P) (w:=w) rfl rfl)) (aC (bW Au rfl (lU T.enumerate (aB (aA 1) aG)) (mF rfl (bU (i:=4) dI.nd (bU (i:=8) dI.nd iD))) (aF (pW (P:=P) (w:=w) 7 rfl rfl hr (aA 8) (aIr (P:=P) (w:=w) rfl rfl hr (aA 3) (aA 8) (aA 4))))) (aF (cZ 7)))))))) ?_;rintro _ R ⟨ns,rs,t,ys,m,r,ls,row,rfl,gs,el,gy,r0,r12,ro,q⟩;have rl:=ro.len gs r12;refine⟨rfl,ns,rs,t,ys,m,r,ls,rfl,gs,el,gy,r0,r12,λlg hlg=>?_⟩;refine bC (λl ρ=>∃(n:Nat)(kvs:List (Tke×U))(a b c:Sl),l=(row.zipIdx.drop n).map (λx=>U.tp [.n (x.2:Nat),tkU x.1])/\n<=row.length/\Rd ns rs ys row n [] kvs/\ρ=[.sh (iC N CG CJ ns rs t ys m r ls),.sh (.ls (row.map tkU)),.oo (pdO P w (kvU (spS ns r.toNat) λq=> .ls ((lg q).map tkU))),.oo (pdO P w kvs),a,b,c,.no,.no]) ?_ ?_ ⟨0,[],_,_,_,qH row,Bd _,Rd.zero,rfl⟩
 ·rintro ρ ⟨n,used,a,b,c,e1,hn,hu,rfl⟩;obtain rfl:n=row.length:=by
   have:=congrArg Bz e1;simp at this
   lia
  refine bC (λl ρ=>∃(n:Nat)(g:Tk->U)(a b c e:Sl),l=(row.zipIdx.drop n).map (λx=>U.tp [.n (x.2:Nat),tkU x.1])/\n<=row.length/\(∀(j:Nat)(q:Tk),j<n->row[j]? =some q->g q=.n (((lu (lnY ns rs ys) row row.length q).getD j:Nat):Int))/\ρ=[.sh (iC N CG CJ ns rs t ys m r ls),.sh (.ls (row.map tkU)),.oo (pdO P w (kvU (spS ns r.toNat) λq=> .ls ((lg q).map tkU))),.oo (pdO P w used),a,b,c,.oo (pdO P w (kvU (row.take n) g)),e]) ?_ ?_ ⟨0,λ_=> .no,_,_,_,_,qH row,Bd _,nofun,rfl⟩
  ·rintro ρ ⟨n,g,a,b,c,e,e1,hn,hg,rfl⟩;obtain rfl:n=row.length:=by
    have:=congrArg Bz e1;simp at this
    lia
   rw[Fs];exact q g λj q0 hj=>hg j q0 (List.getElem?_eq_some_iff.mp hj).1 hj
  ·rintro u l ρ ⟨n,g,a,b,c,e,e1,hn,hg,rfl⟩ ih;obtain⟨q0,hq0,rfl,rfl⟩:=tD e1;have hlt:=(List.getElem?_eq_some_iff.mp hq0).1;have nin:q0∉row.take n:=λz=>by
    obtain⟨j,hj⟩:=List.mem_iff_getElem?.mp z;rw[Re]at hj;split at hj
    ·rename_i hjn;have:=(Ee ∅ ro.nd).mp (hj.trans hq0.symm)
     lia
    ·cases hj
   refine⟨rfl,used,.inl rfl,q0,rfl,_,rfl,by unfold kvU;rw[Ab,Bp];lia,q0,rfl,?_⟩;rw[wN nin,show row.take n++[q0]=row.take (n+1) by rw[Ff,hq0];rfl];refine ih _ ⟨n+1,_,_,_,_,_,rfl,hlt,λj q1 hj h1=>?_,rfl⟩;by_cases e:q1=q0
   ·subst e;have:=(Ee hlt ro.nd).mp (hq0.trans h1.symm);subst this;rw[if_pos rfl,hu.val,if_neg (by simp)];cases lu (lnY ns rs ys) row row.length q1<;>rfl
   ·rw[if_neg e];refine hg j q1 ?_ h1;have:j≠n:=λz=>e (by rw[z,hq0]at h1;exact(Bl h1).symm)
    lia
 ·rintro u l ρ ⟨n,kvs,a,b,c,e1,hn,hu,rfl⟩ ih;obtain⟨q0,hq0,rfl,rfl⟩:=tD e1;have hlt:=(List.getElem?_eq_some_iff.mp hq0).1;have hq:=(ro.me q0).mp (Ay hq0);have hz:=hlg q0 hq;refine⟨rfl,_,q0,_,.inl rfl,rfl,lM hq,?_⟩;refine bC (λl ρ=>∃(dn rt:List Tk)(kvs:List (Tke×U))(c:Sl),l=rt.map tkU/\dn++rt=lg q0/\Rd ns rs ys row n dn kvs/\ρ=[.sh (iC N CG CJ ns rs t ys m r ls),.sh (.ls (row.map tkU)),.oo (pdO P w (kvU (spS ns r.toNat) λq=> .ls ((lg q).map tkU))),.oo (pdO P w kvs),.sh (.n (n:Nat)),.sh (tkU q0),c,.no,.no]) ?_ ?_ ⟨[],lg q0,kvs,_,rfl,rfl,hu,rfl⟩
  ·rintro ρ ⟨dn,rt,kvs,c,e1,e2,hu,rfl⟩;obtain rfl:rt=[]:=List.map_eq_nil_iff.mp e1.symm;rw[Ax]at e2;subst e2;exact ih _ ⟨n+1,kvs,_,_,_,rfl,hlt,hu.next hq0 hz.2,rfl⟩
  ·rintro u2 l2 ρ ⟨dn,rt,kvs,c,e1,e2,hu,rfl⟩ ih2;cases rt with
   |nil=>cases e1
   |cons z rt=>
    cases e1;have hz':z∈row:=(ro.me z).mpr (aEd gs el hq gy.gt ((hz.2 z).mp (by rw[<-e2];simp)));have:=hu.len;exact⟨kvs,rfl,∅,z,rfl,ih2 _ ⟨dn++[z],rt,_,_,rfl,by rw[<-e2];simp,hu.put hz',rfl⟩⟩
def aUm{q:Tk}(h:q∈spS ns n):1<=q.1/\q.1<=n/\Inn ns q.2:=by
 obtain⟨j,hj,h⟩:=List.mem_flatMap.mp h;obtain⟨p,hp,rfl⟩:=List.mem_map.mp h;have hj:=List.mem_range.mp hj;refine⟨by show 1<=1+(j:Int);lia,by show 1+(j:Int)<=n;lia,?_⟩;have key:∀(ns:List Int)(ps:List (List Int))(p:List Int),p∈ns.foldl (λps n=>ps.flatMap (ext n)) ps->∃p0∈ps,∃l,p=p0++l/\Inn ns l:=by
  intro ns;induction ns with
  |nil=>exactλps p h=>⟨p,h,[],by simp,rfl⟩
  |cons n ns ih=>
   intro ps p h;obtain⟨p1,h1,l,rfl,hl⟩:=ih _ p h;obtain⟨p0,h0,h2⟩:=List.mem_flatMap.mp h1;obtain⟨i,hi,rfl⟩:=List.mem_map.mp h2;have hi:=List.mem_range.mp hi;exact⟨p0,h0,(0+(i:Int))::l,by simp,_,_,rfl,∅,∅,hl⟩
 obtain⟨p0,h0,l,rfl,hl⟩:=key ns [[]] p hp;rw[List.mem_singleton.mp h0];exact hl
def Inn.len{ns l:List Int}(h:Inn ns l):l.length=ns.length:=by
 induction ns generalizing l with
 |nil=>rw[show l=[]from h]
 |cons n ns ih=>obtain⟨x,r,rfl,_,_,h⟩:=h;simp[ih h]
def Inn.zip{ns l:List Int}(h:Inn ns l):∀u∈aD1 (l.map U.n) (ns.map U.n),∃x n:Int,u=.tp [.n x,.n n]/\0<=x/\x<n:=by
 induction ns generalizing l with
 |nil=>rw[show l=[]from h];exact nofun
 |cons n ns ih=>
  obtain⟨x,r,rfl,h0,h1,h⟩:=h;intro u hu;rcases List.mem_cons.mp hu with rfl|hu
  ·exact⟨x,n,rfl,h0,h1⟩
  ·exact ih h u hu
def aYx(C:Addr):Fv:=λus R=>∃(ns:List Int)(rs:List Rim)(p:List Int),us=[grU C ns rs,.tp (p.map U.n)]/\eE ns/\Inn ns p/\R (.sh (.b true))
abbrev wW:List Str:=["self","thing"]
def vN:aK ["self","thing"] ["self","thing"] (aD fU):={}
def aTl(F:Fun K "has_place" "Grid.has_place" fU f fd)(cG:Cfl K C ["sizes","rims"])(c_is_within:⇑2 "is_within" PW3 (spV iV))(D_lines:Dis P w K mg base CX0 1 (·=C) "lines" ["self"] λ_=>spV (aGt C))(T:Txt mg):↥3 f fd ["self","thing"] (spV (aYx C)):=by
 refine vfn F vN (λcdv A outer s H E hr=>(aC (bQ (mY (pJ (cT (cQ (oR .tp nofun T.isinstance T.tuple Lv (aA 1)))) (kO (bJ (kY (huD hr)) cV (bB aR cU T.len Dq (aL (aA 1) aV)) (bY (aA 0) D_lines (hr.mono ⋯)))))) (aF (aQ jH)) aW) (aF (aQ (bB rT (xU rfl) T.all Qv (aL (gD (own:=["number","size"]) (cap:=[]) (aD fU) wW rfl rfl (λx h=>bD h) #v[1] rfl (vic (aU4 T.zip (aB (aA 1) (aB (dW cG (aA 0)) aG)))) ↑(zX rfl (iR (aZ (i:=0) (~~~["number","size"]) rfl (Dc rfl) (Dl rfl)) (iR (aZ (i:=1) (~~~["number","size"]) rfl (Dc rfl) (Dl rfl)) wF))) (aEa (is:=[0,1]) rfl ⋯) ↑(aJ c_is_within (hr.mono ⋯) rfl (aB (aA 0) (aB aH (aB (bT lB cL (aA 1) aH) aG))))) aV)))))) ?_;rintro _ R ⟨ns,rs,p,rfl,gs,hp,q⟩;have el:p.length=ns.length:=hp.len;have l3:=gs.l3;refine⟨rfl,_,rfl,nofun,λ_=>⟨rfl,rfl,ns,rs,rfl,trivial,trivial,λz=>?_,λ_=>?_⟩⟩
 ·have z:(!(U.eq (.n ((p.map U.n).length:Nat)) (.n (ns.length:Nat))))=true:=z;rw[Ab,el,show U.eq (.n (ns.length:Nat)) (.n (ns.length:Nat))=true from beq_self_eq_true _]at z;cases z
 ·refine⟨rfl,.inl ⟨rfl,by rw[Ab,Ab];lia,by simp[aD1];lia,eY (h:=λ_=> .b true) (λu hu k hk=>?_) ?_⟩⟩
  ·obtain⟨x,n,rfl,h0,h1⟩:=hp.zip u hu;refine⟨rfl,_,_,_,_,rfl,rfl,?_⟩;show k (some (.b (isIn (.n x) 0 (n-1))));rw[show isIn (.n x) 0 (n-1)=true by simp[isIn];lia];exact hk
  ·refine⟨(aD1 (p.map U.n) (ns.map U.n)).map λ_=>true,by rw[Az];rfl,?_⟩;exact Rbl q (by simp)
def aIs(N:Cn)(CG CJ:Addr):Fv:=λus R=>∃ns rs t ys m r ls,∃q:Tk,us=[iC N CG CJ ns rs t ys m r ls,tkU q]/\eE ns/\0<=r/\q∈spS ns r.toNat/\R (.sh (.b true))
def zZ:aK ["self","thing"] ["self","thing"] (aD oF):={}
def aK5(F:Fun K "is_spot" "Job.is_spot" oF f fd)(cJ:Cfl K CJ ["taken","grid","term","modulus","rounds","first"])(c_is_within:⇑2 "is_within" PW3 (spV iV))(D_has_place:Dis P w K mg base CX0 3 (·=CG) "has_place" ["self","thing"] λ_=>spV (aYx CG))(T:Txt mg):↥4 f fd ["self","thing"] (spV (aIs N CG CJ)):=by
 refine vfn F zZ (λcdv A outer s H E hr=>(aC (bQ (mY (pJ (cT (cQ (oR .tp nofun T.isinstance T.tuple Lv (aA 1)))) (kO (bJ (kY (huD hr)) cV (bB aR cU T.len Dq (aL (aA 1) aV)) aH)))) (aF (aQ jH)) aW) (aF (aQ (sG (aJ c_is_within (hr.mono ⋯) rfl (aB (bH aU bG (aA 1) aH) (aB aH (aB (dW cJ (aA 0)) aG)))) (pP (vW (dW cJ (aA 0)) D_has_place (hr.mono ⋯) (aB (bH aU bG (aA 1) aH) aG)))))))) ?_;rintro _ R ⟨ns,rs,t,ys,m,r,ls,q0,rfl,gs,r0,hq,q⟩;obtain⟨h1,h2,hi⟩:=aUm hq;refine⟨rfl,_,rfl,nofun,λ_=>⟨trivial,trivial,λz=>?_,λ_=>?_⟩⟩
 ·have z:false=true:=z;cases z
 refine⟨_,rfl,rfl,show aHy "rounds" ["taken","grid","term","modulus","rounds","first"] _ _ from aI6 (xs:=["taken","grid","term","modulus","rounds","first"]) (k:=4) (u:=.n r) ?_ #v[1] rfl rfl⟩;refine⟨_,_,_,_,rfl,rfl,λ_=>?_,λz=>?_⟩
 ·refine⟨rfl,show aHy "grid" ["taken","grid","term","modulus","rounds","first"] _ _ from aI6 (xs:=["taken","grid","term","modulus","rounds","first"]) (k:=1) (u:=grU CG ns rs) ?_ #v[1] rfl rfl⟩;exact⟨rfl,by decide+kernel,_,rfl,ns,rs,q0.2,rfl,gs,hi,q⟩
 ·have z:isIn (.n q0.1) 1 r=false:=z;have:isIn (.n q0.1) 1 r=true:=by simp[isIn];lia
  rw[this]at z;cases z
def aLs(N:Cn)(CG CJ:Addr):Fv:=λus R=>∃ns rs t ys m r ls,∃l:List Tk,us=[iC N CG CJ ns rs t ys m r ls,.ls (l.map tkU)]/\eE ns/\0<=r/\l.length<=480/\(∀q∈l,q∈spS ns r.toNat)/\R (.sh (.b true))
abbrev aE4:List Str:=["job","thing"]
def aDx:aK ["job","thing"] ["job","thing"] (aD nO):={}
def aOl(F:Fun K "are_spots" "are_spots" nO f fd)(D_is_spot:Dis P w K mg base CX0 4 (·=CJ) "is_spot" ["self","thing"] λ_=>spV (aIs N CG CJ))(T:Txt mg):↥5 f fd ["job","thing"] (spV (aLs N CG CJ)):=by
 refine vfn F aDx (λcdv A outer s H E hr=>(aF (aQ (sG (oR .ls nofun T.isinstance T.list Jn (aA 1)) (pP (bB rT (xU rfl) T.all Qv (aL (gD (own:=["spot"]) (cap:=[("job",0)]) (aD nO) aE4 rfl rfl (λx h=>bD h) #v[1] rfl (vic (aX (aA 1))) ↑(aZ (i:=0) (~~~["spot","job"]) rfl (Dc rfl) (Dl rfl)) (bL ⋯) ↑(vW (aA 1) D_is_spot (hr.mono ⋯) (aB (aA 0) aG))) aV))))))) ?_;rintro _ R ⟨ns,rs,t,ys,m,r,ls,l,rfl,gs,r0,ll,hl,q⟩;refine⟨rfl,_,rfl,λ_=>?_,nofun⟩;refine⟨by rw[Ab];lia,eY (h:=λ_=> .b true) (λu hu k hk=>?_) ?_⟩
 ·obtain⟨q0,hq,rfl⟩:=List.mem_map.mp hu;exact⟨rfl,by decide+kernel,ns,rs,t,ys,m,r,ls,q0,rfl,gs,r0,hl q0 hq,hk⟩
 ·refine⟨(l.map tkU).map λ_=>true,by rw[Az,Az,Az];rfl,?_⟩;exact Rbl q (by simp)
def aSg(N:Cn)(CG CJ:Addr):Fv:=λus R=>∃ns rs t ys m r ls,∃l:List Tk,us=[iC N CG CJ ns rs t ys m r ls,.ls (l.map tkU)]/\eE ns/\0<=r/\l.length<300/\(∀q∈l,q∈spS ns r.toNat)/\l.Nodup/\R (.sh (.b true))
def aBt:aK ["job","thing"] ["job","thing"] (aD qQ):={}
def aQe(F:Fun K "are_wanted" "are_wanted" qQ f fd)(c_are_spots:⇑5 "are_spots" ["job","thing"] (spV (aLs N CG CJ)))(T:Txt mg):↥6 f fd ["job","thing"] (spV (aSg N CG CJ)):=by
 refine vfn F aBt (λcdv A outer s H E hr=>(aF (aQ (sG (aJ c_are_spots (hr.mono ⋯) rfl (aB (aA 0) (aB (aA 1) aG))) (pP (oV (dO (huD hr)) cV (aRj hr rfl T.len T.set (aL (aA 1) aV)) (bB aR cU T.len Dq (aL (aA 1) aV)))))))) ?_;rintro _ R ⟨ns,rs,t,ys,m,r,ls,l,rfl,gs,r0,ll,hl,nd,q⟩;refine⟨rfl,ns,rs,t,ys,m,r,ls,l,rfl,gs,r0,∅,hl,λ_=>?_,nofun⟩;refine⟨l,rfl,ll,λn hn=>⟨trivial,trivial,?_⟩⟩;have e:U.eq (.n (n:Nat)) (.n ((l.map tkU).length:Nat))=true:=by rw[Ab,hn nd];exact beq_self_eq_true _
 show R (.sh (.b (U.eq (.n (n:Nat)) (.n ((l.map tkU).length:Nat)))));rw[e];exact q
def aPb(P:Program)(w:World):Fv:=λus R=>∃row:List Tk,us=[.ls [.ls (row.map tkU)]]/\row.Nodup/\row.length<=480/\R (.oo (pdO P w (kvU row λ_=> .n 1)))
def lN:aK ["pieces","counts","piece","spot"] ["pieces"] (aD rN):={}
def aN4(F:Fun K "counts_in" "counts_in" rN f fd)(T:Txt mg):↥1 f fd ["pieces"] (spV (aPb P w)):=by
 refine vfn F lN (λcdv A outer s H E(hr:cW 0 _)=>(aC (aP (i:=1) lN.nd (tU (P:=P) (w:=w) rfl rfl)) (aC (bW Au rfl (aX (aA 0)) (cI (i:=2) lN.nd) (aF (bW Au rfl (aX (aA 2)) (cI (i:=3) lN.nd) (aF (pW (P:=P) (w:=w) 1 rfl rfl hr (aA 3) (bT dG fB (aIr (P:=P) (w:=w) rfl rfl hr (aA 1) (aA 3) aH) aH)))))) (aF (cZ 1))))) ?_;rintro _ R ⟨row,rfl,nd,rl,q⟩;refine⟨rfl,?_⟩;show eF (gR 3) _ _ (row.map tkU) _;refine bC (λl ρ=>∃(dn rst:List Tk)(a b:Sl),l=rst.map tkU/\dn++rst=row/\ρ=[.sh (.ls [.ls (row.map tkU)]),.oo (pdO P w (kvU dn λ_=> .n 1)),a,b]) ?_ ?_ ⟨[],row,_,_,rfl,rfl,rfl⟩
 ·rintro ρ ⟨dn,rst,a,b,el,ed,rfl⟩;obtain rfl:rst=[]:=List.map_eq_nil_iff.mp el.symm;rw[Ax]at ed;subst ed;exact q
 ·rintro u l ρ ⟨dn,rst0,a,b,el,ed,rfl⟩ ih;cases rst0 with
  |nil=>cases el
  |cons q0 rst=>
   obtain⟨rfl,rfl⟩:=By el;have nq:q0∉dn:=λh=>by
    rw[<-ed,Hs]at nd;exact nd.2.2 q0 h q0 Ah rfl
   have dl:dn.length<=480:=by have:=congrArg Bz ed;rw[An]at this;lia
   have e0:fD (kvU dn λ_=> .n 1) q0=none:=by
    cases h:fD (kvU dn λ_=> .n 1) q0 with
    |none=>rfl
    |some v=>exact absurd (by have:=pF (l:=kvU dn λ_=>U.n 1) (k:=q0) (by rw[h];rfl);rwa [gF]at this) nq
   refine⟨_,.inl rfl,q0,rfl,?_⟩;rw[e0];refine⟨_,rfl,by unfold kvU;rw[Ab];lia,q0,rfl,?_⟩;have nx:=ih [.sh (.ls [.ls (row.map tkU)]),.oo (pdO P w (kvU (dn++[q0]) λ_=> .n 1)),a,.sh (tkU q0)] ⟨dn++[q0],rst,_,_,rfl,by rw[<-ed];simp,rfl⟩;rw[show(kvU (dn++[q0]) λ_=>U.n 1)=pN (kvU dn λ_=>U.n 1) q0 (.n 1) by rw[wN nq];congr 1;funext z;split<;>rfl]at nx;exact nx
def Right(ns:List Int)(rs:List Rim)(ys row:List Tk):Prop:=∀(n:Nat)(q:Tk),row[n]? =some q->∀z∈lnY ns rs ys q,z∈row.take n
def aSp(N:Cn)(CG CJ:Addr):Fv:=λus R=>∃ns rs t ys m r ls,∃row:List Tk,us=[iC N CG CJ ns rs t ys m r ls,.ls (row.map tkU)]/\eE ns/\rs.length=ns.length/\aF2 ys ns.length/\0<=r/\r<=12/\rH ns r row/\Right ns rs ys row/\R (.sh (.b true))
abbrev aDa:List Str:=["job","piece","coming","spot"]
def oH:aK ["job","piece","coming","spot"] ["job","piece"] (aD lL):={}
def aQi(F:Fun K "goes_right" "goes_right" lL f fd)(c_counts_in:⇑1 "counts_in" ["pieces"] (spV (aPb P w)))(c_leans_of:⇑6 "leans_of" ["job","spot"] (spV (aHi N CG CJ)))(T:Txt mg):↥7 f fd ["job","piece"] (spV (aSp N CG CJ)):=by
 refine vfn F oH (λcdv A outer s H E hr=>(aC (aP (i:=2) oH.nd (aJ c_counts_in (hr.mono ⋯) rfl (aB (bK (aB (aA 1) aG)) aG))) (aC (bW Au rfl (aX (aA 1)) (cI (i:=3) oH.nd) (aC (bQ (cQ (bB aNh (xU rfl) T.any boot_any (aL (gD (own:=["made"]) (cap:=[("coming",2)]) (aD lL) aDa rfl rfl (λx h=>bD h) #v[1] rfl (vic (aX (aJ c_leans_of (hr.mono ⋯) rfl (aB (aA 0) (aB (aA 3) aG))))) ↑(aZ (i:=0) (~~~["made","coming"]) rfl (Dc rfl) (Dl rfl)) (bL ⋯) ↑(aVb (P:=P) (w:=w) rfl rfl hr (aA 0) (aA 1))) aV))) (aF (aQ jH)) aW) (aF (aP3 (P:=P) (w:=w) 2 rfl rfl hr (aA 3))))) (aF (aQ jH))))) ?_;rintro _ R ⟨ns,rs,t,ys,m,r,ls,row,rfl,gs,elr,gy,r0,r12,ro,rt,q⟩;have rl:=ro.len gs r12;refine⟨rfl,row,rfl,ro.nd,rl,?_⟩;refine bC (λl ρ=>∃(dn rst:List Tk)(a:Sl),l=rst.map tkU/\dn++rst=row/\ρ=[.sh (iC N CG CJ ns rs t ys m r ls),.sh (.ls (row.map tkU)),.oo (pdO P w (kvU rst λ_=> .n 1)),a]) ?_ ?_ ⟨[],row,_,rfl,rfl,rfl⟩
 ·rintro ρ ⟨dn,rst,a,el,ed,rfl⟩;exact q
 ·rintro u l ρ ⟨dn,rst0,a,el,ed,rfl⟩ ih;cases rst0 with
  |nil=>cases el
  |cons q0 rst=>
   obtain⟨rfl,rfl⟩:=By el;have hq:q0∈spS ns r.toNat:=(ro.me q0).mp (by rw[<-ed];simp);obtain⟨gq,_⟩:=wB gs hq;have nd:=ro.nd;rw[<-ed,Hs]at nd;have rtq:∀z∈lnY ns rs ys q0,z∈dn:=λz hz=>by
    have:=rt dn.length q0 (by rw[<-ed];simp) z hz;rw[<-ed]at this;simpa using this
   have rl':rst.length<=480:=by have:=congrArg Bz ed;rw[An,Am]at this;lia
   refine⟨ns,rs,t,ys,m,r,ls,q0,rfl,gs,elr,gq.l,λy hy=>(gy.gt y hy).2,gy.yl,λzs hz=>?_⟩;have zl:zs.length<=17:=by
    have:=(aGp hz.1).length_le_of_subset (l₂:=lnY ns rs ys q0) λz h=>(hz.2 z).mp h;have:(lnY ns rs ys q0).length<=ys.length:=Oq ..;have:=gy.yl
    lia
   refine⟨by rw[Ab];lia,aAw (g:=λ_=> .b false) (α:=Unit) (λy hy k hk=>⟨_,y,.inl rfl,rfl,?_⟩) ?_⟩
   ·have:fD (kvU (q0::rst) λ_=>U.n 1) y=none:=by
     cases h:fD (kvU (q0::rst) λ_=> .n 1) y with
     |none=>rfl
     |some v=>
      have m1:=pF (l:=kvU (q0::rst) λ_=>U.n 1) (k:=y) (by rw[h];rfl);rw[gF]at m1;exact absurd rfl (nd.2.2 y (rtq y ((hz.2 y).mp hy)) y m1)
    rw[this];exact hk
   ·refine⟨zs.map λ_=>false,by rw[Az];rfl,?_⟩;have ef:(zs.map λ_=>false).any id=false:=by simp
    refine⟨λz=>?_,λ_=>?_⟩
    ·have z:(zs.map λ_=>false).any id=true:=z;rw[ef]at z;cases z
    ·exact⟨_,rfl,by unfold kvU;rw[Ab,Am];lia,q0,0,.n 1,rfl,rfl,ih _ ⟨dn++[q0],rst,_,rfl,by rw[<-ed];simp,rfl⟩⟩
structure aM0(ns:List Int)(r:Int)(wt:List Tk):Prop where
 nd:wt.Nodup
 me:∀q∈wt,q∈spS ns r.toNat
def aY9(N:Cn)(CG CJ:Addr):Fv:=λus R=>∃ns rs t ys m r ls,∃row wt:List Tk,us=[iC N CG CJ ns rs t ys m r ls,.ls (row.map tkU),.ls (wt.map tkU)]/\eE ns/\rs.length=ns.length/\aF2 ys ns.length/\0<=r/\r<=12/\row.length<=120/\rH ns r row/\Right ns rs ys row/\aM0 ns r wt/\R (.sh .no)
def aDm:aK ["job","row","wanted"] ["job","row","wanted"] (aD rP):={}
def aU0(F:Fun K "check_row" "check_row" rP f fd)(c_are_wanted:⇑6 "are_wanted" ["job","thing"] (spV (aSg N CG CJ)))(D_all_spots:Dis P w K mg base CX0 3 (·=CJ) "all_spots" ["self"] λ_=>spV (aNv N CG CJ))(c_goes_right:⇑7 "goes_right" ["job","piece"] (spV (aSp N CG CJ)))(T:Txt mg):↥8 f fd ["job","row","wanted"] (spV (aY9 N CG CJ)):=by
 refine vfn F aDm (λcdv A outer s H E hr=>(aC (bQ (mY (pJ (cT (cQ (aJ c_are_wanted (hr.mono ⋯) rfl (aB (aA 0) (aB (aA 1) aG))))) (pJ (bJ (kY (huD hr)) cV (bB aR cU T.len Dq (aL (aA 1) aV)) (bB aR cU T.len Dq (aL (bY (aA 0) D_all_spots (hr.mono ⋯)) aV))) (kO (cT (cQ (aJ c_goes_right (hr.mono ⋯) rfl (aB (aA 0) (aB (aA 1) aG))))))))) (aF jB) aW) (aF (bQ (cT (cQ (aJ c_are_wanted (hr.mono ⋯) rfl (aB (aA 0) (aB (aA 2) aG))))) (aF jB) aW)))) ?_;rintro _ R ⟨ns,rs,t,ys,m,r,ls,row,wt,rfl,gs,elr,gy,r0,r12,rl,ro,rt,wo,q⟩;have wl:wt.length<=row.length:=wo.nd.length_le_of_subset λz hz=>(ro.me z).mpr (wo.me z hz);refine⟨rfl,ns,rs,t,ys,m,r,ls,row,rfl,gs,r0,∅,λz hz=>(ro.me z).mp hz,ro.nd,nofun,λ_=>?_⟩;have le:(row.map tkU).length=(spU (plU ns) r.toNat).length:=by
  rw[tE,Ab,Ab];exact((Et ro.nd (aBc ns r.toNat)).mpr ro.me).length_eq
 refine⟨rfl,by decide+kernel,ns,rs,t,ys,m,r,ls,rfl,gs,uP gs,r0,r12,trivial,trivial,λz=>?_,λ_=>?_⟩
 ·have z:(!(U.eq (.n ((row.map tkU).length:Nat)) (.n ((spU (plU ns) r.toNat).length:Nat))))=true:=z;rw[le,show∀n:Nat,U.eq (.n (n:Nat)) (.n (n:Nat))=true fromλn=>beq_self_eq_true _]at z;cases z
 ·exact⟨ns,rs,t,ys,m,r,ls,row,rfl,gs,elr,gy,r0,r12,ro,rt,nofun,λ_=>⟨ns,rs,t,ys,m,r,ls,wt,rfl,gs,r0,∅,wo.me,wo.nd,nofun,λ_=>q⟩⟩
def kp(lst:Tk->Nat)(wt:List Tk)(n:Nat)(q:Tk):Bool:=decide (q∈wt) || decide (n<lst q)
abbrev lsU(lst:Tk->Nat)(q:Tk):U:=.n ((lst q:Nat):Int)
def aLd(P:Program)(w:World):Fv:=λus R=>∃(q:Tk)(row wt:List Tk)(lst:Tk->Nat)(n:Nat),us=[tkU q,.op (pdO P w (kvU row (lsU lst))).fz,.n (n:Nat),.ls (wt.map tkU)]/\q∈row/\R (.sh (.b (kp lst wt n q)))
def aHf:aK ["spot","last","place","wanted"] ["spot","last","place","wanted"] (aD xK):={}
def aRs(F:Fun K "is_kept" "is_kept" xK f fd)(T:Txt mg):↥1 f fd ["spot","last","place","wanted"] (spV (aLd P w)):=by
 refine vfn F aHf (λcdv A outer s H E(hr:cW 0 _)=>(aF (aQ (aXh (oV (aMl (huD hr)) aCm (aA 0) (aA 3)) (pP (oV uI cL (yK (P:=P) (w:=w) rfl rfl hr (aA 1) (aA 0)) (aA 2))))))) ?_;rintro _ R ⟨q0,row,wt,lst,n,rfl,hq,q⟩;have e:=zR wt q0;refine⟨rfl,⟨trivial,rW 38 q0.2,trivial⟩,gM 38 wt,λz=>?_,λz=>?_⟩
 ·have z:((wt.map tkU).any λe=>e.eq (tkU q0))=true:=z;rw[e]at z;have:kp lst wt n q0=true:=by unfold kp;rw[z];rfl
  rw[this]at q;exact q
 ·have z:((wt.map tkU).any λe=>e.eq (tkU q0))=false:=z;rw[e]at z;refine⟨_,q0,_,.inr (.inr rfl),rfl,lM hq,?_⟩;have:kp lst wt n q0=decide ((n:Int)<(lst q0:Int)):=by unfold kp;rw[z,Us];simp
  rw[this]at q;exact q
def lf(lst:Tk->Nat)(wt:List Tk)(n:Nat)(hs:List Tk):Nat:=hs.findIdx λh=> !kp lst wt n h
def aSf(P:Program)(w:World):Fv:=λus R=>∃(hs row wt:List Tk)(lst:Tk->Nat)(n:Nat),us=[.ls (hs.map tkU),.op (pdO P w (kvU row (lsU lst))).fz,.n (n:Nat),.ls (wt.map tkU)]/\(∀q∈hs,q∈row)/\R (.sh (.n (lf lst wt n hs:Nat)))
def oW:aK ["holders","last","place","wanted","slot","holder"] ["holders","last","place","wanted"] (aD qK):={}
def aRy(F:Fun K "least_free" "least_free" qK f fd)(c_is_kept:⇑1 "is_kept" ["spot","last","place","wanted"] (spV (aLd P w)))(T:Txt mg):↥2 f fd ["holders","last","place","wanted"] (spV (aSf P w)):=by
 refine vfn F oW (λcdv A outer s H E hr=>(aC (bW Au rfl (lU T.enumerate (aB (aA 0) aG)) (mF rfl (bU (i:=4) oW.nd (bU (i:=5) oW.nd iD))) (aF (bQ (cT (cQ (aJ c_is_kept (hr.mono ⋯) rfl (aB (aA 5) (aB (aA 1) (aB (aA 2) (aB (aA 3) aG))))))) (aF (cZ 4)) aW))) (aF (aQ (bB aR cU T.len Dq (aL (aA 0) aV)))))) ?_;rintro _ R ⟨hs,row,wt,lst,n,rfl,hh,q⟩;refine⟨rfl,?_⟩;show eF (zT [4,5]) _ _ (rF (hs.map tkU)) _;rw[qH];refine bC (λl ρ=>∃(k:Nat)(a b:Sl),l=(hs.zipIdx.drop k).map (λx=> .tp [.n (x.2:Nat),tkU x.1])/\ρ=[.sh (.ls (hs.map tkU)),.sh (.op (pdO P w (kvU row (lsU lst))).fz),.sh (.n (n:Nat)),.sh (.ls (wt.map tkU)),a,b]/\∀i,i<k->∀h,hs[i]? =some h->kp lst wt n h=true) ?_ ?_ ⟨0,_,_,rfl,rfl,nofun⟩
 ·rintro ρ ⟨k,a,b,e,rfl,hk⟩;have kl:hs.length<=k:=by
   have:=congrArg Bz e;simp at this
   lia
  have:lf lst wt n hs=hs.length:=List.findIdx_eq_length.mpr λx hx=>by
   obtain⟨i,hi⟩:=List.mem_iff_getElem?.mp hx;have:=(List.getElem?_eq_some_iff.mp hi).1;rw[hk i ∅ x hi];rfl
  rw[this]at q;have q:R (.sh (.n ((hs.map tkU).length:Nat))):=by rw[Ab];exact q
  exact q
 ·rintro u l ρ ⟨k,a,b,e,rfl,hk⟩ ih;obtain⟨q0,hq,rfl,rfl⟩:=tD e;have kl:=(List.getElem?_eq_some_iff.mp hq).1;refine⟨rfl,q0,row,wt,lst,n,rfl,hh q0 (Ay hq),λz=>?_,λz=>?_⟩
  ·have z:(!kp lst wt n q0)=true:=z;have:lf lst wt n hs=k:=(List.findIdx_eq kl).mpr ⟨by rw[(List.getElem?_eq_some_iff.mp hq).2];exact z,λj hj=>by
    have:=hk j hj hs[j] (Ag ∅);rw[this];rfl⟩
   rw[this]at q;exact q
  ·have z:(!kp lst wt n q0)=false:=z;refine ih _ ⟨k+1,_,_,rfl,rfl,λi hi h hh'=>?_⟩;by_cases e:i=k
   ·subst e;rw[hq]at hh';cases hh';simpa using z
   ·exact hk i ∅ h hh'
def lsF(ns:List Int)(rs:List Rim)(ys row:List Tk)(q:Tk):Nat:=(lu (lnY ns rs ys) row row.length q).getD (row.idxOf q)
def hold(lst:Tk->Nat)(wt row:List Tk):Nat->List Tk
 |0=>[]
 |n+1=>match row[n]? with
  |none=>hold lst wt row n
  |some q=>(hold lst wt row n).take (lf lst wt n (hold lst wt row n))++q::(hold lst wt row n).drop (lf lst wt n (hold lst wt row n)+1)
def slt(lst:Tk->Nat)(wt row:List Tk)(n:Nat):Nat:=lf lst wt n (hold lst wt row n)
def slO(lst:Tk->Nat)(wt row:List Tk)(q:Tk):Nat:=slt lst wt row (row.idxOf q)
theorem rZ{lst:Tk->Nat}{wt row:List Tk}{q:Tk}:∀{n:Nat},q∈hold lst wt row n->q∈row.take n
 |n+1,h=>by
  unfold hold at h;cases hr:row[n]? with
  |none=>rw[hr]at h;exact Nr _ ∅ (rZ h)
  |some p=>
   rw[hr]at h;rw[Ff,hr,Iw];rcases List.mem_append.mp h with h|h
   ·exact .inl (rZ (Cv h))
   ·rcases List.mem_cons.mp h with rfl|h
    ·exact .inr (by simp)
    ·exact .inl (rZ (Ik h))
theorem aAk{lst:Tk->Nat}{wt row:List Tk}:∀{n:Nat},(hold lst wt row n).length<=n
 |0=>Ak _
 |n+1=>by
  have:=aAk (lst:=lst) (wt:=wt) (row:=row) (n:=n);unfold hold;cases row[n]? with
  |none=>exact Ry this
  |some p=>dsimp only;rw[An,Bp,Am,Dm];lia
def aOg(l:List Tk)(k:Nat):qG (l.map tkU) none (some (k:Int))=(l.take k).map tkU:=by
 unfold qG;rw[HT.aFy,HT.aEm,Gq,Qd,Ab,Uh];rcases Wd k l.length with h|h
 ·rw[To h]
 ·rw[Su h,Fu (by rw[Ab];lia),Fu (by rw[Ab];lia)]
def aMv(l:List Tk)(k:Nat):qG (l.map tkU) (some (k:Int)) none=(l.drop k).map tkU:=by
 unfold qG;rw[HT.aFy,HT.aEm,Ab,Ui,Fu (by rw[Dm,Ab];lia)];rcases Wd k l.length with h|h
 ·rw[To h]
 ·rw[Su h,Pi (by rw[Ab];lia),Pi (by rw[Ab];lia)]
structure JR(ns:List Int)(rs:List Rim)(ys:List Tk)(r:Int)(row wt:List Tk):Prop where
 gs:eE ns
 el:rs.length=ns.length
 gy:aF2 ys ns.length
 r0:0<=r
 r12:r<=12
 rl:row.length<=120
 ro:rH ns r row
 rt:Right ns rs ys row
 wo:aM0 ns r wt
def aOw(P:Program)(w:World)(N:Cn)(CG CJ:Addr):Fv:=λus R=>∃ns rs t ys m r ls,∃row wt:List Tk,us=[iC N CG CJ ns rs t ys m r ls,.ls (row.map tkU),.ls (wt.map tkU)]/\JR ns rs ys r row wt/\R (.oo (pdO P w (kvU row (lsU (slO (lsF ns rs ys row) wt row)))))
def dC:aK ["job","row","wanted","last","holders","room","place","spot","slot"] ["job","row","wanted"] (aD qW):={}
def aRk(F:Fun K "least_room" "least_room" qW f fd)(c_check_row:⇑8 "check_row" ["job","row","wanted"] (spV (aY9 N CG CJ)))(c_last_use:⇑8 "last_use" ["job","row"] (spV (aPh P w N CG CJ)))(c_least_free:⇑2 "least_free" ["holders","last","place","wanted"] (spV (aSf P w)))(T:Txt mg):↥9 f fd ["job","row","wanted"] (spV (aOw P w N CG CJ)):=by
 refine vfn F dC (λcdv A outer s H E hr=>(aC (aSt (aJ c_check_row (hr.mono ⋯) rfl (aB (aA 0) (aB (aA 1) (aB (aA 2) aG))))) (aC (aP (i:=3) dC.nd (aJ c_last_use (hr.mono ⋯) rfl (aB (aA 0) (aB (aA 1) aG)))) (aC (aP (i:=4) dC.nd (bK aG)) (aC (aP (i:=5) dC.nd (tU (P:=P) (w:=w) rfl rfl)) (aC (bW Au rfl (lU T.enumerate (aB (aA 1) aG)) (mF rfl (bU (i:=6) dC.nd (bU (i:=7) dC.nd iD))) (aC (aP (i:=8) dC.nd (aAd c_least_free (hr.mono ⋯) rfl (gO (aA 4) (gO (aA 3) (gO (aA 6) (gO (aA 2) aGr)))))) (aC (aP (i:=4) dC.nd (bT dG fB (bT dG fB (aI1 (aA 4) zJ (uA (aA 8))) (bK (aB (aA 7) aG))) (aI1 (aA 4) (uA (bT dG fB (aA 8) aH)) zJ))) (aF (pW (P:=P) (w:=w) 5 rfl rfl hr (aA 7) (aA 8)))))) (aF (cZ 5)))))))) ?_;rintro _ R ⟨ns,rs,t,ys,m,r,ls,row,wt,rfl,j,q⟩;have rl:=j.rl;refine⟨rfl,ns,rs,t,ys,m,r,ls,row,wt,rfl,j.gs,j.el,j.gy,j.r0,j.r12,j.rl,j.ro,j.rt,j.wo,?_⟩;refine⟨ns,rs,t,ys,m,r,ls,row,rfl,j.gs,j.el,j.gy,j.r0,j.r12,j.ro,λg hg=>?_⟩;have eg:kvU row g=kvU row (lsU (lsF ns rs ys row)):=Do λz hz=>by
  have hi:=Dv hz;have hz':row[row.idxOf z]? =some z:=by rw[Ag hi,Hh]
  rw[hg _ _ hz'];rfl
 rw[eg];clear eg hg;generalize hL:lsF ns rs ys row=L at q;generalize hS:slO L wt row=S at q;show eF (zT [6,7]) _ _ (rF (row.map tkU)) _;rw[qH];refine bC (λl ρ=>∃(n:Nat)(a b c:Sl),l=(row.zipIdx.drop n).map (λx=> .tp [.n (x.2:Nat),tkU x.1])/\n<=row.length/\ρ=[.sh (iC N CG CJ ns rs t ys m r ls),.sh (.ls (row.map tkU)),.sh (.ls (wt.map tkU)),.oo (pdO P w (kvU row (lsU L))),.ow ((hold L wt row n).map tkU),.oo (pdO P w (kvU (row.take n) (lsU S))),a,b,c]) ?_ ?_ ⟨0,_,_,_,rfl,Bd _,rfl⟩
 ·rintro ρ ⟨n,a,b,c,e,hn,rfl⟩;have:n=row.length:=by
   have:=congrArg Bz e;simp at this
   lia
  rw[this,Fs];exact q
 ·rintro u l ρ ⟨n,a,b,c,e,hn,rfl⟩ ih;obtain⟨q0,hq,rfl,rfl⟩:=tD e;have kl:=(List.getElem?_eq_some_iff.mp hq).1;have hl:=aAk (lst:=L) (wt:=wt) (row:=row) (n:=n);have ix:row.idxOf q0=n:=by
   have e1:row[row.idxOf q0]? =some q0:=by
    have hi:=Dv (Ay hq);rw[Ag hi,Hh]
   exact((Ee kl j.ro.nd).mp (hq.trans e1.symm)).symm
  refine⟨rfl,hold L wt row n,row,wt,L,n,rfl,λz hz=>Cv (rZ hz),trivial,?_⟩;have c1:=aOg (hold L wt row n) (lf L wt n (hold L wt row n));have c2:qG ((hold L wt row n).map tkU) (some ((lf L wt n (hold L wt row n):Int)+1)) none=_:=aMv (hold L wt row n) (lf L wt n (hold L wt row n)+1);have e4:(hold L wt row (n+1)).map tkU=qG ((hold L wt row n).map tkU) none (some (lf L wt n (hold L wt row n):Int))++[tkU q0]++qG ((hold L wt row n).map tkU) (some ((lf L wt n (hold L wt row n):Int)+1)) none:=by
   rw[c1,c2];show(match row[n]? with|none=>hold L wt row n|some q=>(hold L wt row n).take (lf L wt n (hold L wt row n))++q::(hold L wt row n).drop (lf L wt n (hold L wt row n)+1)).map tkU=_;rw[hq];simp
  have nin:q0∉row.take n:=λh=>by
   obtain⟨i,hi⟩:=List.mem_iff_getElem?.mp h;have hi2:=(List.getElem?_eq_some_iff.mp hi).1;rw[Bp]at hi2;rw[Ju ∅]at hi;have:=(Ee ∅ j.ro.nd).mp (hi.trans hq.symm)
   lia
  have e5:kvU (row.take (n+1)) (lsU S)=pN (kvU (row.take n) (lsU S)) q0 (.n (lf L wt n (hold L wt row n):Nat)):=by
   rw[wN nin,Ff,hq];refine Do λz _=>?_;dsimp only;split
   ·rename_i ez;rw[ez,show lsU S q0=.n (S q0:Nat)from rfl, <-hS];unfold slO slt;rw[ix]
   ·rfl
  have nx:=ih [.sh (iC N CG CJ ns rs t ys m r ls),.sh (.ls (row.map tkU)),.sh (.ls (wt.map tkU)),.oo (pdO P w (kvU row (lsU L))),.ow ((hold L wt row (n+1)).map tkU),.oo (pdO P w (kvU (row.take (n+1)) (lsU S))),.sh (.n (n:Nat)),.sh (tkU q0),.sh (.n (lf L wt n (hold L wt row n):Nat))] ⟨n+1,_,_,_,rfl,kl,rfl⟩;rw[e4,e5]at nx;refine⟨by rw[c1,Ab,Bp];show _+1<=_;lia,by rw[An,c1,c2,Ab,Ab,Bp,Dm];show _+1+_<=_;lia,_,rfl,by unfold kvU;rw[Ab,Bp];lia,q0,rfl,?_⟩;exact nx
def aJ0(h:n<row.length):(hold lst wt row (n+1)).length=max (hold lst wt row n).length (slt lst wt row n+1)/\slt lst wt row n<=(hold lst wt row n).length:=by
 have hl:slt lst wt row n<=(hold lst wt row n).length:=Kh;refine⟨?_,hl⟩;show(match row[n]? with|none=>hold lst wt row n|some q=>(hold lst wt row n).take (slt lst wt row n)++q::(hold lst wt row n).drop (slt lst wt row n+1)).length=_;rw[Ag h];dsimp only;rw[An,Bp,Am,Dm]
 lia
def aCf{s n:Nat}(h:n<=row.length):s<(hold lst wt row n).length↔ ∃i,i<n/\slt lst wt row i=s:=by
 induction n with
 |zero=>exact⟨nofun,λ⟨_,h,_⟩=>absurd h (Dk _)⟩
 |succ n ih=>
  obtain⟨h1,h2⟩:=aJ0 (lst:=lst) (wt:=wt) h;rw[h1];have ih:=ih ∅;constructor
  ·intro hs;by_cases h3:s<(hold lst wt row n).length
   ·obtain⟨i,hi,e⟩:=ih.mp h3;exact⟨i,∅,e⟩
   ·exact⟨n,∅,∅⟩
  ·rintro⟨i,hi,e⟩;by_cases h3:i=n
   ·subst h3;lia
   ·have:=ih.mpr ⟨i,∅,e⟩
    lia
abbrev mxS(lst:Tk->Nat)(wt row:List Tk):Nat:=(hold lst wt row row.length).length
def wG(nd:row.Nodup){s:Nat}:(∃q∈row,slO lst wt row q=s)↔s<mxS lst wt row:=by
 rw[aCf (Ak _)];constructor
 ·rintro⟨q,hq,e⟩;exact⟨_,Dv hq,e⟩
 ·rintro⟨i,hi,e⟩;refine⟨row[i],Eu hi,?_⟩;unfold slO;rw[nd.idxOf_getElem i hi];exact e
def aGo(N:Cn)(CG CJ:Addr):Fv:=λus R=>∃ns rs t ys m r ls,∃row wt:List Tk,us=[iC N CG CJ ns rs t ys m r ls,.ls (row.map tkU),.ls (wt.map tkU)]/\JR ns rs ys r row wt/\R (.sh (.n (mxS (lsF ns rs ys row) wt row:Nat)))
def yU:aK ["job","row","wanted"] ["job","row","wanted"] (aD mL):={}
def aNz(F:Fun K "slots_wanted" "slots_wanted" mL f fd)(c_least_room:⇑9 "least_room" ["job","row","wanted"] (spV (aOw P w N CG CJ)))(T:Txt mg):↥10 f fd ["job","row","wanted"] (spV (aGo N CG CJ)):=by
 refine vfn F yU (λcdv A outer s H E hr=>(aF (aQ (aQ0 rfl T.len T.set (aL (aPx (P:=P) (w:=w) rfl rfl rfl T.list (aJ c_least_room (hr.mono ⋯) rfl (aB (aA 0) (aB (aA 1) (aB (aA 2) aG))))) aV))))) ?_;rintro _ R ⟨ns,rs,t,ys,m,r,ls,row,wt,rfl,j,q⟩;have rl:=j.rl;refine⟨rfl,ns,rs,t,ys,m,r,ls,row,wt,rfl,j,_,.inr (.inl rfl),by unfold kvU;rw[Ab];lia,row.map λq=>((slO (lsF ns rs ys row) wt row q:Nat):Int),by unfold kvU;rw[Az,Az];rfl,by rw[Ab];lia,λzs nz hz=>?_⟩;have e:zs.length=mxS (lsF ns rs ys row) wt row:=by
  have:=((Et nz (l₂:=(Bk (mxS (lsF ns rs ys row) wt row)).map λi:Nat=>(i:Int)) ?_).mpr λk=>?_).length_eq
  ·rw[Ab,Br]at this;exact this
  ·exact List.pairwise_map.mpr (List.nodup_range.imp λh=>by lia)
  ·rw[hz k,Pn,Pn];constructor
   ·rintro⟨z,hz',rfl⟩;exact⟨_,List.mem_range.mpr ((wG j.ro.nd).mp ⟨z,hz',rfl⟩),rfl⟩
   ·rintro⟨i,hi,rfl⟩;obtain⟨z,h1,h2⟩:=(wG j.ro.nd).mpr (List.mem_range.mp hi);exact⟨z,h1,by rw[h2]⟩
 rw[e];exact q
def crw(lst:Tk->Nat)(wt row:List Tk)(n:Nat)(q:Tk):List Tk:=q::(row.take n).filter (kp lst wt n)
def aNq(N:Cn)(CG CJ:Addr):Fv:=λus R=>∃ns rs t ys m r ls,∃row wt:List Tk,us=[iC N CG CJ ns rs t ys m r ls,.ls (row.map tkU),.ls (wt.map tkU)]/\JR ns rs ys r row wt/\mxS (lsF ns rs ys row) wt row<64/\
 (∀n q,row[n]? =some q->(crw (lsF ns rs ys row) wt row n q).length=mxS (lsF ns rs ys row) wt row->(∀i p,i<n->row[i]? =some p->(crw (lsF ns rs ys row) wt row i p).length≠mxS (lsF ns rs ys row) wt row)->∀zs:List Tk,zs.Perm (crw (lsF ns rs ys row) wt row n q)->zs.Pairwise (λx y=>gU x y=true)->R (.oo (tlO (n:Nat) (zs.map tkU))))/\
 ((∀i p,row[i]? =some p->(crw (lsF ns rs ys row) wt row i p).length≠mxS (lsF ns rs ys row) wt row)->R (.sh .no))
abbrev aHq:List Str:=["job","row","wanted","most","last","place","spot","spots"]
def gZ:aK ["job","row","wanted","most","last","place","spot","spots"] ["job","row","wanted"] (aD pL):={}
def aLp(F:Fun K "crowd_at" "crowd_at" pL f fd)(c_slots_wanted:⇑10 "slots_wanted" ["job","row","wanted"] (spV (aGo N CG CJ)))(c_last_use:⇑8 "last_use" ["job","row"] (spV (aPh P w N CG CJ)))(c_is_kept:⇑1 "is_kept" ["spot","last","place","wanted"] (spV (aLd P w)))(T:Txt mg):↥11 f fd ["job","row","wanted"] (spV (aNq N CG CJ)):=by
 refine vfn F gZ (λcdv A outer s H E hr=>(aC (aP (i:=3) gZ.nd (aJ c_slots_wanted (hr.mono ⋯) rfl (aB (aA 0) (aB (aA 1) (aB (aA 2) aG))))) (aC (aP (i:=4) gZ.nd (aJ c_last_use (hr.mono ⋯) rfl (aB (aA 0) (aB (aA 1) aG)))) (aC (bW Au rfl (lU T.enumerate (aB (aA 1) aG)) (mF rfl (bU (i:=5) gZ.nd (bU (i:=6) gZ.nd iD))) (aC (aP (i:=7) gZ.nd (bT dG fB (bK (aB (aA 6) aG)) (aAz (own:=["other"]) (cap:=[("wanted",2),("last",4),("place",5)]) (aD pL) aHq rfl rfl (λx h=>bD h) #v[1] rfl (vic (aX (aI1 (aA 1) zJ (uA (aA 5))))) ↑(aZ (i:=0) (~~~["other","wanted","last","place"]) rfl (Dc rfl) (Dl rfl)) (bL ⋯) ↑(cQ (aAd c_is_kept (hr.mono ⋯) rfl (gO (aA 0) (gO (aA 2) (gO (aA 3) (gO (aA 1) aGr)))))) ↑(aA 0)))) (aF (bQ (bJ (dO (huD hr)) cV (bB aR cU T.len Dq (aL (aA 7) aV)) (aA 3)) (aF (aQ (aYg (aA 5) (aF9 (@aOq _ _) hr T.sorted (aL (aA 7) aV))))) aW)))) (aF (aQ tO)))))) ?_;rintro _ R ⟨ns,rs,t,ys,m,r,ls,row,wt,rfl,j,c64,q1,q2⟩;have rl:=j.rl;refine⟨rfl,ns,rs,t,ys,m,r,ls,row,wt,rfl,j,ns,rs,t,ys,m,r,ls,row,rfl,j.gs,j.el,j.gy,j.r0,j.r12,j.ro,λg hg=>?_⟩;have eg:kvU row g=kvU row (lsU (lsF ns rs ys row)):=Do λz hz=>by
  have hi:=Dv hz;have hz':row[row.idxOf z]? =some z:=by rw[Ag hi,Hh]
  rw[hg _ _ hz'];rfl
 rw[eg];clear eg hg;generalize hL:lsF ns rs ys row=L at*;generalize hM:mxS L wt row=M at*;show eF (zT [5,6]) _ _ (rF (row.map tkU)) _;rw[qH];refine bC (λl ρ=>∃(n:Nat)(a b c:Sl),l=(row.zipIdx.drop n).map (λx=> .tp [.n (x.2:Nat),tkU x.1])/\ρ=[.sh (iC N CG CJ ns rs t ys m r ls),.sh (.ls (row.map tkU)),.sh (.ls (wt.map tkU)),.sh (.n (M:Nat)),.oo (pdO P w (kvU row (lsU L))),a,b,c]/\∀i p,i<n->row[i]? =some p->(crw L wt row i p).length≠M) ?_ ?_ ⟨0,_,_,_,rfl,rfl,nofun⟩
 ·rintro ρ ⟨n,a,b,c,e,rfl,hn⟩;have:row.length<=n:=by
   have:=congrArg Bz e;simp at this
   lia
  exact q2 λi p hp=>hn i p (by have:=(List.getElem?_eq_some_iff.mp hp).1;lia) hp
 ·rintro u l ρ ⟨n,a,b,c,e,rfl,hn⟩ ih;obtain⟨q0,hq,rfl,rfl⟩:=tD e;have kl:=(List.getElem?_eq_some_iff.mp hq).1;have c1:=aOg row n;have fl:((row.take n).filter (kp L wt n)).length<=n:=Ba (Po ..) (by rw[Bp];lia);refine⟨rfl,by rw[c1,Ab,Bp];lia,?_⟩;show cO _ (qG (row.map tkU) none (some (n:Int))) [] _;rw[c1];refine mO (p:=kp L wt n) (λy hy k h1 h2=>⟨y,row,wt,L,n,rfl,Cv hy,trivial,λz=>h1 z,λz=>h2 z⟩) ?_;have cl:∀(z:List Tk),[tkU q0]++z.map tkU=(q0::z).map tkU:=λz=>rfl;refine⟨by rw[Ab];show 1+_<=10000;lia,trivial,trivial,λz=>?_,λz=>?_⟩
  ·have z:U.eq (.n ((([tkU q0]++((row.take n).filter (kp L wt n)).map tkU).length:Nat):Int)) (.n (M:Nat))=true:=z;rw[cl,Ab]at z;have ez:(crw L wt row n q0).length=M:=by
    have:=of_decide_eq_true (show decide (((crw L wt row n q0).length:Int)=(M:Int))=true from z)
    lia
   have nd:(crw L wt row n q0).Nodup:=by
    unfold crw;refine List.nodup_cons.mpr ⟨λh=>?_,(j.ro.nd.sublist (Gh ..)).sublist Lg⟩;obtain⟨i,hi⟩:=List.mem_iff_getElem?.mp (List.mem_filter.mp h).1;have hi2:=(List.getElem?_eq_some_iff.mp hi).1;rw[Bp]at hi2;rw[Ju ∅]at hi;have:=(Ee ∅ j.ro.nd).mp (hi.trans hq.symm)
    lia
   exact⟨_,rfl,crw L wt row n q0,rfl,nd,∅,∅,λzs pm pw=>⟨_,rfl,q1 n q0 hq ez hn zs pm pw⟩⟩
  ·have z:U.eq (.n ((([tkU q0]++((row.take n).filter (kp L wt n)).map tkU).length:Nat):Int)) (.n (M:Nat))=false:=z;rw[cl,Ab]at z;have ez:(crw L wt row n q0).length≠M:=λh=>by
    have:=of_decide_eq_false (show decide (((crw L wt row n q0).length:Int)=(M:Int))=false from z)
    lia
   refine ih _ ⟨n+1,_,_,_,rfl,rfl,λi p hi hp=>?_⟩;by_cases e:i=n
   ·subst e;rw[hq]at hp;cases hp;exact ez
   ·exact hn i p ∅ hp
def aH0{q:α}{l:List α}(h:l[n]? =some q):(q::l.eraseIdx n).Perm l:=by
 induction l generalizing n with
 |nil=>cases h
 |cons a l ih=>
  cases n with
  |zero=>cases h;exact Gg _
  |succ n=>exact(Ml ..).trans ((ih (by simpa using h)).cons a)
def aEs(h:l≠[]):∃q∈l,∀p∈l,q.1<=p.1:=by
 induction l with
 |nil=>exact absurd rfl h
 |cons a l ih=>
  by_cases e:l=[]
  ·subst e;exact⟨a,by simp,by simp⟩
  ·obtain⟨q,hq,hm⟩:=ih e;by_cases c:a.1<=q.1
   ·exact⟨a,by simp,λp hp=>by rcases List.mem_cons.mp hp with rfl|hp;exact Nx _;have:=hm p hp;lia⟩
   ·exact⟨q,by simp[hq],λp hp=>by rcases List.mem_cons.mp hp with rfl|hp;lia;exact hm p hp⟩
def Right.snoc{rs:List Rim}{ys row:List Tk}{q:Tk}(h:Right ns rs ys row)(hq:∀z∈lnY ns rs ys q,z∈row):Right ns rs ys (row++[q]):=λn p hp z hz=>by
 by_cases e:n<row.length
 ·rw[Ef e]at hp;rw[List.take_append_of_le_length ∅];exact h n p hp z hz
 ·have hn:=(List.getElem?_eq_some_iff.mp hp).1;rw[An,Cq]at hn;have e2:n=row.length:=by lia
  subst e2;rw[Dz (Ak _),Qe]at hp;cases hp;rw[List.take_left']
  ·exact hq z hz
  ·rfl
def aTe:Fv:=λus R=>∃ns rs ys r,us=[wD ns rs ys r,.wl]/\yP ns rs ys r/\∀row:List Tk,rH ns r row->Right ns rs ys row->R (.ow (row.map tkU))
abbrev aHz:List Str:=["_law_world_here","_law_tape_here","_law_left","_law_found","_law_ready","_law_spot"]
def jY:aK ["_law_world_here","_law_tape_here","_law_left","_law_found","_law_ready","_law_spot"] ["_law_world_here","_law_tape_here"] (aD mK):={}
def aQp(F:Fun K "_law_row" "_law_row" mK f fd)(c__law_draw:⇑1 "_law_draw" ["_law_tape_here","_law_many"] (spV aCd))(c__law_spots:⇑2 "_law_spots" ["_law_world_here"] (spV aGn))(c__law_leans:⇑2 "_law_leans" ["_law_world_here","_law_spot"] (spV aDf))(T:Txt mg):↥3 f fd ["_law_world_here","_law_tape_here"] (spV aTe):=by
 refine vfn F jY (λcdv A outer s H E hr=>(aC (aP (i:=2) jY.nd (aJ c__law_spots (hr.mono ⋯) rfl (aB (aA 0) aG))) (aC (aP (i:=3) jY.nd (bK aG)) (aC (aOs Au (bJ (kY (huD hr)) cV (aA 2) (bK aG)) (aC (aQj (i:=4) (own:=["_law_spot"]) (cap:=[("_law_world_here",0),("_law_found",3)]) jY.nd (aD mK) aHz rfl rfl (λx h=>bD h) #v[1] rfl (aZh (aA 2)) (λcs cf C s2 H2 fp=>(aZ (i:=0) (~~~["_law_spot","_law_world_here","_law_found"]) rfl (Dc rfl) (Dl rfl))) (bL ⋯) (λcs cf C s2 H2 fp=>(bJ (dO (huD hr)) cV (aQa (own:=["_law_one"]) (icap:=[("_law_found",2)]) (aD mK) cf rfl rfl #v[1] rfl (vic (aX (aJ c__law_leans (hr.mono ⋯) rfl (aB (aA 1) (aB (aA 0) aG))))) (λcl C' s3 H3 fp'=>(aZ (i:=0) (~~~["_law_one","_law_found"]) rfl (Dc rfl) (Dl rfl))) (bL ⋯) (λcl C' s3 H3 fp'=>(bJ (tZ (huD hr)) aCm (aA 0) (aA 1))) (λcl C' s3 H3 fp'=>(aA 0))) (bK aG))) (λcs cf C s2 H2 fp=>(aA 0))) (aC (aP (i:=5) jY.nd (bH aU bG (aA 4) (aJ c__law_draw (hr.mono ⋯) rfl (aB (aA 1) (aB (bB aR cU T.len Dq (aL (aA 4) aV)) aG))))) (aC (wY 3 (aA 5)) (aF (aTn 2 hr (aA 5))))))) (aF (cZ 3)))))) ?_;rintro _ R ⟨ns,rs,ys,r,rfl,g,q⟩;have l40:=uP g.gs;refine⟨rfl,ns,rs,ys,r,rfl,g,l40,λs hs=>?_⟩;subst hs;have sl:=aDb g.gs (show r<=12 by have:=g.r5;lia);have yg:∀y∈ys,aBh y/\y.2.length=ns.length:=g.yg;show aL7 _ _ _ [.sh (wD ns rs ys r),.sh .wl,.ow (spU (plU ns) r.toNat),.ow [],.no,.no];rw[tE];refine⟨λk ρ=>∃(left row:List Tk)(a b:Sl),ρ=[.sh (wD ns rs ys r),.sh .wl,.ow (left.map tkU),.ow (row.map tkU),a,b]/\(row++left).Perm (spS ns r.toNat)/\Right ns rs ys row/\left.length=k,⟨_,spS ns r.toNat,[],_,_,rfl,Gg _,nofun,rfl⟩,?_⟩;rintro k _ ⟨left,row,a,b,rfl,hp,rt,rfl⟩;have hl:=hp.length_eq;rw[An]at hl;have nd:(row++left).Nodup:=hp.nodup_iff.mpr (aBc ns r.toNat);have mem:∀z,z∈row++left↔z∈spS ns r.toNat:=λz=>hp.mem_iff;refine⟨gM 37 _,trivial,λh=>?_,λh=>?_⟩
 ·have ne:left≠[]:=λz=>by rw[z]at h;cases h
  let pr:Tk->Bool:=λq=>(lD ns rs ys q).all λz=>decide (z∈row);refine⟨by rw[Ab];lia,mO (p:=pr) (λy hy k h1 h2=>?_) ?_⟩
  ·have hs:=(mem y).mp (Bc _ hy);have ll:(lD ns rs ys y).length<=3:=by have:=aQq (ns:=ns) (rs:=rs) (q:=y) (ys:=ys) (acc:=[]);have h3:=g.yl;unfold lD;rw[Kp]at this;lia
   refine⟨ns,rs,ys,r,y,rfl,g,(wB g.gs hs).1,by rw[Ab];lia,mO (p:=λz=> !decide (z∈row)) (λz hz k h1 h2=>?_) ?_⟩
   ·have e:=zR row z;refine⟨⟨trivial,rW 38 z.2,trivial⟩,gM 38 row,λc=>h1 ?_,λc=>h2 ?_⟩
    ·have c:(!((row.map tkU).any λe=>e.eq (tkU z)))=true:=c;rw[e]at c;exact c
    ·have c:(!((row.map tkU).any λe=>e.eq (tkU z)))=false:=c;rw[e]at c;exact c
   ·have e:=zO ((lD ns rs ys y).filter λz=> !decide (z∈row));have ep:((lD ns rs ys y).filter λz=> !decide (z∈row)).isEmpty=pr y:=by
     show _=(lD ns rs ys y).all λz=>decide (z∈row);rw[Kt,List.isEmpty_iff,List.filter_eq_nil_iff,List.all_eq_true];simp
    refine⟨gM 37 _,trivial,λc=>h1 ?_,λc=>h2 ?_⟩
    ·have c:U.eq (.ls (((lD ns rs ys y).filter λz=> !decide (z∈row)).map tkU)) (.ls [])=true:=c;rw[e,ep]at c;exact c
    ·have c:U.eq (.ls (((lD ns rs ys y).filter λz=> !decide (z∈row)).map tkU)) (.ls [])=false:=c;rw[e,ep]at c;exact c
  ·have rd:left.filter pr≠[]:=λz=>by
    obtain⟨q0,h0,hm⟩:=aEs ne;have hs:=(mem q0).mp (Bc _ h0);have:q0∈left.filter pr:=List.mem_filter.mpr ⟨h0,List.all_eq_true.mpr λx hx=>decide_eq_true (by
     have hx:=xW.mp hx;have h1:=aEd g.gs g.rl hs yg hx;have h2:=aIv yg hx;rcases List.mem_append.mp ((mem x).mpr h1)with h|h
     ·exact h
     ·have:=hm x h;lia)⟩
    rw[z]at this;cases this
   have rp:0<(left.filter pr).length:=List.length_pos_iff.mpr rd;have rl:(left.filter pr).length<=left.length:=Po ..;refine⟨_,rfl,by rw[Ab];lia,by rw[Ab];lia,λi i0 il=>?_⟩;rw[Ab]at il;obtain⟨i,rfl⟩:=Pk i0;obtain⟨q1,hq1⟩:∃q1,(left.filter pr)[i]? =some q1:=⟨_,Ag ∅⟩;obtain⟨q1l,q1p⟩:=List.mem_filter.mp (Ay hq1);have hj:=Dv q1l;have hj2:left[left.idxOf q1]? =some q1:=by rw[Ag hj,Hh]
   have ndl:left.Nodup:=(List.nodup_append.mp nd).2.1;refine⟨_,jA (by rw[As,hq1];rfl),by rw[Ab];lia,left,rfl,∅,q1,left.idxOf q1,rfl,hj2,λm hm e=>?_,(left.eraseIdx (left.idxOf q1)).length,?_,left.eraseIdx (left.idxOf q1),row++[q1],_,_,by rw[Ce];rfl,?_,?_,rfl⟩
   ·have:=(Ee ∅ ndl).mp (e.trans hj2.symm);lia
   ·rw[List.length_eraseIdx];split<;>lia
   ·refine List.Perm.trans ?_ hp;rw[Bu];exact Nt row (aH0 hj2)
   ·exact rt.snoc λz hz=>of_decide_eq_true (List.all_eq_true.mp q1p z (xW.mpr hz))
 ·have:left=[]:=by
   cases left with
   |nil=>rfl
   |cons=>cases h
  subst this;rw[Ax]at hp nd;exact q row ⟨nd,λz=>hp.mem_iff⟩ rt
variable {lst:Tk->Nat}{wt row:List Tk}
def xT(nd:row.Nodup){q:Tk}(h:row[n]? =some q):row.idxOf q=n:=by
 obtain⟨hn,rfl⟩:=List.getElem?_eq_some_iff.mp h;exact nd.idxOf_getElem n hn
theorem zQ{q:Tk}(h:row[n]? =some q)(i:Nat):(hold lst wt row (n+1))[i]? =if i=slt lst wt row n then some q else(hold lst wt row n)[i]? :=by
 show(match row[n]? with|none=>hold lst wt row n|some q=>(hold lst wt row n).take (slt lst wt row n)++q::(hold lst wt row n).drop (slt lst wt row n+1))[i]? =_;rw[h];dsimp only;have hl:slt lst wt row n<=(hold lst wt row n).length:=Kh;generalize slt lst wt row n=s at*
 grind
theorem aQc{n m:Nat}{q:Tk}(h:n<=m)(k:kp lst wt m q=true):kp lst wt n q=true:=by
 unfold kp at*;grind
def aKg(nd:row.Nodup){n i:Nat}{h:Tk}(hn:n<=row.length)(e:(hold lst wt row n)[i]? =some h):h∈row.take n/\slO lst wt row h=i:=by
 refine⟨rZ (Ay e),?_⟩;induction n with
 |zero=>cases e
 |succ n ih=>
  have hq:row[n]? =some row[n]:=Ag hn;rw[zQ hq]at e;split at e
  ·cases e;rename_i ei;rw[ei];unfold slO;rw[xT nd hq]
  ·exact ih ∅ e
def aF6{h:Tk}(e:(hold lst wt row n)[slt lst wt row n]? =some h):kp lst wt n h=false:=by
 obtain⟨hl,rfl⟩:=List.getElem?_eq_some_iff.mp e;have:(!kp lst wt n (hold lst wt row n)[slt lst wt row n])=true:=List.findIdx_getElem (xs:=hold lst wt row n) (p:=λh=> !kp lst wt n h) (w:=hl);simpa using this
def tY(nd:row.Nodup){q:Tk}(hn:n<=row.length)(hq:q∈row.take n)(k:kp lst wt n q=true∨row[n-1]? =some q):(hold lst wt row n)[slO lst wt row q]? =some q:=by
 induction n with
 |zero=>simp at hq
 |succ n ih=>
  have hr:row[n]? =some row[n]:=Ag hn;rw[zQ hr];by_cases e:q=row[n]
  ·have:slO lst wt row q=slt lst wt row n:=by unfold slO;rw[e,xT nd hr]
   rw[if_pos this,e]
  ·have k:kp lst wt (n+1) q=true:=by
    rcases k with k|k
    ·exact k
    ·rw[Nat.add_sub_cancel,hr]at k;exact absurd (Bl k).symm e
   have hq':q∈row.take n:=by
    rw[Ff,hr,Iw]at hq;rcases hq with h|h
    ·exact h
    ·exact absurd (List.mem_singleton.mp h) e
   have kn:=aQc (Ha n) k;have ih:=ih ∅ hq' (.inl kn);rw[if_neg λz=>?_]
   ·exact ih
   ·rw[z]at ih;rw[aF6 ih]at kn;cases kn
def aFe(nd:row.Nodup){n s:Nat}(hn:n<=row.length):(∃q∈row.take n,kp lst wt n q=true/\slO lst wt row q=s)↔ ∃h,(hold lst wt row n)[s]? =some h/\kp lst wt n h=true:=by
 constructor
 ·rintro⟨q,hq,k,rfl⟩;exact⟨q,tY nd hn hq (.inl k),k⟩
 ·rintro⟨h,e,k⟩;obtain⟨h1,h2⟩:=aKg nd hn e;exact⟨h,h1,k,h2⟩
def zY(nd:row.Nodup)(hn:n<=row.length):(¬ ∃q∈row.take n,kp lst wt n q=true/\slO lst wt row q=slt lst wt row n)/\∀s,s<slt lst wt row n->∃q∈row.take n,kp lst wt n q=true/\slO lst wt row q=s:=by
 refine⟨λh=>?_,λs hs=>(aFe nd hn).mpr ?_⟩
 ·obtain⟨h,e,k⟩:=(aFe nd hn).mp h;rw[aF6 e]at k;cases k
 ·have hl:slt lst wt row n<=(hold lst wt row n).length:=Kh;refine⟨(hold lst wt row n)[s]'∅,Ag ∅,?_⟩;have:=List.not_of_lt_findIdx (xs:=hold lst wt row n) (p:=λh=> !kp lst wt n h) hs;simpa using this
def aT0(nd:row.Nodup){q:Tk}(h:row[n]? =some q):(crw lst wt row n q).length<=mxS lst wt row:=by
 have hn:=(List.getElem?_eq_some_iff.mp h).1;have sub:((crw lst wt row n q).map (slO lst wt row)).Nodup:=by
  unfold crw;rw[Bo,Ko];have sq:slO lst wt row q=slt lst wt row n:=by unfold slO;rw[xT nd h]
  refine⟨λz=>?_,?_⟩
  ·obtain⟨p,hp,e⟩:=List.mem_map.mp z;obtain⟨h1,h2⟩:=List.mem_filter.mp hp;exact(zY nd ∅).1 ⟨p,h1,h2,e.trans sq⟩
  ·refine List.pairwise_map.mpr ((List.Pairwise.and_mem.mp ((nd.sublist (Gh n row)).sublist (Lg (p:=kp lst wt n)))).imp λ{a b} ⟨ha,hb,ne⟩ e=>?_);have ha:=List.mem_filter.mp ha;have hb:=List.mem_filter.mp hb;have e1:=tY nd ∅ ha.1 (.inl ha.2);have e2:=tY nd ∅ hb.1 (.inl hb.2);rw[e,e2]at e1;exact ne (Bl e1).symm
 have:=sub.length_le_of_subset (l₂:=Bk (mxS lst wt row)) λs hs=>by
  obtain⟨p,hp,rfl⟩:=List.mem_map.mp hs;refine List.mem_range.mpr ((wG nd).mp ⟨p,?_,rfl⟩);rcases List.mem_cons.mp hp with rfl|hp
  ·exact Ay h
  ·exact Cv (List.mem_filter.mp hp).1
 rwa [Ab,Br]at this
def aPs(nd:row.Nodup)(ne:row≠[]):∃n q,row[n]? =some q/\(crw lst wt row n q).length=mxS lst wt row:=by
 have pos:0<mxS lst wt row:=by
  cases row with
  |nil=>exact absurd rfl ne
  |cons a l=>exact Rm (Bd _) ((wG (lst:=lst) (wt:=wt) nd).mp ⟨a,Ah,rfl⟩)
 obtain⟨i,hi,e⟩:=(aCf (lst:=lst) (wt:=wt) (Ak row.length)).mp (show mxS lst wt row-1<mxS lst wt row by lia);have hq:row[i]? =some row[i]:=Ag hi;refine⟨i,row[i],hq,Tp (aT0 nd hq) ?_⟩;have key:(Bk (mxS lst wt row-1)).length<=((row.take i).filter (kp lst wt i)).length:=by
  have:Bk (mxS lst wt row-1) ⊆ ((row.take i).filter (kp lst wt i)).map (slO lst wt row):=λs hs=>by
   obtain⟨q,h1,h2,h3⟩:=(zY (lst:=lst) (wt:=wt) nd (n:=i) ∅).2 s (by rw[e];exact List.mem_range.mp hs);exact List.mem_map.mpr ⟨q,List.mem_filter.mpr ⟨h1,h2⟩,h3⟩
  have:=List.nodup_range.length_le_of_subset this
  rwa [Ab]at this
 rw[Br]at key;unfold crw;rw[Am]
 lia
def aKe{rs:List Rim}(g:yP ns rs ys r):Right ns rs ys (spS ns r.toNat):=λn q hq z hz=>by
 have hn:=(List.getElem?_eq_some_iff.mp hq).1;have e:(spS ns r.toNat).take n++q::(spS ns r.toNat).drop (n+1)=spS ns r.toNat:=by
  have:=Ie n (spS ns r.toNat);rw[Bf hn,(List.getElem?_eq_some_iff.mp hq).2]at this;exact this
 exact aKc e (aEd g.gs g.rl (Ay hq) g.yg hz) (aIv g.yg hz)
def aLi:rH ns r (spS ns r.toNat):=⟨aBc ns r.toNat,λ_=>Mm⟩
def aC8{rs:List Rim}{ys zs:List Tk}(h:∀z,z∈zs↔z∈ys){q x:Tk}:x∈lnY ns rs zs q↔x∈lnY ns rs ys q:=by
 simp only[lnY,Qz,h]
def Right.same{rs:List Rim}{ys zs row:List Tk}(h:∀z,z∈zs↔z∈ys)(r:Right ns rs ys row):Right ns rs zs row:=λn q hq z hz=>r n q hq z ((aC8 h).mp hz)
def vY{h:α->U}{l:List α}(n:∀x∈l,Nw (h x)):Nws (l.map h):=by
 induction l with
 |nil=>trivial
 |cons a l ih=>exact⟨n a Ah,ih λx hx=>n x (Af _ hx)⟩
def wO(l:List Int):Nws (l.map U.n):=vY λ_ _=>trivial
def aR4(q:Tk):Nw (tkU q):=⟨trivial,wO q.2,trivial⟩
def sY(l:List Tk):Nws (l.map tkU):=vY λq _=>aR4 q
def aK7(r:Rim):Nw r.u:=by cases r<;>exact⟨trivial,by first|trivial|exact⟨trivial,trivial⟩⟩
theorem aHg(N:Cn):∀t:Tm,Nw (enc N t)
 |.num _=>⟨trivial,trivial⟩
 |.take _ ss=>⟨trivial,wO ss,trivial⟩
 |.bin _ a b=>⟨aHg N a,aHg N b,trivial⟩
def aT8{rs:List Rim}{m r:Int}{ls:List (List Int)}:Nw (iC N CG CJ ns rs t ys m r ls):=
 ⟨sY ys,⟨wO ns,vY λr _=>aK7 r,trivial⟩,aHg N t,trivial,trivial,vY λl _=>wO l,trivial⟩
def aTb{rs:List Rim}:Nw (wD ns rs ys r):=⟨wO ns,vY λr _=>aK7 r,sY ys,trivial,trivial⟩
def rm(sl:Tk->Int)(row:List Tk):Nat->Int->Option Tk
 |0,_=>none
 |n+1,i=>match row[n]? with
  |some q=>if i=sl q then some q else rm sl row n i
  |none=>rm sl row n i
structure Goes(ln:Tk->List Tk)(sl:Tk->Int)(wt row:List Tk):Prop where
 rd:∀n q,row[n]? =some q->∀z∈ln q,rm sl row n (sl z)=some z
 wn:∀q∈wt,rm sl row row.length (sl q)=some q
variable {sl:Tk->Int}{ln:Tk->List Tk}
def aIe{q:Tk}(h:row[n]? =some q)(i:Int):rm sl row (n+1) i=if i=sl q then some q else rm sl row n i:=by
 show(match row[n]? with|some q=>_|none=>_)=_;rw[h]
def zE(nd:row.Nodup){n m:Nat}{q:Tk}(h:q∈row.take n)(e:row[m]? =some q):m<n:=by
 obtain⟨j,hj⟩:=List.mem_iff_getElem?.mp h;rw[Re]at hj;split at hj
 ·rename_i hn;have:=(Ee (List.getElem?_eq_some_iff.mp hj).1 nd).mp (hj.trans e.symm)
  lia
 ·cases hj
def aI9(nd:row.Nodup){n m:Nat}{q:Tk}{i:Int}(hq:q∈row.take n)(h:n<=m)(e:rm sl row m i=some q):rm sl row n i=some q:=by
 induction m with
 |zero=>cases e
 |succ m ih=>
  by_cases z:n=m+1
  ·rw[z];exact e
  ·cases hr:row[m]? with
   |none=>
    refine ih ∅ ?_;have e:(match row[m]? with|some q=>if i=sl q then some q else rm sl row m i|none=>rm sl row m i)=some q:=e;rw[hr]at e;exact e
   |some p=>
    rw[aIe hr]at e;split at e
    ·cases e;have:=zE nd hq hr
     lia
    ·exact ih ∅ e
def aLu(nd:row.Nodup){q:Tk}(hq:row[n]? =some q):(crw lst wt row n q).Nodup:=by
 unfold crw;refine List.nodup_cons.mpr ⟨λh=>?_,(nd.sublist (Gh ..)).sublist Lg⟩;have:=zE nd (List.mem_filter.mp h).1 hq
 lia
def aBz(nd:row.Nodup)(g:Goes ln sl wt row)(hL:∀q n,q∈row.take n->n<lst q->∃p,row[lst q]? =some p/\q∈ln p){q p:Tk}(hn:row[n]? =some p)(hq:q∈crw lst wt row n p):rm sl row (n+1) (sl q)=some q:=by
 have nl:=(List.getElem?_eq_some_iff.mp hn).1;rcases List.mem_cons.mp hq with rfl|h
 ·rw[aIe hn,if_pos rfl]
 ·obtain⟨h1,h2⟩:=List.mem_filter.mp h;have h3:q∈row.take (n+1):=Nr _ ∅ h1;unfold kp at h2;rcases (Sy _ _).mp h2 with h2|h2
  ·exact aI9 nd h3 nl (g.wn q (of_decide_eq_true h2))
  ·obtain⟨p',a1,a2⟩:=hL q n h1 (of_decide_eq_true h2);exact aI9 nd h3 (of_decide_eq_true h2) (g.rd _ _ a1 q a2)
def aFx(nd:row.Nodup)(g:Goes ln sl wt row)(hL:∀q n,q∈row.take n->n<lst q->∃p,row[lst q]? =some p/\q∈ln p){a b p:Tk}(hn:row[n]? =some p)(ha:a∈crw lst wt row n p)(hb:b∈crw lst wt row n p)(e:sl a=sl b):a=b:=by
 have h1:=aBz nd g hL hn ha;have h2:=aBz nd g hL hn hb;rw[e,h2]at h1;exact(Bl h1).symm
def zL{q p:Tk}(hn:row[n]? =some p)(hq:q∈crw lst wt row n p):q∈row:=by
 rcases List.mem_cons.mp hq with rfl|h
 ·exact Ay hn
 ·exact Cv (List.mem_filter.mp h).1
def aLm(nd:row.Nodup)(g:Goes ln sl wt row)(hL:∀q n,q∈row.take n->n<lst q->∃p,row[lst q]? =some p/\q∈ln p){p:Tk}(hn:row[n]? =some p)(hk:∀q∈row,0<=sl q/\sl q<k):(crw lst wt row n p).length<=k:=by
 have h1:((crw lst wt row n p).map λq=>(sl q).toNat).Nodup:=List.pairwise_map.mpr ((List.Pairwise.and_mem.mp (aLu nd hn)).imp λ{a b} ⟨ha,hb,ne⟩ e=>ne (aFx nd g hL hn ha hb (by
  have:=hk a (zL hn ha);have:=hk b (zL hn hb)
  lia)))
 have:=h1.length_le_of_subset (l₂:=Bk k) λs hs=>by
  obtain⟨a,ha,rfl⟩:=List.mem_map.mp hs;have:=hk a (zL hn ha);exact List.mem_range.mpr ∅
 rwa [Ab,Br]at this
def aKo(nd:row.Nodup){q:Tk}(hn:n<row.length)(hq:q∈row.take (n+1))(k:kp lst wt n q=true∨row[n]? =some q):(hold lst wt row (n+1))[slO lst wt row q]? =some q:=by
 have hr:row[n]? =some row[n]:=Ag hn;rw[zQ hr];by_cases e:row[n]? =some q
 ·have:slO lst wt row q=slt lst wt row n:=by unfold slO;rw[xT nd e]
  rw[if_pos this, <-hr,e]
 ·have k:=k.resolve_right e;have hq':q∈row.take n:=by
   rw[Ff,hr,Iw]at hq;exact hq.resolve_right λh=>e (by rw[hr,List.mem_singleton.mp h])
  rw[if_neg λz=>(zY nd (Ez hn)).1 ⟨q,hq',k,z⟩];exact tY nd (Ez hn) hq' (.inl k)
def aRc(nd:row.Nodup)(hn:n<=row.length)(i:Nat):rm (λq=>(slO lst wt row q:Nat)) row n i=(hold lst wt row n)[i]? :=by
 induction n with
 |zero=>rfl
 |succ n ih=>
  have hr:row[n]? =some row[n]:=Ag hn;have sq:slO lst wt row row[n]=slt lst wt row n:=by unfold slO;rw[xT nd hr]
  rw[aIe hr,zQ hr,ih ∅,sq];by_cases e:i=slt lst wt row n
  ·rw[if_pos e,if_pos (by rw[e])]
  ·rw[if_neg e,if_neg ∅]
def aGu(nd:row.Nodup)(rt:∀n q,row[n]? =some q->∀z∈ln q,z∈row.take n/\n<=lst z)(wm:∀q∈wt,q∈row):Goes ln (λq=>(slO lst wt row q:Nat)) wt row:=by
 have key:∀n q,n<=row.length->q∈row.take n->(q∈wt∨n<=lst q)->rm (λq=>(slO lst wt row q:Nat)) row n (slO lst wt row q:Nat)=some q:=λn q hn hq h=>by
  cases n with
  |zero=>simp at hq
  |succ n=>
   rw[aRc nd hn];refine aKo nd hn hq ?_;unfold kp;rcases h with h|h
   ·exact .inl (by rw[decide_eq_true h];rfl)
   ·exact .inl (by rw[decide_eq_true (show n<lst q by lia),Bool.or_true])
 exact⟨λn q h z hz=>key n z (Ez (List.getElem?_eq_some_iff.mp h).1) (rt n q h z hz).1 (.inr (rt n q h z hz).2),λq hq=>key _ q (Ak _) (by rw[Fs];exact wm q hq) (.inl hq)⟩
def aXp{ln:Tk->List Tk}{row:List Tk}{q r:Tk}{n N:Nat}(h:row[n]? =some r)(m:q∈ln r)(hn:n<N):∃p,lu ln row N q=some p/\n<=p:=by
 induction N with
 |zero=>lia
 |succ N ih=>
  unfold lu;by_cases e:n=N
  ·subst e;rw[h];exact⟨n,by simp[m],Ak _⟩
  ·obtain⟨p,a,b⟩:=ih ∅;split
   ·exact⟨N,rfl,∅⟩
   ·exact⟨p,a,b⟩
def aV4{rs:List Rim}{ys row:List Tk}(nd:row.Nodup){q:Tk}(hq:q∈row.take n)(h:n<lsF ns rs ys row q):∃p,row[lsF ns rs ys row q]? =some p/\q∈lnY ns rs ys p:=by
 unfold lsF at h⊢;cases e:lu (lnY ns rs ys) row row.length q with
 |some p=>exact aX0 e
 |none=>
  rw[e]at h;have h:n<row.idxOf q:=h;have:=zE nd hq (show row[row.idxOf q]? =some q by rw[Ag (Dv (Cv hq)),Hh])
  lia
def aUu{rs:List Rim}{ys row:List Tk}{q r:Tk}(h:row[n]? =some r)(m:q∈lnY ns rs ys r):n<=lsF ns rs ys row q:=by
 obtain⟨p,a,b⟩:=aXp (ln:=lnY ns rs ys) h m (List.getElem?_eq_some_iff.mp h).1;unfold lsF;rw[a];exact b
abbrev slU(sl:Tk->Int)(q:Tk):U:=.n (sl q)
abbrev lnU(ln:Tk->List Tk)(q:Tk):U:=.ls ((ln q).map tkU)
def rmU(sl:Tk->Int)(row:List Tk)(n:Nat)(i:Int):Option U:=(rm sl row n i).map tkU
def aD0(o:Option Tk)(z:Tk):U.eq ((o.map tkU).getD .no) (tkU z)=decide (o=some z):=by
 cases o with
 |none=>exact(decide_eq_false nofun).symm
 |some q=>
  show U.eq (tkU q) (tkU z)=_;rw[aG6];exact decide_eq_decide.mpr ⟨λh=>by rw[h],λh=>Bl h⟩
def aO7(o:Option Tk):U.dt 40 ((o.map tkU).getD .no):=by
 cases o with
 |none=>trivial
 |some q=>exact(gM 38 [q]).1
def aA7(P:Program)(w:World):Fv:=λus R=>∃(ks row wt:List Tk)(ln:Tk->List Tk)(sl:Tk->Int),us=[.op (pdO P w (kvU ks (lnU ln))).fz,.ls (row.map tkU),.op (pdO P w (kvU row (slU sl))).fz,.ls (wt.map tkU)]/\(∀q∈row,q∈ks/\∀z∈ln q,z∈row)/\(∀q∈wt,q∈row)/\row.length<=100/\wt.length<=100/\∀b:Bool,(b=true↔Goes ln sl wt row)->R (.sh (.b b))
abbrev aFo:List Str:=["_law_leans_here","_law_row_here","_law_slots","_law_wanted","_law_room","_law_spot","_law_one"]
def lW:aK ["_law_leans_here","_law_row_here","_law_slots","_law_wanted","_law_room","_law_spot","_law_one"] ["_law_leans_here","_law_row_here","_law_slots","_law_wanted"] (aD nJ):={}
def aMh(F:Fun K "_law_goes" "_law_goes" nJ f fd)(T:Txt mg):↥1 f fd ["_law_leans_here","_law_row_here","_law_slots","_law_wanted"] (spV (aA7 P w)):=by
 refine vfn F lW (λcdv A outer s H E hr=>(aC (aP (i:=4) lW.nd aPm) (aC (bW Au rfl (aX (aA 1)) (cI (i:=5) lW.nd) (aC (bW Au rfl (aX (yK (P:=P) (w:=w) rfl rfl hr (aA 0) (aA 5))) (cI (i:=6) lW.nd) (aF (bQ (bJ (kY (huD hr)) cV (aIm hr (aA 4) (yK (P:=P) (w:=w) rfl rfl hr (aA 2) (aA 6))) (aA 6)) (aF (aQ jH)) aW))) (aF (aPr 4 hr (yK (P:=P) (w:=w) rfl rfl hr (aA 2) (aA 5)) (aA 5))))) (aF (aQ (oV (dO (huD hr)) cV (aAz (own:=["_law_spot"]) (cap:=[("_law_slots",2),("_law_room",4)]) (aD nJ) aFo rfl rfl (λx h=>bD h) #v[1] rfl (vic (aX (aA 3))) ↑(aZ (i:=0) (~~~["_law_spot","_law_slots","_law_room"]) rfl (Dc rfl) (Dl rfl)) (bL ⋯) ↑(bJ (kY (huD hr)) cV (aIm hr (aA 2) (yK (P:=P) (w:=w) rfl rfl hr (aA 1) (aA 0))) (aA 0)) ↑(aA 0)) (bK aG))))))) ?_;rintro _ R ⟨ks,row,wt,ln,sl,rfl,hr,hw,rl,wl,q⟩;refine⟨rfl,?_⟩;have dq:∀z:Tk,U.dt 40 (tkU z):=λz=>(gM 38 [z]).1;show eF (gR 5) _ _ (row.map tkU) [.sh (.op (pdO P w (kvU ks (lnU ln))).fz),.sh (.ls (row.map tkU)),.sh (.op (pdO P w (kvU row (slU sl))).fz),.sh (.ls (wt.map tkU)),.oo (ndO (rmU sl row 0) 0),.no,.no];refine bC (λl ρ=>∃(n:Nat)(a b:Sl),l=(row.drop n).map tkU/\n<=row.length/\(∀m<n,∀q,row[m]? =some q->∀z∈ln q,rm sl row m (sl z)=some z)/\ρ=[.sh (.op (pdO P w (kvU ks (lnU ln))).fz),.sh (.ls (row.map tkU)),.sh (.op (pdO P w (kvU row (slU sl))).fz),.sh (.ls (wt.map tkU)),.oo (ndO (rmU sl row n) n),a,b]) ?_ ?_ ⟨0,_,_,rfl,Bd _,nofun,rfl⟩
 ·rintro ρ ⟨n,a,b,e,hn,ok,rfl⟩;have en:n=row.length:=by
   have:=congrArg Bz e;simp at this
   lia
  subst en;refine⟨by rw[Ab];lia,?_⟩;show cO _ (wt.map tkU) [] _;refine mO (p:=λz=> !decide (rm sl row row.length (sl z)=some z)) (λz hz k h1 h2=>?_) ?_
  ·refine⟨_,_,rfl,_,z,_,.inr (.inr rfl),rfl,lM (hw z hz),sl z,rfl,aO7 _,dq z,λy=>h1 ?_,λy=>h2 ?_⟩
   ·have y:(!U.eq ((rmU sl row row.length (sl z)).getD .no) (tkU z))=true:=y;rw[show U.eq ((rmU sl row row.length (sl z)).getD .no) (tkU z)=_ from aD0 _ z]at y;exact y
   ·have y:(!U.eq ((rmU sl row row.length (sl z)).getD .no) (tkU z))=false:=y;rw[show U.eq ((rmU sl row row.length (sl z)).getD .no) (tkU z)=_ from aD0 _ z]at y;exact y
  ·refine⟨gM 37 _,trivial,?_⟩;show R (.sh (.b (U.eq (.ls (List.map tkU _)) (.ls []))));rw[zO];refine q _ ⟨λh=>⟨λm q0 hm=>ok m (List.getElem?_eq_some_iff.mp hm).1 q0 hm,λz hz=>?_⟩,λg=>?_⟩
   ·have:=List.filter_eq_nil_iff.mp (List.isEmpty_iff.mp h) z hz;simpa using this
   ·refine List.isEmpty_iff.mpr (List.filter_eq_nil_iff.mpr λz hz=>?_);simp[g.wn z hz]
 ·rintro u l ρ ⟨n,a,b,e,hn,ok,rfl⟩ ih;have kl:n<row.length:=by
   have:=congrArg Bz e;simp at this
   lia
  obtain⟨q0,hq⟩:∃q0,row[n]? =some q0:=⟨_,Ag kl⟩;have hm:=Ay hq;rw[Bf kl,(List.getElem?_eq_some_iff.mp hq).2]at e;cases e;refine⟨_,q0,_,.inr (.inr rfl),rfl,lM (hr q0 hm).1,?_⟩;show eF (gR 6) _ _ ((ln q0).map tkU) [.sh (.op (pdO P w (kvU ks (lnU ln))).fz),.sh (.ls (row.map tkU)),.sh (.op (pdO P w (kvU row (slU sl))).fz),.sh (.ls (wt.map tkU)),.oo (ndO (rmU sl row n) n),.sh (tkU q0),b];refine bC (λl ρ=>∃(dn rs:List Tk)(b:Sl),l=rs.map tkU/\dn++rs=ln q0/\(∀z∈dn,rm sl row n (sl z)=some z)/\ρ=[.sh (.op (pdO P w (kvU ks (lnU ln))).fz),.sh (.ls (row.map tkU)),.sh (.op (pdO P w (kvU row (slU sl))).fz),.sh (.ls (wt.map tkU)),.oo (ndO (rmU sl row n) n),.sh (tkU q0),b]) ?_ ?_ ⟨[],ln q0,_,rfl,rfl,nofun,rfl⟩
  ·rintro ρ ⟨dn,rs,b,e1,e2,dk,rfl⟩;obtain rfl:rs=[]:=List.map_eq_nil_iff.mp e1.symm;rw[Ax]at e2;subst e2;refine⟨_,_,rfl,∅,_,q0,_,.inr (.inr rfl),rfl,lM hm,sl q0,rfl,?_⟩;have er:(λz=>if z=sl q0 then some (tkU q0)else rmU sl row n z)=rmU sl row (n+1):=funext λz=>by
    unfold rmU;rw[aIe hq];split<;>rfl
   rw[er];refine ih _ ⟨n+1,_,_,rfl,kl,λm hm q1 h1=>?_,rfl⟩;by_cases z:m=n
   ·subst z;rw[hq]at h1;cases h1;exact dk
   ·exact ok m ∅ q1 h1
  ·rintro u l ρ ⟨dn,rs,b,e1,e2,dk,rfl⟩ ih2;cases rs with
   |nil=>cases e1
   |cons z rs=>
    cases e1;have zl:z∈ln q0:=by rw[<-e2];simp
    refine⟨_,_,rfl,_,z,_,.inr (.inr rfl),rfl,lM ((hr q0 hm).2 z zl),sl z,rfl,aO7 _,dq z,λy=>?_,λy=>?_⟩
    ·have y:(!U.eq ((rmU sl row n (sl z)).getD .no) (tkU z))=true:=y;rw[show U.eq ((rmU sl row n (sl z)).getD .no) (tkU z)=_ from aD0 _ z]at y;exact q false ⟨nofun,λg=>by rw[decide_eq_true (g.rd n q0 hq z zl)]at y;cases y⟩
    ·have y:(!U.eq ((rmU sl row n (sl z)).getD .no) (tkU z))=false:=y;rw[show U.eq ((rmU sl row n (sl z)).getD .no) (tkU z)=_ from aD0 _ z]at y;refine ih2 _ ⟨dn++[z],rs,_,rfl,by rw[<-e2];simp,λx hx=>?_,rfl⟩;rcases List.mem_append.mp hx with h|h
     ·exact dk x h
     ·rw[List.mem_singleton.mp h];simpa using y
abbrev aT4(P:Program)(w:World)(row:List Tk):Prop:=(row.map (bM (intKind P w)).hash).Nodup
abbrev wyU(P:Program)(w:World)(row:List Tk)(sl:Tk->Int):U:=.op (pdO P w (kvU row (slU sl))).fz
def aR7(P:Program)(w:World):Fv:=λus R=>∃(row:List Tk)(k:Int),us=[.ls (row.map tkU),.n k]/\row.Nodup/\aT4 P w row/\row.length<=6/\0<=k/\k<=3/\∀sls:List (Tk->Int),(∀sl∈sls,∀q∈row,0<=sl q/\sl q<k)->sls.length<=729->R (.sh (.ls (sls.map λsl=> .op (pdO P w (kvU row (slU sl))).fz)))
def cB:aK ["_law_row_here","_law_many","_law_found","_law_spot","_law_longer","_law_slots","_law_number","_law_more"] ["_law_row_here","_law_many"] (aD lE):={}
def aRi(F:Fun K "_law_all_ways" "_law_all_ways" lE f fd)(T:Txt mg):↥1 f fd ["_law_row_here","_law_many"] (spV (aR7 P w)):=by
 refine vfn F cB (λcdv A outer s H E hr=>(aC (aP (i:=2) cB.nd (bK (aB (tU (P:=P) (w:=w) rfl rfl) aG))) (dU 2 (aC (bW Au rfl (aX (aA 0)) (cI (i:=3) cB.nd) (aC (aP (i:=4) cB.nd (bK aG)) (aC (bW Au rfl (aX (aA 2)) (cI (i:=5) cB.nd) (aF (bW Au rfl (mV T.range (aL (aA 1) aV)) (cI (i:=6) cB.nd) (aC (aP (i:=7) cB.nd (aEp (P:=P) (w:=w) rfl rfl rfl T.dict (aA 5))) (aC (pW (P:=P) (w:=w) 7 rfl rfl hr (aA 3) (aA 6)) (dU 7 (aF (wY 4 (aA 7))))))))) (dU 4 (aF (aP (i:=2) cB.nd (aA 4))))))) (aF (cZ 2)))))) ?_;rintro _ R ⟨row,k,rfl,nd,hs,rl,k0,k3,q⟩;refine⟨rfl,?_⟩;show eF (gR 3) _ _ (row.map tkU) [.sh (.ls (row.map tkU)),.sh (.n k),.sh (.ls ([λ_=>0].map λsl=>wyU P w (row.take 0) sl)),.no,.no,.no,.no,.no];refine bC (λl ρ=>∃(n:Nat)(sls:List (Tk->Int))(a b c d e:Sl),l=(row.drop n).map tkU/\n<=row.length/\(∀sl∈sls,∀q∈row.take n,0<=sl q/\sl q<k)/\sls.length<=3 ^ n/\ρ=[.sh (.ls (row.map tkU)),.sh (.n k),.sh (.ls (sls.map λsl=>wyU P w (row.take n) sl)),a,b,c,d,e]) ?_ ?_ ⟨0,[λ_=>0],_,_,_,_,_,rfl,Bd _,nofun,Ak _,rfl⟩
 ·rintro ρ ⟨n,sls,a,b,c,d,e,el,hn,hk,sl3,rfl⟩;have en:n=row.length:=by
   have:=congrArg Bz el;simp at this
   lia
  subst en;rw[Fs]at hk;rw[Fs];exact q sls hk (Ba sl3 (Qo ⋯ rl))
 ·rintro u l ρ ⟨n,sls,a,b,c,d,e,el,hn,hk,sl3,rfl⟩ ih;have kl:n<row.length:=by
   have:=congrArg Bz el;simp at this
   lia
  obtain⟨q0,hq⟩:∃q0,row[n]? =some q0:=⟨_,Ag kl⟩;have et:row.take (n+1)=row.take n++[q0]:=by rw[Ff,hq];rfl
  have nin:q0∉row.take n:=λz=>by
   have:=zE nd z hq
   lia
  rw[Bf kl,(List.getElem?_eq_some_iff.mp hq).2]at el;cases el;have s729:sls.length<=729:=Ba sl3 (Ba (Qo ⋯ (show n<=6 by lia)) ⋯);show eF (gR 5) _ _ (sls.map λsl=>wyU P w (row.take n) sl) [.sh (.ls (row.map tkU)),.sh (.n k),.sh (.ls (sls.map λsl=>wyU P w (row.take n) sl)),.sh (tkU q0),.ow (List.map (λsl=>wyU P w (row.take (n+1)) sl) []),c,d,e];refine bC (λl ρ=>∃(dn rs ms:List (Tk->Int))(a b c:Sl),l=(rs.map λsl=>wyU P w (row.take n) sl)/\dn++rs=sls/\(∀sl∈ms,∀q∈row.take (n+1),0<=sl q/\sl q<k)/\ms.length<=dn.length*3/\ρ=[.sh (.ls (row.map tkU)),.sh (.n k),.sh (.ls (sls.map λsl=>wyU P w (row.take n) sl)),.sh (tkU q0),.ow (ms.map λsl=>wyU P w (row.take (n+1)) sl),a,b,c]) ?_ ?_ ⟨[],sls,[],_,_,_,rfl,rfl,nofun,Bd _,rfl⟩
  ·rintro ρ ⟨dn,rs,ms,a,b,c,e1,e2,hm,ml,rfl⟩;obtain rfl:rs=[]:=List.map_eq_nil_iff.mp e1.symm;rw[Ax]at e2;subst e2;exact ih _ ⟨n+1,ms,_,_,_,_,_,rfl,kl,hm,by rw[Wb];lia,rfl⟩
  ·rintro u l ρ ⟨dn,rs,ms,a,b,c,e1,e2,hm,ml,rfl⟩ ih2;cases rs with
   |nil=>cases e1
   |cons sl rs=>
    cases e1;have hsl:sl∈sls:=by rw[<-e2];simp
    have dl:dn.length<729:=by
     have:=congrArg Bz e2;rw[An,Am]at this
     lia
    refine⟨∅,∅,?_⟩;show eF (gR 6) _ _ (jZ 0 k.toNat) [.sh (.ls (row.map tkU)),.sh (.n k),.sh (.ls (sls.map λsl=>wyU P w (row.take n) sl)),.sh (tkU q0),.ow (ms.map λsl=>wyU P w (row.take (n+1)) sl),.sh (wyU P w (row.take n) sl),b,c];refine bC (λl ρ=>∃(ls:List Int)(ms:List (Tk->Int))(a b:Sl),l=ls.map U.n/\(∀i∈ls,0<=i/\i<k)/\(∀sl∈ms,∀q∈row.take (n+1),0<=sl q/\sl q<k)/\ms.length+ls.length<=dn.length*3+3/\ρ=[.sh (.ls (row.map tkU)),.sh (.n k),.sh (.ls (sls.map λsl=>wyU P w (row.take n) sl)),.sh (tkU q0),.ow (ms.map λsl=>wyU P w (row.take (n+1)) sl),.sh (wyU P w (row.take n) sl),a,b]) ?_ ?_ ⟨(Bk k.toNat).map λi:Nat=>0+(i:Int),ms,_,_,?_,?_,hm,?_,rfl⟩
    ·rintro ρ ⟨ls,ms,a,b,e3,hi,hm,ml,rfl⟩;exact ih2 _ ⟨dn++[sl],rs,ms,_,_,_,rfl,by rw[<-e2];simp,hm,by rw[An];show _<=(_+1)*3;lia,rfl⟩
    ·rintro u l ρ ⟨ls,ms,a,b,e3,hi,hm,ml,rfl⟩ ih3;cases ls with
     |nil=>cases e3
     |cons i ls=>
      cases e3;rw[Am]at ml;have hi0:=hi i Ah;refine⟨_,.inr (.inr rfl),?_,by unfold kvU;rw[Ab,Bp];lia,_,rfl,by unfold kvU;rw[Ab,Bp];lia,q0,rfl,by rw[Ab];lia,?_⟩
      ·rw[gF];exact(show(row.map _).Nodup from hs).sublist ((Gh n row).map _)
      ·have ew:pN (kvU (row.take n) (slU sl)) q0 (.n i)=kvU (row.take (n+1)) (slU λz=>if z=q0 then i else sl z):=by
        rw[wN nin,et];exact Do λz _=>by
         show(z,_)=(z,_);congr 1;show(if z=q0 then U.n i else U.n (sl z))=U.n (if z=q0 then i else sl z);split<;>rfl
       rw[ew];refine ih3 _ ⟨ls,ms++[λz=>if z=q0 then i else sl z],_,_,rfl,λj hj=>hi j (Af _ hj),λs hs z hz=>?_,by rw[An];show _+1+_<=_;lia,by rw[Ce];rfl⟩;rcases List.mem_append.mp hs with h|h
       ·exact hm s h z hz
       ·rw[List.mem_singleton.mp h];show 0<=(if z=q0 then i else sl z)/\(if z=q0 then i else sl z)<k;by_cases e:z=q0
        ·rw[if_pos e];exact hi0
        ·rw[if_neg e];rw[et]at hz;exact hk sl hsl z ((List.mem_append.mp hz).resolve_right λh=>e (List.mem_singleton.mp h))
    ·unfold jZ;rw[Az];rfl
    ·intro i hi;obtain⟨j,hj,rfl⟩:=List.mem_map.mp hi;have:=List.mem_range.mp hj
     lia
    ·rw[Ab,Br];lia
def aD3{e g:α->U}{p:α->Bool}{f:U->(Option U->Prop)->Prop}{Q:List U->Prop}{l:List α}(hf:∀y∈l,∀k:Option U->Prop,(p y=true->k (some (g y)))->(p y=false->k none)->f (e y) k)(hq:Q ((l.filter p).map g)):cO f (l.map e) [] Q:=by
 have key:∀(zs:List α)(acc:List U),(∀y∈zs,∀k:Option U->Prop,(p y=true->k (some (g y)))->(p y=false->k none)->f (e y) k)->Q (acc++(zs.filter p).map g)->cO f (zs.map e) acc Q:=by
  intro zs;induction zs with
  |nil=>exactλacc _ q=>by rw[Sw,Ep,Ax]at q;exact q
  |cons z zs ih=>
   intro acc hf q;refine hf z Ah _ (λh=>?_) λh=>?_
   ·rw[Jz h]at q;exact ih _ (λy hy=>hf y (Af _ hy)) (by rw[Bu];exact q)
   ·rw[Ka (by rw[h];nofun)]at q;exact ih _ (λy hy=>hf y (Af _ hy)) q
 exact key l [] hf hq
theorem aFf{f:U->(Option U->Prop)->Prop}{Q:List U->Prop}(I:List U->List U->Prop)(h0:∀acc,I [] acc->Q acc)(h1:∀u l acc,I (u::l) acc->∀k:Option U->Prop,(∀x,I l (acc++[x])->k (some x))->f u k):∀{l acc:List U},I l acc->cO f l acc Q
 | [],acc,h=>h0 acc h
 |u::l,acc,h=>h1 u l acc h _ λx hx=>aFf I h0 h1 hx
def aL8{row:List Tk}(nd:row.Nodup):∀{xs:List Int},xs.length=row.length->(∀x∈xs,0<=x/\x<(k:Int))->∃sl:Tk->Int,(row.zip xs)=row.map (λq=>(q,sl q))/\∀q∈row,0<=sl q/\sl q<k:=by
 induction row with
 |nil=>exactλ_ _=>⟨λ_=>0,rfl,nofun⟩
 |cons a row ih=>
  intro xs hl hx;cases xs with
  |nil=>cases hl
  |cons x xs=>
   rw[Ko]at nd;obtain⟨sl,e,h⟩:=ih nd.2 (Hq hl) λy hy=>hx y (Af _ hy);refine⟨λq=>if q=a then x else sl q,?_,λq hq=>?_⟩
   ·rw[Jg,e,Bo];congr 1
    ·show _=(a,if a=a then x else sl a);rw[if_pos rfl]
    ·exact Do λq hq=>by
      show _=(q,if q=a then x else sl q);rw[if_neg λz:q=a=>nd.1 (z▸hq)]
   ·show 0<=(if q=a then x else sl q)/\(if q=a then x else sl q)<k;by_cases z:q=a
    ·rw[if_pos z];exact hx x Ah
    ·rw[if_neg z];exact h q ((List.mem_cons.mp hq).resolve_left z)
structure aRn(P:Program)(w:World)(ks row wt:List Tk)(ln:Tk->List Tk):Prop where
 nd:row.Nodup
 hs:aT4 P w row
 me:∀q∈row,q∈ks/\∀z∈ln q,z∈row
 wm:∀q∈wt,q∈row
 rl:row.length<=30
 wl:wt.length<=30
def aL4(P:Program)(w:World):Fv:=λus R=>∃(ks row wt:List Tk)(ln:Tk->List Tk)(k:Nat),us=[.op (pdO P w (kvU ks (lnU ln))).fz,.ls (row.map tkU),.ls (wt.map tkU),.n (k:Nat),.wl]/\aRn P w ks row wt ln/\k<=100/\(∀sl:Tk->Int,(∀q∈row,0<=sl q/\sl q<k)->¬Goes ln sl wt row)/\R (.sh (.b true))
abbrev pC:List Str:=["_law_leans_here","_law_row_here","_law_wanted","_law_many","_law_tape_here","_law_ways"]
def iQ:aK ["_law_leans_here","_law_row_here","_law_wanted","_law_many","_law_tape_here","_law_ways"] ["_law_leans_here","_law_row_here","_law_wanted","_law_many","_law_tape_here"] (aD dD):={}
def aOj(F:Fun K "_law_none_goes" "_law_none_goes" dD f fd)(c__law_draw:⇑1 "_law_draw" ["_law_tape_here","_law_many"] (spV aCd))(c__law_all_ways:⇑1 "_law_all_ways" ["_law_row_here","_law_many"] (spV (aR7 P w)))(c__law_goes:⇑1 "_law_goes" ["_law_leans_here","_law_row_here","_law_slots","_law_wanted"] (spV (aA7 P w)))(T:Txt mg):↥2 f fd ["_law_leans_here","_law_row_here","_law_wanted","_law_many","_law_tape_here"] (spV (aL4 P w)):=by
 refine vfn F iQ (λcdv A outer s H E hr=>(aC (bQ (bJ (dO (huD hr)) cV (aA 3) aH) (aF (aQ jH)) aW) (aC (aLx (i:=5) (own:=["_law_k"]) (cap:=[("_law_row_here",1),("_law_many",3),("_law_tape_here",4)]) aIo iQ.nd (aD dD) pC rfl rfl (λx h=>bD h) #v[1] rfl (vic (mV T.range (aL aH aV))) (λcs cf C s2 H2 fp=>(aZ (i:=0) (~~~["_law_k","_law_row_here","_law_many","_law_tape_here"]) rfl (Dc rfl) (Dl rfl))) (bL ⋯) (λcs cf C s2 H2 fp=>(aGs (P:=P) (w:=w) rfl rfl hr rfl T.dict (aNd (own:=["_law_spot"]) (icap:=[("_law_many",2),("_law_tape_here",3)]) (aD dD) cf rfl rfl #v[1] rfl (vic (aX (aA 1))) (λcl C' s3 H3 fp'=>(aZ (i:=0) (~~~["_law_spot","_law_many","_law_tape_here"]) rfl (Dc rfl) (Dl rfl))) (bL ⋯) (λcl C' s3 H3 fp'=>(bZ (aB (aA 0) (aB (aJ c__law_draw (hr.mono ⋯) rfl (aB (aA 2) (aB (aA 1) aG))) aG)))))))) (dU 5 (aC (bQ (mY (aDh (bJ uH cL (bB aR cU T.len Dq (aL (aA 1) aV)) aH) (aDr (bJ aCc cL (aA 3) aH)))) (aF (aP (i:=5) iQ.nd (aJ c__law_all_ways (hr.mono ⋯) rfl (aB (aA 1) (aB (aA 3) aG))))) aW) (aF (aQ (oV (dO (huD hr)) cV (aAz (own:=["_law_slots"]) (cap:=[("_law_leans_here",0),("_law_row_here",1),("_law_wanted",2)]) (aD dD) pC rfl rfl (λx h=>bD h) #v[1] rfl (vic (aX (aA 5))) ↑(aZ (i:=0) (~~~["_law_slots","_law_leans_here","_law_row_here","_law_wanted"]) rfl (Dc rfl) (Dl rfl)) (bL ⋯) ↑(cQ (aJ c__law_goes (hr.mono ⋯) rfl (aB (aA 1) (aB (aA 2) (aB (aA 0) (aB (aA 3) aG)))))) (λcl C s2 H2 fp=>aH)) (bK aG))))))))) ?_;rintro _ R ⟨ks,row,wt,ln,k,rfl,o,k100,no,q⟩;have rl:=o.rl;refine⟨rfl,trivial,trivial,λ_=>q,λz0=>?_⟩;have kp:0<k:=Nat.pos_of_ne_zero λz=>by
  have z0:U.eq (.n (k:Nat)) (.n 0)=false:=z0;rw[z]at z0;cases z0
 refine⟨⋯,⋯,⋯,?_⟩;show cO _ (jZ 0 (12:Int).toNat) [] _;refine gH (λx=>∃sl:Tk->Int,x=wyU P w row sl/\∀q∈row,0<=sl q/\sl q<k) (λu hu c hc=>?_) λxs xl xp=>?_
 ·refine⟨by rw[Ab];lia,?_⟩;show cO _ (row.map tkU) [] _;refine aFf (λl acc=>∃(n:Nat)(xs:List Int),l=(row.drop n).map tkU/\n<=row.length/\xs.length=n/\(∀x∈xs,0<=x/\x<(k:Int))/\acc=((row.take n).zip xs).map λp=> .tp [tkU p.1,.n p.2]) ?_ ?_ ⟨0,[],rfl,Bd _,rfl,nofun,rfl⟩
  ·rintro acc ⟨n,xs,e,hn,xl,hx,rfl⟩;have en:n=row.length:=by
    have:=congrArg Bz e;simp at this
    lia
   subst en;obtain⟨sl,es,hs⟩:=aL8 o.nd xl hx;rw[Fs,es];exact⟨kvU row (slU sl),by unfold kvU;rw[Az,Az];rfl,by rw[gF];exact o.nd,hc _ ⟨sl,rfl,hs⟩⟩
  ·rintro u l acc ⟨n,xs,e,hn,xl,hx,rfl⟩ c' hc';have kl:n<row.length:=by
    have:=congrArg Bz e;simp at this
    lia
   obtain⟨q0,hq⟩:∃q0,row[n]? =some q0:=⟨_,Ag kl⟩;rw[Bf kl,(List.getElem?_eq_some_iff.mp hq).2]at e;cases e;refine⟨(k:Nat),rfl,∅,∅,λr r0 r1=>hc' _ ⟨n+1,xs++[r],rfl,kl,by rw[An,xl];rfl,λx hx'=>?_,?_⟩⟩
   ·rcases List.mem_append.mp hx' with h|h
    ·exact hx x h
    ·rw[List.mem_singleton.mp h];exact⟨r0,r1⟩
   ·rw[show row.take (n+1)=row.take n++[q0] by rw[Ff,hq];rfl,List.zip_append (by rw[Bp,xl];lia),Ce];rfl
 ·obtain⟨sls,rfl,hb⟩:=pull xp;have fin:∀sls:List (Tk->Int),(∀sl∈sls,∀q∈row,0<=sl q/\sl q<(k:Int))->sls.length<=729->(sls.map (wyU P w row)).length<=10000/\cO (aOd (gR 0) (nH (aR9 (aA7 P w) (aA6 (aDc 1) (aA6 (aDc 2) (aA6 (aDc 0) (aA6 (aDc 3) aJz)))))) (vC (U.n 1)) [.no,.sh (.op (pdO P w (kvU ks (lnU ln))).fz),.sh (.ls (row.map tkU)),.sh (.ls (wt.map tkU))]) (sls.map (wyU P w row)) [] (λus=>U.dt 40 (.ls us)/\U.dt 40 (.ls [])/\R (.sh (.b (U.eq (.ls us) (.ls []))))):=λsls hb sl=>by
   refine⟨by rw[Ab];lia,aD3 (p:=λ_=>false) (g:=λ_=> .n 1) (λy hy c h1 h2=>?_) ?_⟩
   ·refine⟨ks,row,wt,ln,y,rfl,o.me,o.wm,∅,by have:=o.wl;lia,λb eb=>⟨λz=>absurd (eb.mp z) (no y (hb y hy)),λ_=>h2 rfl⟩⟩
   ·rw[List.filter_eq_nil_iff.mpr λ_ _=>Ao];exact⟨trivial,trivial,q⟩
  have s12:sls.length<=729:=by
   rw[Ab]at xl;rw[xl];decide
  have fs:=fin sls hb s12;refine⟨λz6=>⟨λz4=>?_,λ_=>fs⟩,λ_=>⟨nofun,λ_=>fs⟩⟩;have z6:=of_decide_eq_true z6;have z4:=of_decide_eq_true z4;rw[Ab]at z6;exact⟨row,(k:Nat),rfl,o.nd,o.hs,∅,∅,∅,λsls hb sl=>fin sls hb sl⟩
def aMy{f:Tk->U}{q:Tk}{u:U}(h:q∈l):pN (kvU l f) q u=kvU l λz=>if z=q then u else f z:=by
 unfold pN;rw[if_pos (by rw[lM h];rfl)];unfold kvU;rw[Az];refine Do λz _=>?_;by_cases e:z=q
 ·subst e;simp
 ·simp[e]
def aRl{row:List Tk}(nd:row.Nodup):(row.zipIdx.map λx=>U.tp [tkU x.1,.n (x.2:Nat)])=(kvU row (slU λq=>(row.idxOf q:Nat))).map λp=> .tp [tkU p.1,p.2]:=by
 unfold kvU;rw[Az];refine Gi λi=>?_;rw[As,As,Qi];cases e:row[i]? with
 |none=>rfl
 |some q=>
  show some (U.tp [tkU q,.n ((0+i:Nat):Int)])=some (U.tp [tkU q,.n ((row.idxOf q:Nat):Int)]);rw[xT nd e,Ji]
def aTd(P:Program)(w:World):Fv:=λus R=>∃(ks row wt zs:List Tk)(ln:Tk->List Tk),us=[.op (pdO P w (kvU ks (lnU ln))).fz,.ls (row.map tkU),.ls (wt.map tkU),.ls (zs.map tkU)]/\aRn P w ks row wt ln/\zs.Nodup/\(∀z∈zs,z∈row)/\(∀a∈zs,∀b∈zs,a≠b->∀sl:Tk->Int,sl a=sl b->¬Goes ln sl wt row)/\R (.sh (.b true))
abbrev gQ:List Str:=["_law_leans_here","_law_row_here","_law_wanted","_law_crowd","_law_apart","_law_pairs","_law_one","_law_other","_law_slots"]
def cH:aK ["_law_leans_here","_law_row_here","_law_wanted","_law_crowd","_law_apart","_law_pairs","_law_one","_law_other","_law_slots"] ["_law_leans_here","_law_row_here","_law_wanted","_law_crowd"] (aD cM):={}
def aPz(F:Fun K "_law_crowd_right" "_law_crowd_right" cM f fd)(c__law_goes:⇑1 "_law_goes" ["_law_leans_here","_law_row_here","_law_slots","_law_wanted"] (spV (aA7 P w)))(T:Txt mg):↥2 f fd ["_law_leans_here","_law_row_here","_law_wanted","_law_crowd"] (spV (aTd P w)):=by
 refine vfn F cH (λcdv A outer s H E hr=>(aC (aP (i:=4) cH.nd (aGs (P:=P) (w:=w) rfl rfl hr rfl T.dict (gD (own:=["_law_number","_law_spot"]) (cap:=[]) (aD cM) gQ rfl rfl (λx h=>bD h) #v[1] rfl (vic (lU T.enumerate (aB (aA 1) aG))) ↑(zX rfl (iR (aZ (i:=0) (~~~["_law_number","_law_spot"]) rfl (Dc rfl) (Dl rfl)) (iR (aZ (i:=1) (~~~["_law_number","_law_spot"]) rfl (Dc rfl) (Dl rfl)) wF))) (aEa (is:=[0,1]) rfl ⋯) ↑(bZ (aB (aA 1) (aB (aA 0) aG)))))) (aC (aP (i:=5) cH.nd (bT dG fB (gD (own:=["_law_other"]) (cap:=[("_law_crowd",3)]) (aD cM) gQ rfl rfl (λx h=>bD h) #v[1] rfl (vic (aX (aI1 (aA 3) (uA aH) zJ))) ↑(aZ (i:=0) (~~~["_law_other","_law_crowd"]) rfl (Dc rfl) (Dl rfl)) (bL ⋯) ↑(bZ (aB (bH aU bG (aA 1) aH) (aB (aA 0) aG)))) (gD (own:=["_law_k"]) (cap:=[("_law_crowd",3)]) (aD cM) gQ rfl rfl (λx h=>bD h) #v[1] rfl (vic (mV T.range (aL (bT lB cL (bB aR cU T.len Dq (aL (aA 3) aV)) aH) aV))) ↑(aZ (i:=0) (~~~["_law_k","_law_crowd"]) rfl (Dc rfl) (Dl rfl)) (bL ⋯) ↑(bZ (aB (bH aU bG (aA 1) (aA 0)) (aB (bH aU bG (aA 1) (bT dG fB (aA 0) aH)) aG)))))) (dU 5 (aC (bW Au rfl (aX (aA 5)) (mF rfl (bU (i:=6) cH.nd (bU (i:=7) cH.nd iD))) (aC (aP (i:=8) cH.nd (aEp (P:=P) (w:=w) rfl rfl rfl T.dict (aA 4))) (aC (pW (P:=P) (w:=w) 8 rfl rfl hr (aA 7) (yK (P:=P) (w:=w) rfl rfl hr (aA 8) (aA 6))) (aF (bQ (cQ (aAd c__law_goes (hr.mono ⋯) rfl (gO (aA 0) (gO (aA 1) (gO (aA 8) (gO (aA 2) aGr)))))) (aF (aQ jH)) aW))))) (aF (aQ jH))))))) ?_;rintro _ R ⟨ks,row,wt,zs,ln,rfl,o,zn,zm,no,q⟩;have rl:=o.rl;have zl:zs.length<=30:=Ba (zn.length_le_of_subset λz hz=>zm z hz) rl;refine⟨rfl,by rw[qH,Ab,Rc];lia,?_⟩;show cO _ (rF (row.map tkU)) [] _;rw[qH];refine aD3 (p:=λ_=>true) (g:=λx=> .tp [tkU x.1,.n (x.2:Nat)]) (λx hx k h1 _=>⟨rfl,(h1 rfl:k (some (.tp [tkU x.1,.n (x.2:Nat)])))⟩) ?_;rw[List.filter_eq_self.mpr λ_ _=>rfl];refine⟨kvU row (slU λq=>(row.idxOf q:Nat)),congrArg U.ls (aRl o.nd),by rw[gF];exact o.nd,?_⟩;have c1:qG (zs.map tkU) (some 1) none=(zs.drop 1).map tkU:=aMv zs 1;refine⟨by rw[c1,Ab,Dm];lia,?_⟩;show cO _ (qG (zs.map tkU) (some 1) none) [] _;rw[c1];refine gH (λx=>∃p:Tk×Tk,x=.tp [tkU p.1,tkU p.2]/\p.1∈zs/\p.2∈zs/\p.1≠p.2) (λu hu k hk=>?_) λxs xl xp=>?_
 ·obtain⟨y,hy,rfl⟩:=List.mem_map.mp hu;cases zs with
  |nil=>cases hy
  |cons a zs=>
   have hy:y∈zs:=hy;exact⟨tkU a,jA (show((a::zs).map tkU)[0]? =some (tkU a)from rfl),hk _ ⟨(a,y),rfl,Ah,Af _ hy,λz=>(List.nodup_cons.mp zn).1 (by rw[show a=y from z];exact hy)⟩⟩
 have l2:(zs.map tkU).length=zs.length:=Ab ..;refine⟨∅,∅,by unfold jZ;rw[Ab,Br];lia,?_⟩;show cO _ (jZ 0 (((zs.map tkU).length:Int)-1).toNat) [] _;refine gH (λx=>∃p:Tk×Tk,x=.tp [tkU p.1,tkU p.2]/\p.1∈zs/\p.2∈zs/\p.1≠p.2) (λu hu k hk=>?_) λxs' xl' xp'=>?_
 ·obtain⟨i,hi,rfl⟩:=List.mem_map.mp hu;have hi:=List.mem_range.mp hi;have i1:i+1<zs.length:=by lia
  have a1:atI (zs.map tkU) (0+(i:Int))=some (tkU zs[i]):=by rw[Wh];exact jA (by rw[As,Ag ∅];rfl)
  have a2:atI (zs.map tkU) (0+(i:Int)+1)=some (tkU zs[i+1]):=by
   rw[Wh];exact jA (show(zs.map tkU)[i+1]? =_ by rw[As,Ag i1];rfl)
  refine⟨_,a1,_,a2,hk _ ⟨(zs[i],zs[i+1]),rfl,Eu _,Eu _,λz=>?_⟩⟩;have:=(Kd zn).mp z
  lia
 have xx:xs.length<=30:=by rw[xl,Ab,Dm];lia
 have xx':xs'.length<=30:=by rw[xl'];unfold jZ;rw[Ab,Br];lia
 refine⟨by show xs.length+xs'.length<=10000;lia,?_⟩;show eF (zT [6,7]) _ _ (xs++xs') [.sh (.op (pdO P w (kvU ks (lnU ln))).fz),.sh (.ls (row.map tkU)),.sh (.ls (wt.map tkU)),.sh (.ls (zs.map tkU)),.oo (pdO P w (kvU row (slU λq=>(row.idxOf q:Nat)))),.sh (.ls (xs++xs')),.no,.no,.no];refine bC (λl ρ=>(∀x∈l,∃p:Tk×Tk,x=.tp [tkU p.1,tkU p.2]/\p.1∈zs/\p.2∈zs/\p.1≠p.2)/\∃a b c:Sl,ρ=[.sh (.op (pdO P w (kvU ks (lnU ln))).fz),.sh (.ls (row.map tkU)),.sh (.ls (wt.map tkU)),.sh (.ls (zs.map tkU)),.oo (pdO P w (kvU row (slU λq=>(row.idxOf q:Nat)))),.sh (.ls (xs++xs')),a,b,c]) ?_ ?_ ⟨λx hx=>(List.mem_append.mp hx).elim (xp x) (xp' x),_,_,_,rfl⟩
 ·rintro ρ ⟨_,a,b,c,rfl⟩;exact q
 ·rintro u l ρ ⟨hl,a,b,c,rfl⟩ ih;obtain⟨⟨x,y⟩,rfl,hx,hy,ne⟩:=hl u Ah;have ne:x≠y:=ne;have hs:aT4 P w row:=o.hs;refine⟨rfl,_,.inl rfl,by rw[gF];exact hs,by unfold kvU;rw[Ab];lia,_,x,_,.inl rfl,rfl,lM (zm x hx),_,rfl,by unfold kvU;rw[Ab];lia,y,rfl,?_⟩;have ew:pN (kvU row (slU λq=>(row.idxOf q:Nat))) y (slU (λq=>(row.idxOf q:Nat)) x)=kvU row (slU λz=>if z=y then((row.idxOf x:Nat):Int)else(row.idxOf z:Nat)):=by
   rw[aMy (zm y hy)];exact Do λz _=>by
    show(z,_)=(z,_);congr 1;show(if z=y then U.n _ else U.n _)=U.n (if z=y then _ else _);split<;>rfl
  rw[ew];refine⟨ks,row,wt,ln,_,rfl,o.me,o.wm,∅,by have:=o.wl;lia,λbb eb=>⟨trivial,λz=>absurd (eb.mp z) (no x hx y hy ne _ ?_),λ_=>ih _ ⟨λx hx=>hl x (Af _ hx),_,_,_,rfl⟩⟩⟩;show(if x=y then _ else _)=if y=y then _ else _
  rw[if_neg ne,if_pos rfl]
def aLf{f:U->(Option U->Prop)->Prop}{Q:List U->Prop}{row:List Tk}(hf:∀z∈row,∀k:Option U->Prop,k (some (tkU z))->k none->f (tkU z) k)(hq:∀wt:List Tk,wt.Sublist row->Q (wt.map tkU)):cO f (row.map tkU) [] Q:=by
 have key:∀(zs acc:List Tk),(∀z∈zs,∀k:Option U->Prop,k (some (tkU z))->k none->f (tkU z) k)->(∀wt:List Tk,wt.Sublist zs->Q ((acc++wt).map tkU))->cO f (zs.map tkU) (acc.map tkU) Q:=by
  intro zs;induction zs with
  |nil=>exactλacc _ h=>by have:=h [] (Wg _);rw[Ax]at this;exact this
  |cons z zs ih=>
   intro acc hf h;refine hf z Ah _ ?_ ?_
   ·have:=ih (acc++[z]) (λx hx=>hf x (Af _ hx)) λwt hw=>by rw[Bu];exact h _ (hw.cons_cons z)
    rw[Ce]at this;exact this
   ·exact ih acc (λx hx=>hf x (Af _ hx)) λwt hw=>h _ (hw.cons z)
 exact key row [] hf λwt hw=>hq wt hw
def aQ8{a b:List Tk}(p:a.Perm b)(ha:a.Pairwise λx y=>gU x y=true)(hb:b.Pairwise λx y=>gU x y=true):a=b:=
 p.eq_of_pairwise (λx y _ _ h1 h2=>by rw[aB5 h1]at h2;cases h2) ha hb
def aSu{P:Program}{w:World}(h:∀p∈kvs,Nw p.2){W W' B:Addr->Prop}{H:Hp}{v:V}(f:(pdO P w kvs).fz.φ W B H v):(pdO P w kvs).fz.φ W' B H v:=by
 obtain⟨p,S,e,nb,s,xs,hp,r⟩:=f;refine⟨p,S,e,nb,s,xs,hp,?_⟩;clear hp;induction r with
 |nil=>exact .nil
 |cons d rv dv t ih=>exact .cons (DU.nw _ (aR4 _) d) rv (DU.nw _ (h _ Ah) dv) (ih λp hp=>h p (Af _ hp))
def aZt:∀ns∈wS,∀n<6,((spS ns n).map aV5).Nodup:=by decide+kernel
def aYt{rs:List Rim}{row wt:List Tk}(g:yP ns rs ys r)(ro:rH ns r row)(rt:Right ns rs ys row)(r30:row.length<=30)(ws:wt.Sublist row):aRn P w (spS ns r.toNat) row wt (lD ns rs ys) where
 nd:=ro.nd
 hs:=by
  have h:=aZt ns g.sz r.toNat (by have:=g.r5;lia);exact(((Et ro.nd (aBc ns r.toNat)).mpr ro.me).map _).nodup_iff.mpr h
 me:=λq hq=>⟨(ro.me q).mp hq,λz hz=>by
  obtain⟨n,hn⟩:=List.mem_iff_getElem?.mp hq;exact Cv (rt n q hn z (xW.mp hz))⟩
 wm:=λq hq=>ws.subset hq
 rl:=r30
 wl:=Ba ws.length_le r30
def aNw(K:Ae):Fv:=λus R=>∃sc:List Int,us=[.op (aC6 K sc)]/\R (.sh (.b true))
abbrev aNu:List Str:=["_law_script","_law_world_here","_law_tape_here","_law_job_here","_law_leans_here","_law_cell","_law_rows","_law_row_here","_law_wanted","_law_many","_law_slots","_law_crowd"]
def jO:aK ["_law_script","_law_world_here","_law_tape_here","_law_job_here","_law_leans_here","_law_cell","_law_rows","_law_row_here","_law_wanted","_law_many","_law_slots","_law_crowd"] ["_law_script"] (aD vP):={}
def aUh(F:Fun K "law" "law" vP f fd)(c__law_cell_at:⇑1 "_law_cell_at" ["_law_script","_law_k"] (spV (aS3 K)))(c__law_tape:⇑1 "_law_tape" ["_law_cell"] (spV aS2))(c__law_draw:⇑1 "_law_draw" ["_law_tape_here","_law_many"] (spV aCd))(c__law_world:⇑2 "_law_world" ["_law_tape_here"] (spV aMk))(c__law_job:⇑16 "_law_job" ["_law_world_here","_law_tape_here"] (spV (aSi N CG CJ)))(c__law_spots:⇑2 "_law_spots" ["_law_world_here"] (spV aGn))(c__law_leans:⇑2 "_law_leans" ["_law_world_here","_law_spot"] (spV aDf))(c__law_row:⇑3 "_law_row" ["_law_world_here","_law_tape_here"] (spV aTe))
  (c_least_room:⇑9 "least_room" ["job","row","wanted"] (spV (aOw P w N CG CJ))) (c_slots_wanted:⇑10 "slots_wanted" ["job","row","wanted"] (spV (aGo N CG CJ))) (c_crowd_at:⇑11 "crowd_at" ["job","row","wanted"] (spV (aNq N CG CJ)))
  (c__law_goes:⇑1 "_law_goes" ["_law_leans_here","_law_row_here","_law_slots","_law_wanted"] (spV (aA7 P w))) (c__law_crowd_right:⇑2 "_law_crowd_right" ["_law_leans_here","_law_row_here","_law_wanted","_law_crowd"] (spV (aTd P w))) (c__law_none_goes:⇑2 "_law_none_goes" ["_law_leans_here","_law_row_here","_law_wanted","_law_many","_law_tape_here"] (spV (aL4 P w))) (T:Txt mg):↥18 f fd ["_law_script"] (spV (aNw K)):=by
 refine vfn F jO (λcdv A outer s H E hr=>(aC (aP (i:=1) jO.nd (aNo c__law_world (hr.mono ⋯) rfl (aJ c__law_tape (hr.mono ⋯) rfl (aB (aJ c__law_cell_at (hr.mono ⋯) rfl (aB (aA 0) (aB aH aG))) aG)) aG)) (aC (aP (i:=2) jO.nd (aJ c__law_tape (hr.mono ⋯) rfl (aB (aJ c__law_cell_at (hr.mono ⋯) rfl (aB (aA 0) (aB aH aG))) aG))) (aO3 2 (aC (aP (i:=3) jO.nd (aJ c__law_job (hr.mono ⋯) rfl (aB (aA 1) (aB (aA 2) aG)))) (aC (aP (i:=4) jO.nd (aGs (P:=P) (w:=w) rfl rfl hr rfl T.dict (gD (own:=["_law_spot"]) (cap:=[("_law_world_here",1)]) (aD vP) aNu rfl rfl (λx h=>bD h) #v[1] rfl (vic (aX (aJ c__law_spots (hr.mono ⋯) rfl (aB (aA 1) aG)))) ↑(aZ (i:=0) (~~~["_law_spot","_law_world_here"]) rfl (Dc rfl) (Dl rfl)) (bL ⋯) ↑(bZ (aB (aA 0) (aB (aJ c__law_leans (hr.mono ⋯) rfl (aB (aA 1) (aB (aA 0) aG))) aG)))))) (dU 4 (aC (bW Au rfl (aX (bT dG fB (bK (aB (aJ c__law_cell_at (hr.mono ⋯) rfl (aB (aA 0) (aB aH aG))) aG)) (aTx rfl (aA 0) (uA aH) (uA aH)))) (cI (i:=5) jO.nd) (aC (aP (i:=2) jO.nd (aJ c__law_tape (hr.mono ⋯) rfl (aB (aA 5) aG))) (aKq 2 (aC (aP (i:=6) jO.nd (bK (aB (aJ c__law_spots (hr.mono ⋯) rfl (aB (aA 1) aG)) (aB (aJ c__law_row (hr.mono ⋯) rfl (aB (aA 1) (aB (aA 2) aG))) aG)))) (dU 6 (aC (aP (i:=7) jO.nd (bH aU bG (aA 6) (aJ c__law_draw (hr.mono ⋯) rfl (aB (aA 2) (aB aH aG))))) (aC (aUj (i:=8) (own:=["_law_spot"]) (cap:=[("_law_tape_here",2)]) jO.nd (aD vP) aNu rfl rfl (λx h=>bD h) #v[1] rfl (vic (aX (aA 7))) ↑(aZ (i:=0) (~~~["_law_spot","_law_tape_here"]) rfl (Dc rfl) (Dl rfl)) (bL ⋯) ↑(bJ (dO (huD hr)) cV (aJ c__law_draw (hr.mono ⋯) rfl (aB (aA 1) (aB aH aG))) aH) ↑(aA 0)) (dU 8 (aC (aP (i:=9) jO.nd (aJ c_slots_wanted (hr.mono ⋯) rfl (aB (aA 3) (aB (aA 7) (aB (aA 8) aG))))) (aC (aP (i:=10) jO.nd (aJ c_least_room (hr.mono ⋯) rfl (aB (aA 3) (aB (aA 7) (aB (aA 8) aG))))) (dU 10 (aC (bQ (mY (pJ (bJ (kY (huD hr)) cV (aOo (@aOq P w) (P:=P) (w:=w) rfl rfl hr rfl T.sorted (aA 10)) (aF9 (@aOq _ _) hr T.sorted (aL (aA 7) aV))) (kO (cT (cQ (aJ c__law_goes (hr.mono ⋯) rfl (aB (aA 4) (aB (aA 7) (aB (aA 10) (aB (aA 8) aG)))))))))) (aF (aQ jH)) aW) (aC (bQ (bJ (kY (huD hr)) cV (aAz (own:=["_law_spot"]) (cap:=[("_law_many",9),("_law_slots",10)]) (aD vP) aNu rfl rfl (λx h=>bD h) #v[1] rfl (vic (aX (aA 7))) ↑(aZ (i:=0) (~~~["_law_spot","_law_many","_law_slots"]) rfl (Dc rfl) (Dl rfl)) (bL ⋯) ↑(cT (tH uH aCc cL cL aH (yK (P:=P) (w:=w) rfl rfl hr (aA 2) (aA 0)) (aA 1))) ↑(aA 0)) (bK aG)) (aF (aQ jH)) aW) (aC (bQ (bJ (dO (huD hr)) cV (aA 7) (bK aG)) (aF (aQ (sG (oV (dO (huD hr)) cV (aA 9) aH) (pP (aWa (aJ c_crowd_at (hr.mono ⋯) rfl (aB (aA 3) (aB (aA 7) (aB (aA 8) aG))))))))) aW) (aC (aP (i:=11) jO.nd (bH aU bG (aRm (aJ c_crowd_at (hr.mono ⋯) rfl (aB (aA 3) (aB (aA 7) (aB (aA 8) aG))))) aH)) (aC (bQ (mY (pJ (bJ (kY (huD hr)) cV (bB aR cU T.len Dq (aL (aA 11) aV)) (aA 9)) (kO (cT (cQ (aJ c__law_crowd_right (hr.mono ⋯) rfl (aB (aA 4) (aB (aA 7) (aB (aA 8) (aB (aA 11) aG)))))))))) (aF (aQ jH)) aW) (aF (bQ (cT (cQ (aJ c__law_none_goes (hr.mono ⋯) rfl (aB (aA 4) (aB (aA 7) (aB (aA 8) (aB (bT lB cL (aA 9) aH) (aB (aA 2) aG)))))))) (aF (aQ jH)) aW)))))))))))))))))) (aF (aQ jH)))))))))) ?_;rintro _ R ⟨sc,rfl,q⟩;refine⟨rfl,sc,0,rfl,λn0=>⟨n0,rfl,λa b c=>⟨rfl,λns rs ys r g=>⟨aTb,?_⟩⟩⟩⟩;refine⟨sc,1,rfl,λn1=>⟨n1,rfl,λa b c=>⟨ns,rs,ys,r,rfl,g,λt ls zs hz pw=>?_⟩⟩⟩;have cl:(qG (sc.map U.n) (some 3) (some 5)).length<=5:=by
  unfold qG;rw[Bp];have:HT.sIx (sc.map U.n).length (sc.map U.n).length (some ((5:Nat):Int))<=5:=by rw[HT.aEm];exact Nat.min_le_left ..
  have:HT.sIx (sc.map U.n).length (sc.map U.n).length (some 5)<=5:=this
  lia
 have cm:∀u∈qG (sc.map U.n) (some 3) (some 5),∃n:Int,u=.n n:=λu h=>by
  obtain⟨n,_,rfl⟩:=List.mem_map.mp (Ik (Cv h));exact⟨n,rfl⟩
 have r30:∀row:List Tk,rH ns r row->row.length<=30:=λrow ro=>by
  have h1:=ro.nd.length_le_of_subset (l₂:=spS ns r.toNat) λq hq=>(ro.me q).mp hq;have h2:(spS ns r.toNat).length=r.toNat*(uC ns).length:=by
   unfold spS;rw[List.length_flatMap];simp only[Ab];rw[List.map_const',List.sum_replicate_nat,Br]
  have h3:=aAc λn hn=>(g.gs.ok n hn).1;have h4:=g.p6;have h5:=g.r5;have:=Nat.mul_le_mul (show r.toNat<=5 by lia) (show(uC ns).length<=6 by lia)
  lia
 have jr:∀row wt:List Tk,rH ns r row->Right ns rs ys row->wt.Sublist row->JR ns rs zs r row wt:=λrow wt ro rt ws=>⟨g.gs,g.rl,⟨λy hy=>g.yg y ((hz y).mp hy),Ba (Ba ((aGp pw).length_le_of_subset λy hy=>(hz y).mp hy) g.yl) ⋯,g.gs.l3⟩,g.r0,Wi g.r5 ⋯,Ba (r30 row ro) ⋯,ro,rt.same hz,⟨ro.nd.sublist ws,λx hx=>(ro.me x).mp (ws.subset hx)⟩⟩;have s30:=r30 _ (aLi (ns:=ns) (r:=r));refine⟨ns,rs,ys,r,rfl,g,uP g.gs,λs hs=>?_⟩;subst hs;refine⟨by rw[tE,Ab];lia,?_⟩;show cO _ (spU (plU ns) r.toNat) [] _;rw[tE];refine aD3 (p:=λ_=>true) (g:=λq=> .tp [tkU q,lnU (lD ns rs ys) q]) (λq hq k h1 _=>⟨ns,rs,ys,r,q,rfl,g,(wB g.gs hq).1,h1 rfl⟩) ?_;rw[List.filter_eq_self.mpr λ_ _=>rfl];refine⟨kvU (spS ns r.toNat) (lnU (lD ns rs ys)),by unfold kvU;rw[Az];rfl,by rw[gF];exact aBc ns r.toNat,?_⟩;refine⟨sc,2,rfl,λn2=>⟨sc,rfl,by show 1+_<=10000;lia,?_⟩⟩;show eF (gR 5) _ _ ([U.n n2]++qG (sc.map U.n) (some 3) (some 5)) [.sh (.op (aC6 K sc)),.sh (wD ns rs ys r),.sh .wl,.sh (iC N CG CJ ns rs t zs 97 r ls),.sh (.op (pdO P w (kvU (spS ns r.toNat) (lnU (lD ns rs ys)))).fz),.no,.no,.no,.no,.no,.no,.no];refine bC (λl ρ=>(∀u∈l,∃n:Int,u=.n n)/\∃a b c d e x y z:Sl,ρ=[.sh (.op (aC6 K sc)),.sh (wD ns rs ys r),a,.sh (iC N CG CJ ns rs t zs 97 r ls),.sh (.op (pdO P w (kvU (spS ns r.toNat) (lnU (lD ns rs ys)))).fz),b,c,d,e,x,y,z]) ?_ ?_ ⟨λu hu=>?_,_,_,_,_,_,_,_,_,rfl⟩
 ·rintro ρ ⟨_,a,b,c,d,e,x,y,z,rfl⟩;exact⟨trivial,q⟩
 ·rintro u l ρ ⟨hl,s2,s5,s6,s7,s8,s9,s10,s11,rfl⟩ ih;obtain⟨n,rfl⟩:=hl u Ah;refine⟨n,rfl,λa b c=>⟨ns,rs,ys,r,rfl,g,uP g.gs,λs hs=>?_⟩⟩;subst hs;refine⟨ns,rs,ys,r,rfl,g,λrow1 ro1 rt1=>⟨2,rfl,⋯,⋯,λi i0 i2=>?_⟩⟩;obtain⟨u,hu,eu⟩:=sS (l:=[U.ls (spU (plU ns) r.toNat),.ls (row1.map tkU)]) i0 i2;have key:∃row:List Tk,u=.ls (row.map tkU)/\rH ns r row/\Right ns rs ys row:=by
   rcases List.mem_cons.mp hu with rfl|hu
   ·exact⟨spS ns r.toNat,by rw[tE],aLi,aKe g⟩
   ·exact⟨row1,List.mem_singleton.mp hu,ro1,rt1⟩
  obtain⟨row,rfl,ro,rt⟩:=key;have rl:=r30 row ro;refine⟨_,eu,by rw[Ab];lia,?_⟩;show cO _ (row.map tkU) [] _;refine aLf (λz hz k h1 h2=>⟨3,rfl,⋯,⋯,λi i0 i3=>⟨trivial,trivial,λ_=>h1,λ_=>h2⟩⟩) λwt ws=>?_;have j:=jr row wt ro rt ws;have o:aRn P w (spS ns r.toNat) row wt (lD ns rs ys):=aYt g ro rt rl ws;have nd:=ro.nd;have hL:∀q n,q∈row.take n->n<lsF ns rs zs row q->∃p,row[lsF ns rs zs row q]? =some p/\q∈lD ns rs ys p:=λq n hq h=>by
   obtain⟨p,a1,a2⟩:=aV4 nd hq h;exact⟨p,a1,xW.mpr ((aC8 hz).mp a2)⟩
  have gl:Goes (lD ns rs ys) (λq=>(slO (lsF ns rs zs row) wt row q:Nat)) wt row:=aGu nd (λn q hq z hm=>⟨rt n q hq z (xW.mp hm),aUu hq ((aC8 hz).mpr (xW.mp hm))⟩) o.wm;refine⟨ns,rs,t,zs,97,r,ls,row,wt,rfl,j,ns,rs,t,zs,97,r,ls,row,wt,rfl,j,?_⟩;have sm:∀q∈row,slO (lsF ns rs zs row) wt row q<mxS (lsF ns rs zs row) wt row:=λq hq=>(wG nd).mp ⟨q,hq,rfl⟩;have m30:mxS (lsF ns rs zs row) wt row<=30:=Ba aAk rl;have mx:=λne=>aPs (lst:=lsF ns rs zs row) (wt:=wt) (row:=row) nd ne;have m0:row=[]->mxS (lsF ns rs zs row) wt row=0:=λh=>by rw[h];rfl
  have c1:=λn q h=>aLu (lst:=lsF ns rs zs row) (wt:=wt) (n:=n) (q:=q) nd h;show aQf 10 [.sh (.op (aC6 K sc)),.sh (wD ns rs ys r),.sh .wl,.sh (iC N CG CJ ns rs t zs 97 r ls),.sh (.op (pdO P w (kvU (spS ns r.toNat) (lnU (lD ns rs ys)))).fz),.sh (.n n),.sh (.ls [U.ls (spU (plU ns) r.toNat),.ls (row1.map tkU)]),.sh (.ls (row.map tkU)),.sh (.ls (wt.map tkU)),.sh (.n (mxS (lsF ns rs zs row) wt row:Nat)),s10,s11] _ (.oo (pdO P w (kvU row (slU λq=>((slO (lsF ns rs zs row) wt row q:Nat):Int)))));generalize hLL:lsF ns rs zs row=L at hL gl sm m30 mx m0 c1⊢;generalize hM:mxS L wt row=M at sm m30 mx m0⊢;generalize hS:slO L wt row=S at gl sm⊢;show aQf 10 [.sh (.op (aC6 K sc)),.sh (wD ns rs ys r),.sh .wl,.sh (iC N CG CJ ns rs t zs 97 r ls),.sh (.op (pdO P w (kvU (spS ns r.toNat) (lnU (lD ns rs ys)))).fz),.sh (.n n),.sh (.ls [U.ls (spU (plU ns) r.toNat),.ls (row1.map tkU)]),.sh (.ls (row.map tkU)),.sh (.ls (wt.map tkU)),.sh (.n (M:Nat)),s10,s11] _ (.oo (pdO P w (kvU row (slU λq=>((S q:Nat):Int)))));refine⟨_,.inr (.inr rfl),by unfold kvU;rw[Ab];lia,by rw[gF];lia,λy1 p1 w1=>⟨row,rfl,nd,∅,by show row.length<64;lia,λy2 p2 w2=>?_⟩⟩;rw[gF]at p1;have ey:y1=y2:=aQ8 (p1.trans p2.symm) w1 w2;subst ey;refine⟨gM 37 _,gM 37 _,λz=>?_,λ_=>?_⟩
  ·have z:(!U.eq (.ls (y1.map tkU)) (.ls (y1.map tkU)))=true:=z;rw[aVg]at z;cases z
  refine⟨spS ns r.toNat,row,wt,lD ns rs ys,_,rfl,o.me,o.wm,∅,by have:=o.wl;lia,λb eb=>?_⟩;obtain rfl:b=true:=eb.mpr gl;refine⟨nofun,λ_=>?_⟩;refine⟨by rw[Ab];lia,?_⟩;show cO _ (row.map tkU) [] _;refine mO (p:=λ_=>false) (λy hy k h1 h2=>?_) ?_
  ·have:=sm y hy;refine⟨_,y,_,.inr (.inr rfl),rfl,lM hy,λ_=>⟨λz=>?_,λ_=>h2 rfl⟩,λz=>?_⟩
   ·have z:(!decide (((S y:Nat):Int)<(M:Nat)))=true:=z;rw[decide_eq_true ∅]at z;cases z
   ·have z:=of_decide_eq_false (show decide ((0:Int)<=((S y:Nat):Int))=false from z)
    lia
  rw[List.filter_eq_nil_iff.mpr λ_ _=>Ao];refine⟨trivial,trivial,λz=>?_,λ_=>?_⟩
  ·have z:false=true:=z;cases z
  refine⟨gM 37 _,trivial,λz=>?_,λz=>?_⟩
  ·have z:U.eq (.ls (row.map tkU)) (.ls [])=true:=z;rw[zO]at z;have e0:row=[]:=List.isEmpty_iff.mp z;have M0:=m0 e0;refine⟨trivial,trivial,λ_=>⟨ns,rs,t,zs,97,r,ls,row,wt,rfl,j,by rw[hLL,hM];lia,λn q hq=>by rw[e0]at hq;simp at hq,λ_=>⟨trivial,trivial,Rbl q #v[1]⟩⟩,λz=>?_⟩;have z:U.eq (.n (M:Nat)) (.n 0)=false:=z;rw[M0]at z;cases z
  have ne:row≠[]:=λh=>by
   have z:U.eq (.ls (row.map tkU)) (.ls [])=false:=z;rw[zO,h]at z;cases z
  refine⟨ns,rs,t,zs,97,r,ls,row,wt,rfl,j,by rw[hLL,hM];lia,λn1 q0 hq el hmin cs pm pw'=>?_,λhno=>?_⟩
  ·rw[hLL,hM]at el;rw[hLL]at pm;have cm:∀z∈cs,z∈row:=λz h=>zL hq (pm.mem_iff.mp h);have M1:1<=M:=by rw[<-el];exact Mo _
   have cle:(cs.map tkU).length=M:=by rw[Ab,pm.length_eq,el]
   refine⟨_,_,rfl,_,jA (show([U.n (n1:Nat),.ls (cs.map tkU)]:List U)[1]? =_ from rfl),trivial,trivial,λz=>?_,λ_=>?_⟩
   ·have z:(!U.eq (.n ((cs.map tkU).length:Nat)) (.n (M:Nat)))=true:=z;rw[cle,show∀n:Nat,U.eq (.n (n:Nat)) (.n (n:Nat))=true fromλn=>beq_self_eq_true _]at z;cases z
   refine⟨spS ns r.toNat,row,wt,cs,lD ns rs ys,rfl,o,pm.nodup_iff.mpr (c1 _ _ hq),cm,λa ha b hb nab sl e gg=>nab (aFx nd gg hL hq (pm.mem_iff.mp ha) (pm.mem_iff.mp hb) e),nofun,λ_=>?_⟩;refine⟨spS ns r.toNat,row,wt,lD ns rs ys,M-1,by rw[Int.ofNat_sub M1];rfl,o,∅,λsl hs gg=>?_,nofun,λ_=>?_⟩
   ·have:=aLm nd gg hL hq hs;rw[el]at this
    lia
   refine⟨λjj s hj hs=>?_,ih _ ⟨λu hu=>hl u (Af _ hu),_,_,_,_,_,_,_,_,rfl⟩⟩;match jj,hs with
   |0,rfl=>exact .inr ⟨_,rfl,λh=>h⟩
   |1,rfl=>exact .inl aTb
   |2,_=>exact absurd rfl hj
   |3,rfl=>exact .inl aT8
   |4,rfl=>exact .inr ⟨_,rfl,aSu λp hp=>by
     obtain⟨z,_,rfl⟩:=List.mem_map.mp hp;exact sY _⟩
   |5,rfl=>exact .inl trivial
   |6,rfl=>exact .inl ⟨by rw[tE];exact sY _,sY row1,trivial⟩
   |7,rfl=>exact .inl (sY _)
   |8,rfl=>exact .inl (sY _)
   |9,rfl=>exact .inl trivial
   |10,rfl=>exact .inr ⟨_,rfl,aSu λp hp=>by
     obtain⟨z,_,rfl⟩:=List.mem_map.mp hp;trivial⟩
   |11,rfl=>exact .inl (sY _)
  ·obtain⟨n1,q0,h1,h2⟩:=mx ne;exact absurd (by rw[hLL,hM];exact h2) (hno n1 q0 h1)
 ·rcases List.mem_append.mp hu with h|h
  ·exact⟨_,List.mem_singleton.mp h⟩
  ·exact cm u h
def tag:Tm->Nat
 |.num _=>0
 |.take _ _=>1
 |.bin k _ _=>if k then 3 else 2
def aC9(N:Cn):List Addr:=[N.num,N.take,N.bin false,N.bin true]
def aPd(N:Cn):∀t:Tm,(aC9 N)[tag t]? =some (cls N t)
 |.num _=>rfl
 |.take _ _=>rfl
 |.bin false _ _=>rfl
 |.bin true _ _=>rfl
def aHh{N:Cn}(nd:(aC9 N).Nodup){t u:Tm}(h:cls N t=cls N u):tag t=tag u:=by
 have h1:=aPd N t;have h2:=aPd N u;rw[h]at h1;exact(Ee (List.getElem?_eq_some_iff.mp h1).1 nd).mp (h1.trans h2.symm)
def aNj{N:Cn}(nd:(aC9 N).Nodup)(h:cls N t=N.num):∃n,t=.num n:=by
 have:=aHh nd (u:=.num 0) h;cases t with
 |num=>exact⟨_,rfl⟩
 |take=>cases this
 |bin k=>cases k<;>cases this
def aDg{N:Cn}(nd:(aC9 N).Nodup)(h:cls N t=N.take):∃b ss,t=.take b ss:=by
 have:=aHh nd (u:=.take 0 []) h;cases t with
 |num=>cases this
 |take=>exact⟨_,_,rfl⟩
 |bin k=>cases k<;>cases this
def aT7{N:Cn}(nd:(aC9 N).Nodup){k:Bool}(h:cls N t=N.bin k):∃a b,t=.bin k a b:=by
 have:=aHh nd (u:=.bin k (.num 0) (.num 0)) h;cases t with
 |num=>cases k<;>cases this
 |take=>cases k<;>cases this
 |bin j a b=>cases k<;>cases j<;>first|exact⟨a,b,rfl⟩|cases this
def knS{P:List Value->Prop}(h:us.length=n+1)(k:∀a t,t.length=n->P (a::t)):P us:=by
 cases us with
 |nil=>cases h
 |cons a t=>exact k a t (Hq h)
def kn1{P:List Value->Prop}(h:us.length=1)(k:∀a,P [a]):P us:=knS h λa t ht=>by cases t with|nil=>exact k a|cons=>cases ht
def kn2{P:List Value->Prop}(h:us.length=2)(k:∀a b,P [a,b]):P us:=knS h λa t ht=>kn1 (P:=λt=>P (a::t)) ht λb=>k a b
def kn3{P:List Value->Prop}(h:us.length=3)(k:∀a b c,P [a,b,c]):P us:=knS h λa t ht=>kn2 (P:=λt=>P (a::t)) ht λb c=>k a b c
def kn4{P:List Value->Prop}(h:us.length=4)(k:∀a b c d,P [a,b,c,d]):P us:=knS h λa t ht=>kn3 (P:=λt=>P (a::t)) ht λb c d=>k a b c d
def kn5{P:List Value->Prop}(h:us.length=5)(k:∀a b c d e,P [a,b,c,d,e]):P us:=knS h λa t ht=>kn4 (P:=λt=>P (a::t)) ht λb c d e=>k a b c d e
def kn6{P:List Value->Prop}(h:us.length=6)(k:∀a b c d e f,P [a,b,c,d,e,f]):P us:=knS h λa t ht=>kn5 (P:=λt=>P (a::t)) ht λb c d e f=>k a b c d e f
def kb1{fd:FuncData}(h:us.length=1)(k:∀a,bindArgs fd ⟨[a],[]⟩=pure (ps.zip [a])):bindArgs fd ⟨us,[]⟩=pure (ps.zip us):=kn1 (P:=λus=>bindArgs fd ⟨us,[]⟩=pure (ps.zip us)) h k
def kb2{fd:FuncData}(h:us.length=2)(k:∀a b,bindArgs fd ⟨[a,b],[]⟩=pure (ps.zip [a,b])):bindArgs fd ⟨us,[]⟩=pure (ps.zip us):=kn2 (P:=λus=>bindArgs fd ⟨us,[]⟩=pure (ps.zip us)) h k
def kb3{fd:FuncData}(h:us.length=3)(k:∀a b c,bindArgs fd ⟨[a,b,c],[]⟩=pure (ps.zip [a,b,c])):bindArgs fd ⟨us,[]⟩=pure (ps.zip us):=kn3 (P:=λus=>bindArgs fd ⟨us,[]⟩=pure (ps.zip us)) h k
def kb4{fd:FuncData}(h:us.length=4)(k:∀a b c d,bindArgs fd ⟨[a,b,c,d],[]⟩=pure (ps.zip [a,b,c,d])):bindArgs fd ⟨us,[]⟩=pure (ps.zip us):=kn4 (P:=λus=>bindArgs fd ⟨us,[]⟩=pure (ps.zip us)) h k
def kb5{fd:FuncData}(h:us.length=5)(k:∀a b c d e,bindArgs fd ⟨[a,b,c,d,e],[]⟩=pure (ps.zip [a,b,c,d,e])):bindArgs fd ⟨us,[]⟩=pure (ps.zip us):=kn5 (P:=λus=>bindArgs fd ⟨us,[]⟩=pure (ps.zip us)) h k
def kb6{fd:FuncData}(h:us.length=6)(k:∀a b c d e f,bindArgs fd ⟨[a,b,c,d,e,f],[]⟩=pure (ps.zip [a,b,c,d,e,f])):bindArgs fd ⟨us,[]⟩=pure (ps.zip us):=kn6 (P:=λus=>bindArgs fd ⟨us,[]⟩=pure (ps.zip us)) h k
abbrev GN(K:Ae)(n:Str)(f:Addr):Prop:=Oj K mainGlobals n=some (some (.ref f))
abbrev FI(K:Ae)(C:Addr)(n:Str)(f:Addr):Prop:=Dt K (.ref C) n=some (some (.ref f))
abbrev ZN(K:Ae)(n:Str):Prop:=Oj K mainGlobals n=some none
abbrev QN(K:Ae)(n:Str)(i:Int)(t:Tok):Prop:=Oj K mainGlobals n=some (some (.int i t))
structure FF(K:Ae)(x:Str)(st:Stmt)(f:Addr)(fd:FuncData):Prop where
 a:GN K x f
 F:Fun K x x st f fd
structure MF(K:Ae)(C:Addr)(x q:Str)(st:Stmt)(f:Addr)(fd:FuncData):Prop where
 m:Meth K C x f
 F:Fun K x q st f fd
structure CK(K:Ae)(C:Addr)(fs:List Str):Prop where
 c:Cls K C
 na:∀f∈fs,mG K C f
 ms:Mg K C=true
 kc:Gj K (.ref C)=true
def CK.fl{K:Ae}{C:Addr}{fs:List Str}(h:CK K C fs):Cfl K C fs:=⟨h.c,h.na⟩
def na0{K:Ae}{C:Addr}:∀f∈([]:List Str),mG K C f:=λ_ h=>nomatch h
def naS{K:Ae}{C:Addr}{x:Str}{l:List Str}(h:Dt K (.ref C) x=some none)(k:∀f∈l,mG K C f):∀f∈x::l,mG K C f:=λf hf=>(List.mem_cons.mp hf).elim (λe=>e▸h) (k f)
def mth{K:Ae}{C D f:Addr}{n:Str}(h:Meth K C n f)(g:FI K D n f):Meth K D n f:=⟨g,h.fn,h.kp⟩
def mkO{K:Ae}{C f:Addr}{fs:List Str}(h:CK K C fs)(g:Meth K C "__init__" f):Mk K C f:=⟨h.ms,g.at_,g.fn,h.kc⟩
def fb1(a:Str){st:Stmt}{f:Addr}{fd:FuncData}(F:Fun K x q st f fd)(h:∀kV doc pm an cdv ct u,bindArgs (En x q (jE st) (fX st) (aD st) .none kV doc pm an cdv ct) ⟨[u],[]⟩=pure ([a].zip [u]):=by intros;rfl):Binds K fd [a] []:=F.binds λ_ _ _ _ _ _ us hl=>kb1 hl (h _ _ _ _ _ _)
def fb2(a b:Str){st:Stmt}{f:Addr}{fd:FuncData}(F:Fun K x q st f fd)(h:∀kV doc pm an cdv ct u v,bindArgs (En x q (jE st) (fX st) (aD st) .none kV doc pm an cdv ct) ⟨[u,v],[]⟩=pure ([a,b].zip [u,v]):=by intros;rfl):Binds K fd [a,b] []:=F.binds λ_ _ _ _ _ _ us hl=>kb2 hl (h _ _ _ _ _ _)
def fb3(a b c:Str){st:Stmt}{f:Addr}{fd:FuncData}(F:Fun K x q st f fd)(h:∀kV doc pm an cdv ct u v y,bindArgs (En x q (jE st) (fX st) (aD st) .none kV doc pm an cdv ct) ⟨[u,v,y],[]⟩=pure ([a,b,c].zip [u,v,y]):=by intros;rfl):Binds K fd [a,b,c] []:=F.binds λ_ _ _ _ _ _ us hl=>kb3 hl (h _ _ _ _ _ _)
def fb4(a b c d:Str){st:Stmt}{f:Addr}{fd:FuncData}(F:Fun K x q st f fd)(h:∀kV doc pm an cdv ct u v y z,bindArgs (En x q (jE st) (fX st) (aD st) .none kV doc pm an cdv ct) ⟨[u,v,y,z],[]⟩=pure ([a,b,c,d].zip [u,v,y,z]):=by intros;rfl):Binds K fd [a,b,c,d] []:=F.binds λ_ _ _ _ _ _ us hl=>kb4 hl (h _ _ _ _ _ _)
def fb5(a b c d e:Str){st:Stmt}{f:Addr}{fd:FuncData}(F:Fun K x q st f fd)(h:∀kV doc pm an cdv ct u v y z o,bindArgs (En x q (jE st) (fX st) (aD st) .none kV doc pm an cdv ct) ⟨[u,v,y,z,o],[]⟩=pure ([a,b,c,d,e].zip [u,v,y,z,o]):=by intros;rfl):Binds K fd [a,b,c,d,e] []:=F.binds λ_ _ _ _ _ _ us hl=>kb5 hl (h _ _ _ _ _ _)
def fb6(a b c d e g:Str){st:Stmt}{f:Addr}{fd:FuncData}(F:Fun K x q st f fd)(h:∀kV doc pm an cdv ct u v y z o p,bindArgs (En x q (jE st) (fX st) (aD st) .none kV doc pm an cdv ct) ⟨[u,v,y,z,o,p],[]⟩=pure ([a,b,c,d,e,g].zip [u,v,y,z,o,p]):=by intros;rfl):Binds K fd [a,b,c,d,e,g] []:=F.binds λ_ _ _ _ _ _ us hl=>kb6 hl (h _ _ _ _ _ _)
def vX{CX:CXT}{f:Addr}{fd:FuncData}{sp:Sp}(h:∀vs H Q E,¬sp vs H Q E):bI P w K mg base CX k f fd ps sp:=
 ⟨λvs H Q E z=>absurd z (h vs H Q E),λ_ _ _ H _ _ vs Q E _ _ _ _ z=>absurd z (h vs H Q E)⟩
def aKk{f1 f2:Addr}{g1 g2:FuncData}(nd:(aC9 N).Nodup)(F1:Fun K "inner" "Term.inner" lR f1 g1)(F2:Fun K "inner" "Paired.inner" iK f2 g2)
  (cl:∀C,IsC N C->Cls K C) (c5:∀k,Cfl K (N.bin k) ["one","other"])
  (m1:Meth K N.num "inner" f1) (m2:Meth K N.take "inner" f1) (m5:∀k,Meth K (N.bin k) "inner" f2):lG P w K mg base N 1 "inner" (kZ N):=by
 refine⟨λC hC=>⟨cl C hC,?_⟩⟩;rcases hC with rfl|rfl|⟨k,rfl⟩
 ·exact⟨f1,g1,m1,aB9 F1 (λt h=>by obtain⟨n,rfl⟩:=aNj nd h;rfl),fb1 "self" F1⟩
 ·exact⟨f1,g1,m2,aB9 F1 (λt h=>by obtain⟨b,ss,rfl⟩:=aDg nd h;rfl),fb1 "self" F1⟩
 ·exact⟨f2,g2,m5 k,aJx F2 (c5 k) λt h=>aT7 nd h,fb1 "self" F2⟩
theorem aCv{f1 f2:Addr}{g1 g2:FuncData}(nd:(aC9 N).Nodup)(F1:Fun K "takes" "Term.takes" lK f1 g1)(F2:Fun K "takes" "Take.takes" lO f2 g2)(cl:∀C,IsC N C->Cls K C)(c2:Cfl K N.take ["back","steps"])
  (m1:∀C,IsC N C->C≠N.take->Meth K C "takes" f1) (m2:Meth K N.take "takes" f2) (D_inner:lG P w K mg base N 1 "inner" (kZ N)) (T:Txt mg):∀d,lG P w K mg base N (d+1) "takes" (sE N d)
 |0=>⟨λC hC=>⟨cl C hC,by
   have no:∀vs H Q E,¬spV (sE N 0 C) vs H Q E:=λvs H Q E ⟨_,_,_,_,_,_,⟨t,_,_,h,_⟩,_⟩=>absurd (aDq t) ∅;by_cases e:C=N.take
   ·subst e;exact⟨f2,g2,m2,vX no,fb1 "self" F2⟩
   ·exact⟨f1,g1,m1 C hC e,vX no,fb1 "self" F1⟩⟩⟩
 |d+1=>⟨λC hC=>⟨cl C hC,by
   by_cases e:C=N.take
   ·subst e;exact⟨f2,g2,m2,aKu F2 c2 λt h=>aDg nd h,fb1 "self" F2⟩
   ·exact⟨f1,g1,m1 C hC e,aKv F1 (λt h b ss z=>e (by rw[<-h,z];rfl)) D_inner (aCv nd F1 F2 cl c2 m1 m2 D_inner T d) T,fb1 "self" F1⟩⟩⟩
theorem aCh{f1:Addr}{g1:FuncData}(F1:Fun K "depth" "Term.depth" jC f1 g1)(cl:∀C,IsC N C->Cls K C)(m1:∀C,IsC N C->Meth K C "depth" f1)(D_inner:lG P w K mg base N 1 "inner" (kZ N))(T:Txt mg):∀d,lG P w K mg base N (d+1) "depth" (aFn N ht d)
 |0=>⟨λC hC=>⟨cl C hC,f1,g1,m1 C hC,vX (λvs H Q E ⟨_,_,_,_,_,_,⟨t,_,_,h,_⟩,_⟩=>absurd (aDq t) ∅),fb1 "self" F1⟩⟩
 |d+1=>⟨λC hC=>⟨cl C hC,f1,g1,m1 C hC,aJb F1 D_inner (aCh F1 cl m1 D_inner T d) T,fb1 "self" F1⟩⟩
theorem aB6{f1:Addr}{g1:FuncData}(F1:Fun K "parts" "Term.parts" iT f1 g1)(cl:∀C,IsC N C->Cls K C)(m1:∀C,IsC N C->Meth K C "parts" f1)(D_inner:lG P w K mg base N 1 "inner" (kZ N))(T:Txt mg):∀d,lG P w K mg base N (d+1) "parts" (aFn N rJ d)
 |0=>⟨λC hC=>⟨cl C hC,f1,g1,m1 C hC,vX (λvs H Q E ⟨_,_,_,_,_,_,⟨t,_,_,h,_⟩,_⟩=>absurd (aDq t) ∅),fb1 "self" F1⟩⟩
 |d+1=>⟨λC hC=>⟨cl C hC,f1,g1,m1 C hC,aJm F1 D_inner (aB6 F1 cl m1 D_inner T d) T,fb1 "self" F1⟩⟩
theorem aLo{f:Addr}{fd:FuncData}(F:Fun K "first_fault" "first_fault" jT f fd)(m:mg "first_fault"=some (.ref f))(D_inner:lG P w K mg base N 1 "inner" (kZ N))(D_fault:lG P w K mg base N 4 "own_fault" (uL N)):∀d,⇑(d+4) "first_fault" ["term"] (spV (fFF N d))
 |0=>⟨_,_,vX (λvs H Q E ⟨_,_,_,_,_,_,⟨t,_,h,_⟩,_⟩=>absurd (aDq t) ∅),m,F.kp,fb1 "term" F⟩
 |d+1=>⟨_,_,aXo F (aLo F m D_inner D_fault d) D_inner D_fault,m,F.kp,fb1 "term" F⟩
def aJi{f1 f2 f3:Addr}{g1 g2 g3:FuncData}(nd:(aC9 N).Nodup)(F1:Fun K "own_fault" "Term.own_fault" fY f1 g1)(F2:Fun K "own_fault" "Number.own_fault" eU f2 g2)(F3:Fun K "own_fault" "Take.own_fault" fQ f3 g3)
  (cl:∀C,IsC N C->Cls K C) (c1:Cfl K N.num ["value"]) (c2:Cfl K N.take ["back","steps"])
  (c_within:⇑2 "is_within" PW3 (spV iV)) (c_steps:⇑3 "are_steps" ["thing"] (spV aGl)) (T:Txt mg)
  (m1:Meth K N.num "own_fault" f2) (m2:Meth K N.take "own_fault" f3) (m5:∀k,Meth K (N.bin k) "own_fault" f1):lG P w K mg base N 4 "own_fault" (uL N):=by
 refine⟨λC hC=>⟨cl C hC,?_⟩⟩;rcases hC with rfl|rfl|⟨k,rfl⟩
 ·exact⟨f2,g2,m1,aJq F2 c1 (λt h=>aNj nd h) c_within T,fb1 "self" F2⟩
 ·exact⟨f3,g3,m2,aJg F3 c2 (λt h=>aDg nd h) c_within c_steps T,fb1 "self" F3⟩
 ·exact⟨f1,g1,m5 k,aKa F1,fb1 "self" F1⟩
def aX2{CR f:Addr}{fd:FuncData}{k:Nat}{m:Str}{ps:List Str}{sp:Sp}(cl:Cls K CR)(h:Meth K CR m f)(b:Binds K fd ps [])(F:↥k f fd ps sp):Dis P w K mg base CX0 k (·=CR) m ps λ_=>sp:=⟨λC hC=>by
 have hC:C=CR:=hC;subst hC;exact⟨cl,f,fd,h,F,b⟩⟩
def aU3{H:Hp}{a:Addr}{E:XK}(h:SqL K H a (ns.map V.int)):spV (aNw K) [.ref a] H (λv _=>v=.bl true) E:=
 ⟨λ_=>False,λ_=>False,[.op (aC6 K ns)],λs=>s=.sh (.b true),⟨nofun,nofun,nofun⟩,⟨_,_,rfl,⟨a,rfl,h.imp (λh=>⟨id,h⟩) λh _=> .inr h⟩,rfl⟩,⟨ns,rfl,rfl⟩,λs v H' hs _ r=>by
  subst hs;exact r.1⟩
def aTs{l:W.OpenLaw}{w:World}{K:W.Frag}{h:Heap}{mg:Str->#v[14]}{fa Cnum Ctake Cb0 Cb1 CG CJ f10 f11 f12 f13 f14 f15 f16 f17 f18 f19 f20 f21 f22 f23 f24 f25 f26 f27 f28 f29 f30 f31 f32 f33 f34 f35 f36 f37 f38 f39 f40 f41 f42 f43 f44 f45 f46 f47 f48 f49 f50 f51 f52 f53 f54 f55 f56 f57 f58 f59 f60 f61 f62 f63 f64 f65 f66 f67 f68 f69 f70 f71 f72 f73 f74 f75:Addr}{g10 g11 g12 g13 g14 g15 g16 g17 g18 g19 g20 g21 g22 g23 g24 g25 g26 g27 g28 g29 g30 g31 g32 g33 g34 g35 g36 g37 g38 g39 g40 g41 g42 g43 g44 g45 g46 g47 g48 g49 g50 g51 g52 g53 g54 g55 g56 g57 g58 g59 g60 g61 g62 g63 g64 g65 g66 g67 g68 g69 g70 g71 g72 g73 g74 g75:FuncData}{t0 t1 t2 t3 t4 t5 t6 t7 t8 t9 t10 t11 t12 t13:Tok}(X:K.In h)(G:h.Ns mainGlobals mg)(hfa:mg "law"=some (.ref fa))
  (aCnum:GN K "Number" Cnum) (aCtake:GN K "Take" Ctake) (aCb0:GN K "Added" Cb0) (aCb1:GN K "Multiplied" Cb1)
  (aCG:GN K "Grid" CG) (aCJ:GN K "Job" CJ) (F10:FF K "is_whole" vA f10 g10) (F11:FF K "is_within" sJ f11 g11)
  (F12:FF K "is_rim" zV f12 g12) (F13:FF K "product" xP f13 g13) (F14:FF K "check_lines" oN f14 g14) (F15:FF K "are_steps" nR f15 g15)
  (F16:FF K "lines_of" qU f16 g16) (F17:FF K "first_fault" jT f17 g17) (F18:FF K "check_term" qM f18 g18) (F19:FF K "is_row" vU f19 g19)
  (F20:FF K "are_rows" pO f20 g20) (F21:FF K "law" vP f21 g21) (F22:FF K "number_by_rim" lC f22 g22) (F23:FF K "mirrored" uZ f23 g23)
  (F24:FF K "with_line" rO f24 g24) (F25:FF K "leans_of" pX f25 g25) (F26:FF K "leans_by_spot" kJ f26 g26) (F27:FF K "last_use" uT f27 g27)
  (F28:FF K "are_spots" nO f28 g28) (F29:FF K "counts_in" rN f29 g29) (F30:FF K "are_wanted" qQ f30 g30) (F31:FF K "goes_right" lL f31 g31)
  (F32:FF K "check_row" rP f32 g32) (F33:FF K "is_kept" xK f33 g33) (F34:FF K "least_free" qK f34 g34) (F35:FF K "least_room" qW f35 g35)
  (F36:FF K "slots_wanted" mL f36 g36) (F37:FF K "crowd_at" pL f37 g37) (F38:FF K "_law_cell_at" mR f38 g38) (F39:FF K "_law_tape" sV f39 g39)
  (F40:FF K "_law_draw" sH f40 g40) (F41:FF K "_law_world" iU f41 g41) (F42:FF K "_law_places" jR f42 g42) (F43:FF K "_law_spots" lQ f43 g43)
  (F44:FF K "_law_there" qI f44 g44) (F45:FF K "_law_leans" qY f45 g45) (F46:FF K "_law_job" jN f46 g46) (F47:FF K "_law_row" mK f47 g47)
  (F48:FF K "_law_goes" nJ f48 g48) (F49:FF K "_law_all_ways" lE f49 g49) (F50:FF K "_law_none_goes" dD f50 g50) (F51:FF K "_law_crowd_right" cM f51 g51)
  (F52:MF K Cnum "inner" "Term.inner" lR f52 g52) (F53:MF K Cnum "takes" "Term.takes" lK f53 g53) (F54:MF K Cnum "depth" "Term.depth" jC f54 g54) (F55:MF K Cnum "parts" "Term.parts" iT f55 g55)
  (F56:MF K Cb0 "own_fault" "Term.own_fault" fY f56 g56) (F57:MF K Cnum "__init__" "Number.__init__" iY f57 g57) (F58:MF K Cnum "own_fault" "Number.own_fault" eU f58 g58) (F59:MF K Ctake "__init__" "Take.__init__" lA f59 g59)
  (F60:MF K Ctake "takes" "Take.takes" lO f60 g60) (F61:MF K Ctake "own_fault" "Take.own_fault" fQ f61 g61) (F62:MF K Cb0 "__init__" "Paired.__init__" iI f62 g62) (F63:MF K Cb0 "inner" "Paired.inner" iK f63 g63)
  (F64:MF K CG "__init__" "Grid.__init__" kW f64 g64) (F65:MF K CG "lines" "Grid.lines" qC f65 g65) (F66:MF K CG "places_many" "Grid.places_many" gW f66 g66) (F67:MF K CJ "__init__" "Job.__init__" iM f67 g67)
  (F68:MF K CJ "deep" "Job.deep" qZ f68 g68) (F69:MF K CG "beside" "Grid.beside" oM f69 g69) (F70:MF K CG "all_places" "Grid.all_places" iG f70 g70) (F71:MF K CG "has_place" "Grid.has_place" fU f71 g71)
  (F72:MF K CJ "where" "Job.where" tM f72 g72) (F73:MF K CJ "reads_of" "Job.reads_of" jD f73 g73) (F74:MF K CJ "all_spots" "Job.all_spots" gJ f74 g74) (F75:MF K CJ "is_spot" "Job.is_spot" oF f75 g75)
  (kCnum:CK K Cnum ["value"]) (kCtake:CK K Ctake ["back","steps"]) (kCb0:CK K Cb0 ["one","other"]) (kCb1:CK K Cb1 ["one","other"])
  (kCG:CK K CG ["sizes","rims"]) (kCJ:CK K CJ ["taken","grid","term","modulus","rounds","first"]) (e0:FI K Cb1 "__init__" f62) (e1:FI K Ctake "inner" f52)
  (e2:FI K Cb1 "inner" f63) (e3:FI K Cb0 "takes" f53) (e4:FI K Cb1 "takes" f53) (e5:FI K Ctake "depth" f54)
  (e6:FI K Cb0 "depth" f54) (e7:FI K Cb1 "depth" f54) (e8:FI K Ctake "parts" f55) (e9:FI K Cb0 "parts" f55)
  (e10:FI K Cb1 "parts" f55) (e11:FI K Cb1 "own_fault" f56) (nd:[Cnum,Ctake,Cb0,Cb1].Nodup) (z0:ZN K "isinstance")
  (z1:ZN K "int") (z2:ZN K "bool") (z3:ZN K "str") (z4:ZN K "tuple")
  (z5:ZN K "list") (z6:ZN K "len") (z7:ZN K "range") (z8:ZN K "enumerate")
  (z9:ZN K "max") (z10:ZN K "min") (z11:ZN K "sorted") (z12:ZN K "sum")
  (z13:ZN K "set") (z14:ZN K "all") (z15:ZN K "any") (z16:ZN K "zip")
  (z17:ZN K "abs") (z18:ZN K "dict") (q0:QN K "GREATEST_NUMBER" 1000000000000 t0) (q1:QN K "GREATEST_BACK" 3 t1)
  (q2:QN K "GREATEST_STEP" 9 t2) (q3:QN K "MOST_STEPS" 3 t3) (q4:QN K "MOST_DEPTH" 12 t4) (q5:QN K "MOST_PARTS" 60 t5)
  (q6:QN K "MOST_TAKES" 6 t6) (q7:QN K "GREATEST_MODULUS" 1000000000 t7) (q8:QN K "MOST_ROUNDS" 12 t8) (q9:QN K "MOST_SPOTS" 120 t9)
  (q10:QN K "GREATEST_FIXED" 1000000000 t10) (q11:QN K "MOST_LINES" 3 t11) (q12:QN K "GREATEST_SIZE" 9 t12) (q13:QN K "MOST_PLACES" 40 t13)
  :∃fd:FuncData,(∀(s:Shared)(v:Value),BindsTo s fd ⟨[v],[]⟩ [("_law_script",v)])/\∀base:Heap,K.In base->base.Ns mainGlobals mg->bI l.prog w K mg base CX0 18 fa fd ["_law_script"] (spV (aNw K)):=by
 have m:∀{n:Str}{f:Addr},GN K n f->mg n=some (.ref f):=λh=>Ih X G h;have mn:∀{n:Str},W.nsIn K mainGlobals n=some none->mg n=none:=λh=>W.mg_none_of X G h;have e:=hfa.symm.trans (m F21.a);cases e;have T:Txt mg:=⟨mn z0,mn z1,mn z2,mn z3,mn z4,mn z5,mn z6,mn z7,mn z8,mn z9,mn z10,mn z11,mn z12,mn z13,mn z14,mn z15,mn z16,mn z17,mn z18,⟨_,Ih X G q0⟩,⟨_,Ih X G q1⟩,⟨_,Ih X G q2⟩,⟨_,Ih X G q3⟩,⟨_,Ih X G q4⟩,⟨_,Ih X G q5⟩,⟨_,Ih X G q6⟩,⟨_,Ih X G q7⟩,⟨_,Ih X G q8⟩,⟨_,Ih X G q9⟩,⟨_,Ih X G q10⟩,⟨_,Ih X G q11⟩,⟨_,Ih X G q12⟩,⟨_,Ih X G q13⟩⟩;have F0:=F21.F;obtain⟨⟨_,_,y1,y2,y3,y4,y5,y6,_,rfl,_⟩,_⟩:=F0;refine⟨W.fnOf "law" "law" (jE vP) (fX vP) (aD vP) .none y1 y2 y3 y4 y5 y6,λs v=> .of_eq rfl,λbase _ _=>?_⟩;have cal:∀{CX:CXT}{k:Nat}{f:Addr}{fd:FuncData}{n:Str}{st:Stmt}{ps:List Str}{sp:Sp},FF K n st f fd->bI l.prog w K mg base CX k f fd ps sp->Binds K fd ps []->Cal l.prog w K mg base CX k n ps sp:=λF h b=>⟨_,_,h,m F.a,F.F.kp,b⟩;have dd:=@aX2 l.prog w K mg base;let N:Cn:=⟨Cnum,Ctake,λk=>match k with|false=>Cb0|true=>Cb1⟩;have nd:(aC9 N).Nodup:=nd;have c5:∀k,CK K (N.bin k) ["one","other"]:=λk=>by
  match k with
  |false=>exact kCb0
  |true=>exact kCb1
 have cl:∀C,IsC N C->Cls K C:=λC hC=>by
  rcases hC with rfl|rfl|⟨k,rfl⟩
  ·exact kCnum.c
  ·exact kCtake.c
  ·exact(c5 k).c
 have D_i:lG l.prog w K mg base N 1 "inner" (kZ N):=aKk nd F52.F F63.F cl (λk=>(c5 k).fl) F52.m (mth F52.m e1) (λk=>by
  match k with
  |false=>exact F63.m
  |true=>exact(mth F63.m e2))
 have D_t:=aCv (P:=l.prog) (w:=w) (base:=base) nd F53.F F60.F cl kCtake.fl (λC hC ne=>by
  rcases hC with rfl|rfl|⟨k,rfl⟩
  ·exact F53.m
  ·exact absurd rfl ne
  ·match k with
   |false=>exact(mth F53.m e3)
   |true=>exact(mth F53.m e4)) F60.m D_i T 8
 have D_d:=aCh (P:=l.prog) (w:=w) (base:=base) F54.F cl (λC hC=>by
  rcases hC with rfl|rfl|⟨k,rfl⟩
  ·exact F54.m
  ·exact(mth F54.m e5)
  ·match k with
   |false=>exact(mth F54.m e6)
   |true=>exact(mth F54.m e7)) D_i T 8
 have D_p:=aB6 (P:=l.prog) (w:=w) (base:=base) F55.F cl (λC hC=>by
  rcases hC with rfl|rfl|⟨k,rfl⟩
  ·exact F55.m
  ·exact(mth F55.m e8)
  ·match k with
   |false=>exact(mth F55.m e9)
   |true=>exact(mth F55.m e10)) D_i T 8
 have c10:=cal F10 (aPa F10.F T) (fb1 _ F10.F);have c11:=cal F11 (aJt F11.F c10) (fb3 _ _ _ F11.F);have c15:=cal F15 (aPk F15.F c11 T) (fb1 _ F15.F);have D_f:lG l.prog w K mg base N 4 "own_fault" (uL N):=aJi nd F56.F F58.F F61.F cl kCnum.fl kCtake.fl c11 c15 T F58.m F61.m (λk=>by
  match k with
  |false=>exact F56.m
  |true=>exact(mth F56.m e11))
 have c17:=aLo F17.F (m F17.a) D_i D_f 8;have c16:=cal F16 (aH8 F16.F D_t T) (fb1 _ F16.F);have c18:=cal F18 (aKj F18.F ⋯ c17 c16 D_t D_d D_p T) (fb1 _ F18.F);have M_Number:MkB l.prog w K mg base (N.num) "Number" ["value"]:=⟨⟨_,_,aM3 F57.F kCnum.fl,mkO kCnum F57.m,m aCnum,(fb2 _ _ F57.F)⟩⟩;have M_Take:MkB l.prog w K mg base (N.take) "Take" ["back","steps"]:=⟨⟨_,_,aNy F59.F kCtake.fl,mkO kCtake F59.m,m aCtake,(fb3 _ _ _ F59.F)⟩⟩;have M_Added:MkB l.prog w K mg base (N.bin false) "Added" ["one","other"]:=⟨⟨_,_,aF8 F62.F kCb0.fl,mkO kCb0 F62.m,m aCb0,(fb3 _ _ _ F62.F)⟩⟩;have M_Multiplied:MkB l.prog w K mg base (N.bin true) "Multiplied" ["one","other"]:=⟨⟨_,_,aF8 F62.F kCb1.fl,mkO kCb1 (mth F62.m e0),m aCb1,(fb3 _ _ _ F62.F)⟩⟩;have c12:=cal F12 (aL9 F12.F c11 T) (fb1 _ F12.F);have c13:=cal F13 (aP2 F13.F) (fb1 _ F13.F);have c14:=cal F14 (aPe F14.F c11 c12 T) (fb2 _ _ F14.F);have c19:=cal F19 (aPg F19.F c11 T) (fb3 _ _ _ F19.F);have c20:=cal F20 (aHb F20.F c19 T) (fb4 _ _ _ _ F20.F);have D_lines:=dd kCG.c F65.m (fb1 _ F65.F) (aM1 F65.F kCG.fl T);have D_many:=dd kCG.c F66.m (fb1 _ F66.F) (aQu F66.F kCG.fl c13);have D_deep:=dd kCJ.c F68.m (fb1 _ F68.F) (aRb F68.F ⟨kCJ.c,λf hf=>kCJ.na f (by rw[List.mem_singleton.mp hf];exact Ah)⟩ T);have M_Grid:MkU l.prog w K mg base 5 CG "Grid" ["self","sizes","rims"] aGm:=⟨⟨_,_,aN7 F64.F kCG.fl c14 c13 T,mkO kCG F64.m,m aCG,(fb3 _ _ _ F64.F)⟩⟩;have M_Job:MkU l.prog w K mg base 14 CJ "Job" ["self","grid","term","modulus","rounds","first"] (aH4 N CG):=⟨⟨_,_,aMa F67.F kCJ.fl c18 c16 c11 c20 D_t D_lines D_many D_deep T,mkO kCJ F67.m,m aCJ,(fb6 _ _ _ _ _ _ F67.F)⟩⟩;have c23:=cal F23 (aVp F23.F) (fb2 _ _ F23.F);have c22:=cal F22 (aTk F22.F c23) (fb3 _ _ _ F22.F);have D_bes:=dd kCG.c F69.m (fb3 _ _ _ F69.F) (aVt F69.F kCG.fl c22 T);have D_where:=dd kCJ.c F72.m (fb3 _ _ _ F72.F) (aNr (N:=N) F72.F kCJ.fl D_bes T);have D_reads:=dd kCJ.c F73.m (fb2 _ _ F73.F) (aMe F73.F kCJ.fl D_where T);have c25:=cal F25 (aNk F25.F D_reads T) (fb2 _ _ F25.F);have c24:=cal F24 (aP9 F24.F T) (fb2 _ _ F24.F);have D_allp:=dd kCG.c F70.m (fb1 _ F70.F) (aQv F70.F kCG.fl c24 T);have D_alls:=dd kCJ.c F74.m (fb1 _ F74.F) (aR0 (N:=N) F74.F kCJ.fl D_allp T);have c26:=cal F26 (aTj F26.F D_alls c25 T) (fb1 _ F26.F);have c27:=cal F27 (aQt F27.F c26 T) (fb2 _ _ F27.F);have D_has:=dd kCG.c F71.m (fb2 _ _ F71.F) (aTl F71.F kCG.fl c11 D_lines T);have D_isp:=dd kCJ.c F75.m (fb2 _ _ F75.F) (aK5 (N:=N) F75.F kCJ.fl c11 D_has T);have c28:=cal F28 (aOl F28.F D_isp T) (fb2 _ _ F28.F);have c30:=cal F30 (aQe F30.F c28 T) (fb2 _ _ F30.F);have c29:=cal F29 (aN4 F29.F T) (fb1 _ F29.F);have c31:=cal F31 (aQi F31.F c29 c25 T) (fb2 _ _ F31.F);have c32:=cal F32 (aU0 F32.F c30 D_alls c31 T) (fb3 _ _ _ F32.F);have c33:=cal F33 (aRs F33.F T) (fb4 _ _ _ _ F33.F);have c34:=cal F34 (aRy F34.F c33 T) (fb4 _ _ _ _ F34.F);have c35:=cal F35 (aRk F35.F c32 c27 c34 T) (fb3 _ _ _ F35.F);have c36:=cal F36 (aNz F36.F c35 T) (fb3 _ _ _ F36.F);have c37:=cal F37 (aLp F37.F c36 c27 c33 T) (fb3 _ _ _ F37.F);have c38:=cal F38 (aPy F38.F T) (fb2 _ _ F38.F);have c39:=cal F39 (aQ2 F39.F T) (fb1 _ F39.F);have c40:=cal F40 (aRw F40.F) (fb2 _ _ F40.F);have c41:=cal F41 (aOr F41.F c40 T) (fb1 _ F41.F);have c42:=cal F42 (aJ3 F42.F T) (fb1 _ F42.F);have c43:=cal F43 (aOm F43.F c42 T) (fb1 _ F43.F);have c44:=cal F44 (aOz F44.F T) (fb3 _ _ _ F44.F);have c45:=cal F45 (aJw F45.F c44 T) (fb2 _ _ F45.F);have c46:=cal F46 (aQh F46.F M_Number M_Take M_Added M_Multiplied M_Grid M_Job c40 c42 T) (fb2 _ _ F46.F);have c47:=cal F47 (aQp F47.F c40 c43 c45 T) (fb2 _ _ F47.F);have c48:=cal F48 (aMh F48.F T) (fb4 _ _ _ _ F48.F);have c49:=cal F49 (aRi F49.F T) (fb2 _ _ F49.F);have c50:=cal F50 (aOj F50.F c40 c49 c48 T) (fb5 _ _ _ _ _ F50.F);have c51:=cal F51 (aPz F51.F c48 T) (fb4 _ _ _ _ F51.F);exact aUh F21.F c38 c39 c40 c41 c46 c43 c45 c47 c35 c36 c37 c48 c51 c50 T
def aVq{l:W.OpenLaw}{q:Program}{loose:List Str}{XP:(Str->#v[14])->Heap->Prop}{YP:World->Heap->Prop}{d:DefRec}{K:Params->W.Frag}(hn:l.most=some 63)(hdf:d.params.defaults=[])
  (hY:∀(w:World)(h:Heap),YP w h->(K w.params).In h)
  (F:∀(w:World)(mg:Str->#v[14])(fa:Addr)(h:Heap),(K w.params).In h->h.Ns mainGlobals mg->mg d.name=some (.ref fa)->
   ∃fd:FuncData,(∀(s:Shared)(u:Value),BindsTo s fd ⟨[u],[]⟩ [("_law_script",u)])/\∀base:Heap,(K w.params).In base->base.Ns mainGlobals mg->bI l.prog w (K w.params) mg base CX0 18 fa fd ["_law_script"] (spV (aNw (K w.params)))):
  W.WalkO q loose XP YP l.row.toRowW d [] (λf vs=>Qw f vs):=
 L2.aQw (n:=63) (k:=18) (x:="_law_script") (CX:=λ_=>CX0) (sp:=λw=>spV (aNw (K w.params))) hn ⋯ hdf ⟨rfl,⋯,⋯⟩ hY F (λ_ _ _ _ _ _ hS=>aU3 hS) λ_ _ _ _ _ z=>z
end Q
structure PySem.W.Fast:Prop where
 (tw1941771856265521117 tw12212577393915118323 tw16980082090443614454 tw11158861015271204184 tw5220202497039364840 tw11383763829259811438 tw12483923884937085360 tw5754345687288525582 tw4131725950521080187 tw7087263793859530075 tw2251752756087155008 tw607957495341429870 tw2207618002768245810 tw9776188127383540606 tw10473654948764455666 tw5313848382730772121 tw7860851072074687912 tw17517055705154774200 tw17079861715680760063 tw17602140214060976835 tw17045328315089029392 tw5277621833264200608 tw78783787154893472 tw2852886244571802517 tw4063656999960444923 tw16035559140689184108 tw10388037015450572835 tw10398503858814869098 tw15868181752135436727 tw12601070093804988444 tw2158969908642297203 tw11136319071698486693 tw13224020176216071463 tw4960808365080534743 tw15042072322092545034 tw5460536438881567982 tw3396736602474499996 tw5056706394504733625 tw12052863943566707277 tw17895256251219383429 tw12964055447860651193 tw13330422111058889086 tw15596369194202096665 tw11643858838721378411 tw14752368404714160454 tw12206732279422649817 tw15249234789943125302 tw9190667672420470392 tw10309283053117130772 tw12025019009054750607 tw10278755670629169693 tw1166446998578268916 tw12949531037605463760 tw3460837454630891593 tw4784369403002355821 tw6205668647748719577 tw10265234543923170952 tw189956078808989662 tw12456550371158314275 tw5494336200271915893 tw9529717122313733151 tw14992733156401925539 tw4131008251426276534 tw14911962727896169634 tw3026644208465269214 tw8064784354016359573 tw1769025041395560953 tw17372691696864708997 tw15894875828084196145 tw16529342279566973825 tw13918980045556399956 tw11076603919112516643 tw470860385395795267 tw10654852813174370178 tw15004649769455061156 tw9807663283352402765 tw7192595610781384326 tw739078762864316250 tw7808625886680607895 tw16571977621813084858 tw9914264217615528827 tw18199163869530093762 tw12197466871609279108 tw2447425880722950957 tw10948279890351415433 tw8815961750777826038 tw2501026514199376704 tw9864987958268956753 tw2752607278128755830 tw4454157499911478814 tw17387648848520854572 tw17236385496920962665 tw1076848003280499855 tw1178513848471080944 tw2471283360027797197 tw13015281632655113875 tw11727241501933786541 tw10272963008728541003 tw12037241916106090323 tw13833653528802628437 tw2446166959980125465 tw1152234447907065069 tw8646118714837949273 tw9286850275637795214 tw12087291276284313539 tw2681029645777847414 tw4297001442807789702 tw13871133673945042818 tw9286407275811645706 tw14974891719102490544 tw11059529429497316205 tw13195264569571370129 tw9898126563291160928 tw5890932571874603442 tw6684229355707857263 tw13068650831863619631 tw11147126096328562272 tw3874467227861375526 tw16617533894910685890 tw933136707238333449 tw7793733443078884768 tw16790011620059218147 tw7638777500725627792 tw13292400304908689032 tw7833949730188121540 tw11208307512714576651 tw7521968624246183408 tw8594527004215703850 tw7597002382318229155 tw13923200440951663452 tw8823810793523430218 tw17300969559007158566 tw11195096091486496405 tw3111222583333927946 tw12936623071182528356 tw4365121587687217022 tw10214010125851296736 tw10276282524429389024 tw7196841028185452978 tw14364950529907806382 tw1243186595080355928 tw2991232587160711948 tw1188383538826828220 tw1456469282481462096 tw14129531256176185948 tw833131204033462722 tw15403860483242641095 tw1047946559190778654 tw2584059054333030203 tw18298021288811337013 tw664076493476099105 tw6688499337022768549 tw8784236665556136391 tw16106669892062952911 tw10154675388158533204 tw6793941948366021421 tw16661666864877185260 tw18090716146057189578 tw13749984928973002719 tw3390974964260541376 tw1000061036397262069 tw9648476656379973407 tw14487691251527618442 tw495335008042480901 tw15865893212578380051 tw16139522234129783114 tw8784874366019957803 tw7719953960662791715 tw3231306704614718656 tw7700442565617806596 tw3028532185836540991 tw12417533786431485473 tw5944725418887363010 tw17142087337546306221 tw2388810769925906803 tw13192135695597639582 tw10572761619962239277 tw8113820059152336562 tw14071069534636707836 tw6723615716105035416 tw16008570648490434879 tw6815783429304983522 tw14404148603065035758 tw13024266592901901953 tw7874848353701916321 tw2830096994252770304 tw943249143845131790 tw2715755124687789188 tw158913350216343857 tw9903221919246446438 tw9430443761725107916 tw6284789279914320592 tw110779717360395649 tw6273942734949428227 tw3998244913913777958 tw17592075795320110489 tw15516565708036756399 tw2825332863955084190 tw4100657016795638279 tw1157542504450638119 tw3919920724546722757 tw14172957908239984583 tw10177327687706288522 tw4952486350466199188 tw4828779360713112483 tw15999718632923828245 tw17259811323450486723 tw1873477060933236136 tw14116644968016365247 tw3953290554491536825 tw11297582342403198739 tw12483499831943918855 tw7262543494775913302 tw2057590020150473596 tw7146339230076111208 tw5341191971932883810 tw15617451571205314374 tw17742459645759193189 tw12504262737636591074 tw14789731339645126637 tw10285949290693593639 tw6890277273472222734 tw8757503853313678737 tw2068135453532885035 tw17227302303223197575 tw492480598372429807 tw10650495228859413982 tw6801752593253171708 tw12677015728546736588 tw15577231170712103163 tw16554893993428913095 tw7080180867346779181 tw7379435469526205014 tw10497455312141097654 tw13867244300637412829 tw412538089345725133 tw1310022040255478839 tw15806739422278834016 tw16707374180274695758 tw14320956443510748105 tw3973115217781915701 tw3904537004211790123 tw14053856380804621046 tw7821887945521546824 tw10243314355410037054 tw9149992056813175678 tw15484055353812973307 tw16627672887556615237 tw11708582784375851556 tw17831876123281839013 tw9783732354467605905 tw17308226807922636034 tw9062526972024779423 tw15552487454187705034 tw17940914955014079232 tw13193275930890253473 tw17622757749663388791 tw8502815865144116806 tw8176766254036892647 tw3004082437476382446 tw15455433807132989428 tw15226041511734060025 tw2841932696281118529 tw4348622557243018390 tw486646356952637782 tw15582825647276508656 tw9026856586070597759 tw14815368908744556504 tw11293308034666973522 tw13184429322272744332 tw4115240206278338344 tw10576571078881404802 tw4979612445104292363 tw18266443992008900149 tw11085111308647020412 tw10456971929768949005 tw16289825912272058521 tw10385532129795360856 tw11496616024448520150 tw609967410356461570 tw17366251032690746626 tw16972847375925321873 tw9918560233185250071 tw8819917750040086253 tw5103230414613949548 tw10033101905305411661 tw8594277223119189068 tw4274408331829777783 tw12796788996681332826 tw304052422896995350 tw6729285306069639754 tw2426310852844912858 tw15254828161262965752 tw7064137321708091412 tw9194169055281256254 tw3145735114662191859 tw3100193239671688017 tw16767811500223288259 tw15232331995309038275 tw4575050553671556277 tw12316657278792590074 tw7860814973464974730 tw15196204379788688175 tw5976774315627135964 tw17105392469292753474 tw12646677859789339488 tw13026299726553024529 tw2593070108449987741 tw5213677061984398071 tw3926190900931946222 tw16277878120375351151 tw16862153708787306036 tw13996460784043323480 tw2621577633471567438 tw11526610750835431123 tw11308523645109955205 tw3468064851087946835 tw18343191063504411442 tw8302468183419567127 tw6375472656384909927 tw5741118637316480538 tw14747856175041780391 tw6905393368757467028 tw1711061935312219236 tw6852335907168380087 tw7532774618684189716 tw12487052179728866012 tw9539803801784365460 tw16978051821734825526 tw2399666548132286394 tw9281533991359719809 tw10528667045855137312 tw10515045598249235369 tw5615394965427828589 tw9162356415793384688 tw4142826306670764339 tw3503555694326568776 tw16192411732896150629 tw155174423286869409 tw8541523911058083207 tw8395964989679156446 tw521635805044034613 tw6556149781388952257 tw216715525511522540 tw1400167016985234008 tw14810429064408184156 tw9548776519742112469 tw8723830492867713081 tw1051250581969533530 tw6870564938796608625 tw16395682205330883596 tw7244698237076215718 tw15359523531691583378 tw8276827393771274715 tw11147134196302059058 tw13655612820280176652 tw6490656268981770994 tw4522210796466971179 tw8203372213140886918 tw13429395181774345318 tw6441298787522370673 tw9867672300239187969 tw2028854922567862214 tw15244200849563349206 tw9252599731830494638 tw2583590930832339755 tw10396803092969694221 tw1527715400089001597 tw17354139989991343632 tw7299437763646331994 tw11197660605369578186 tw13656146806296214640 tw13384883020153126714 tw11493298739014905063 tw11322387352098412362 tw201141053026434118 tw3096659431758680688 tw5765339568093022279 tw6717517640394147811 tw8064590216159636916 tw10145796142662181282 tw9108766982449931084 tw3419826776109479771 tw15019046094325969375 tw14495444887271009889 tw2292585284817695494 tw9408642856624913665 tw407775738204712195 tw158563262261492290 tw15746089503326854696 tw16164951381581390676 tw13816348035901859397 tw998427390568901536 tw6989909539997255939 tw539312364277820023 tw10016993766583505118 tw17080046364693923435 tw17976494822914051405 tw7928917072880032171 tw17729666013499985947 tw2669915333818843630 tw6907741345526641790 tw4681470715573121855 tw1742198516051751447 tw7361937573086426903 tw2174338783855891128 tw1002436954880614176 tw9806612326863695523 tw8099446963011560581 tw7218733841142973063 tw5372171427138337153 tw4931824487075937408 tw3022369902938190870 tw108977647464836990 tw7747355535586820689 tw4888707689054911609 tw3330255540462530657 tw2825626582675914237 tw16353430534316448114 tw1409491707259250280 tw13263032173275163742 tw7358035727748113935 tw458023949232315616 tw8284732320138306762 tw4892618527184837272 tw10687888684700083741 tw9873067854924762842 tw9695715739171629665 tw967277484130679614 tw14745606238650524189 tw12611059707451271207:True)
open PySem PySem.W PyProof.Rows
set_option maxRecDepth 100000 in
set_option maxHeartbeats 0 in
theorem PySem.Challenge.cw_slanttiles_k68_whole_none_does_with_fewe_holds : PySem.Challenge.rw_slanttiles_k68_whole_none_does_with_fewe.Holds := by
  w_on; o_law; k_head; (case hw => w_witness2)
  k_fill
  refine Q.aVq (l := PySem.Challenge.rw_slanttiles_k68_whole_none_does_with_fewe) rfl rfl (fun w h Y => PySem.W.kIn_of Y) ?F
  case F =>
    intro w mg fa h KY G hmg
    apply Q.aTs KY G hmg
    case aCnum | aCtake | aCb0 | aCb1 | aCG | aCJ | e0 | e1 | e2 | e3 | e4 | e5 | e6 | e7 | e8 | e9 | e10 | e11 | z0 | z1 | z2 | z3 | z4 | z5 | z6 | z7 | z8 | z9 | z10 | z11 | z12 | z13 | z14 | z15 | z16 | z17 | z18 | q0 | q1 | q2 | q3 | q4 | q5 | q6 | q7 | q8 | q9 | q10 | q11 | q12 | q13 => change _ = _; k_is
    case F52 | F53 | F54 | F55 | F56 | F57 | F58 | F59 | F60 | F61 | F62 | F63 | F64 | F65 | F66 | F67 | F68 | F69 | F70 | F71 | F72 | F73 | F74 | F75 => exact ⟨⟨by k_is, by k_is, by k_is⟩, L2.aN8 (by k_is) (by k_is) (by k_is)⟩
    case kCnum => exact ⟨⟨by k_is, by k_is, by k_is, by k_is⟩, Q.naS (by k_is) Q.na0, by k_is, by k_is⟩
    case kCtake | kCb0 | kCb1 | kCG => exact ⟨⟨by k_is, by k_is, by k_is, by k_is⟩, Q.naS (by k_is) (Q.naS (by k_is) Q.na0), by k_is, by k_is⟩
    case kCJ => exact ⟨⟨by k_is, by k_is, by k_is, by k_is⟩, Q.naS (by k_is) (Q.naS (by k_is) (Q.naS (by k_is) (Q.naS (by k_is) (Q.naS (by k_is) (Q.naS (by k_is) Q.na0))))), by k_is, by k_is⟩
    case nd => decide
    case F10 | F11 | F12 | F13 | F14 | F15 | F16 | F17 | F18 | F19 | F20 | F21 | F22 | F23 | F24 | F25 | F26 | F27 | F28 | F29 | F30 | F31 | F32 | F33 | F34 | F35 | F36 | F37 | F38 | F39 | F40 | F41 | F42 | F43 | F44 | F45 | F46 | F47 | F48 | F49 | F50 | F51 => exact ⟨by change _ = _; k_is, L2.aN8 (by k_is) (by k_is) (by k_is)⟩


