import PyProof.Rows.All
import Wide.All
import OpenK.AllK
import Wide.FinOn
import Lean
import PyProof.EqAt
import PyProof.EqKinds
import PyProof.TupleCall
import PySem.Challenge.RW_slanttiles_k34_where_spots_are_used_last
open PySem renaming wpAny_bind->Aa,wpAny_pure->Ad,wpAny_holding->Bp,wpAny_dictEntries->Bw,wpAny_newObj_type->Bz,wpAny_call_entry->Ca,wpAny_truthy_bool->Ck,sizeLine_eq->Cp,wpAny_forIn_list->Cr,codeAny_builtin->Cz,wpAny_specialOf->Dh,mem_of_lookup->Dl,wpAny_isInstance->Dm,wpAny_setState_of->Dt,wpAny_mono->Du,boot_len->Dw,plainId_quiet->Ee,wpAny_dictEpoch->Fd,wpAny_typeNameOfWhole_keyiter->Fj,wpAny_seqItems->Fm,wpAny_passesOwn->Gc,wpAny_notOrdered_dict->Gd,wpAny_typeNameOf_keyiter->Gv,wpAny_tupleItemsOf->Ha,wpAny_callSpecial?_slot->Hb,wpAny_Call_Name_kw->Hc,wpAny_typeOf->Ht,isSubtype_tuple_tuple->Hu,codeAny_mono->Hv,wpAny_askSetting->Ib,wpAny_updateSeq->Il,wpAny_richCompare_same_room->Im,wpAny_setField->Jb,wpAny_rule->Jl,wpAny_pyIter_list->Jm,wpAny_eqBool_int->Jz,wpAny_execs_nil->Kk,size_of_entries->Kl,putSet_of->Km,wpAny_letGo->Lh,wpAny_standAt->Mc,wpAny_newList->Md,wpAny_storeSet_of->Mv,wpAny_pyIter_slot->Mw,wpAny_load->Mx,boot_len->Nb,noFill_tuple_add->Nz,wpAny_of_eq->Ot,Within->Ox,wpAny_tryCatch->Pi,wpAny_runValue->Pk,wpAny_fieldsOf->Pl,isSubtype_type->Pp,wpAny_getItem_list_slice->Qd,wpAny_comprehension_free->Qe,wpAny_call->Qf,intKind_is->Qg,wpAny_attempt->Ql,seq_tuple_add->Qn,nums_intItems->Qo,numAt_eq->Qp,evalPart_none->Qr,call->Qs,wpAny_Call_method_late->Ra,wpAny_Assign_Subscript->Rc,wpAny_isTrue_Compare1->Rp,wpAny_isOneOf_keyiter->Rq,seqIndex_neg->Rr,concat_meets->Rv,builtinLookup_eq_fast->Rw,codeAny_call_builtin->Sm,wpAny_setEntries_of->Ss,wpAny_field->Su,wpAny_dictFind_heap->Sv,seqIndex_of->Sw,intItems_at->Sz,wpAny_setItem_heap->Tt,wpAny_getItem_heap->Tu,tupleKind_room_in1->Tv,wpAny_pyIter_enum->Ul,wpAny_assign_Name->Um,wpAny_Name->Uo,typeIs_str->Up,eqIsQuiet_byValue->Uq,call_meets->Ur,wpAny_execs_cons->Vn,typeLookup_type->Xf,codeAny_of_tree->Xg
open List renaming length_map->Ab,mem_cons_of_mem->Ae,mem_cons_self->Af,length_append->Ag,length_cons->Ah,getElem?_eq_getElem->Aj,size_toArray->Ak,map_cons->Au,getElem?_map->Ax,mem_of_getElem? ->Ba,map_append->Bb,drop_eq_getElem_cons->Bd,length_nil->Be,append_nil->Bf,map_map->Bh,append_assoc->Bi,length->Bj,mem_append_right->Bm,lookup_cons->Bq,range->Br,length_take->Bu,length_set->Cm,getElem?_eq_none->Co,length_range->Da,map_nil->Dg,pairwise_map->Dn,any_cons->Do,getElem_mem->Dz,getElem?_replicate->Ea,nil_append->Ec,foldl_cons->Ed,getElem?_append_right->Eh,not_mem_nil->Ei,length_drop->Ej,length_replicate->Em,getElem?_append_left->Ep,find?_cons->Ew,mem_cons->Fc,take_length->Fe,lookup->Fp,length_singleton->Fq,sum_cons->Fy,range_eq_range'->Ga,mem_append_left->Gb,range'_succ->Gh,filterMap_cons->Gk,zip_cons_cons->Gr,mem_singleton->Gs,eraseIdx_cons_succ->Gu,take_of_length_le->Gw,drop_of_length_le->Gx,getElem?_inj->Gy,nodup_nil->Hg,drop_zero->Hh,take_append_drop->Hl,drop_append_of_le_length->Hn,getElem?_append->Ho,sum_append->Hx,of_mem_zip->Hy,map_congr_left->Hz,getElem_of_mem->Ia,reverse_cons->Iv,range'->Iz,pairwise_singleton->Ja,nodup_range->Jd,getElem_inj->Je,pairwise_lt_range->Jk,getElem?_toArray->Jq,mem_of_mem_take->Ka,mem_of_mem_drop->Kb,take_succ->Kd,replicate->Ke,drop_drop->Kf,getElem?_range->Kh,getD->Kv,all_cons->Kw,take_add_one->Lc,getElem?_set->Ld,flatMap_cons->Le,ext_getElem? ->Lf,drop_length->Ly,zip_append->Mm,nodup_cons->Mn,mem_append->Mo,length_zip->Mp,forIn_cons->Mq,pairwise_iff_getElem->Nt,mem_of_find?_eq_some->Nu,range_succ_eq_map->Pb,getElem?_set_self->Pc,pairwise_flatMap->Pf,length_eraseIdx->Qb,getElem?_set_ne->Qc,getElem_zipIdx->Qk,map_filterMap->Qv,length_zipIdx->Qw,getElem?_take->Qx,take_sublist->Rj,nodup_append->Rk,foldl_append->Rm,Nodup->Rn,perm_middle->Sa,getElem_map->Sb,flatMap_nil->Sd,any_eq_true->Se,find?_some->Sq,take_left->Th,forIn_nil->Ti,elem_cons->Tj,drop_left->Tn,take_nil->Ud,toArray->Vd,sum_nil->Ve,map_id->Ws
open PySem.W renaming Frag->Ac,kia_one->Ct,findIn->Dd,emptyDict->Di,fnOf->Eg,instObj->Er,mg_of->Fl,keepIn->Fz,plainGet->Iu,lookIn->Jo,plainGet_of->Js,callWith_K->Kc,methodObj->Ko,kitx_dict->Kq,hasDictIn->Kr,takerIn->Li,makesIn->Lj,kitOne->Me,codeIn->Mf,cellsFrom_some->Np,nsIn->Od,methodCall_KW->Oe,isFn->Of,plainOver->Pw,kitx_list->Px,handedIn->Qj,KdlSrc->Rh
open PySem.Heap renaming get?_push_of_some->Ai,get?_push_size->Ap,lt_size->Ar,get?_update_self->Bn,SameBut->Cg,get?_update_other->Ci,size_push->Dp,ExtBut->Wt
open Bool renaming false_ne_true->Al,false_eq_true->Cu,and_eq_true->Ek,eq_iff_iff->Ex,and_false->Gg,not_false->Hj,false_and->Ik,not_true->Kx,true_and->Oo,and_true->Ui,and_self->Uj
open Nat renaming le_refl->Am,zero_le->Ay,ne_of_lt->Az,lt_of_lt_of_le->Bg,le_trans->Cc,not_lt_zero->Df,lt_irrefl->Ds,lt_succ_self->El,le_of_lt->En,lt_succ_of_lt->Ey,eq_zero_or_pos->Fh,lt_or_ge->Gm,le_succ->He,zero_add->Ii,ne_of_gt->Ij,le_max_right->Ji,le_add_right->Jj,sub_zero->Jw,le_max_left->Jx,lt_of_le_of_lt->Ky,succ_le_of_lt->Ll,mod_lt->Lm,lt_trichotomy->Lo,toDigits->Lw,lt_trans->Lx,succ_le_succ->Mg,strongRecOn->Nh,toDigits_of_lt_base->Oz,digitChar->Pa,lt_of_succ_lt_succ->Pd,le_of_succ_le_succ->Pe,succ_pos->Pz,testBit_two_pow->Qt,add_le_add_left->Qu,one_shiftLeft->Rz,min_eq_right->So,min_eq_left->Te,beq->Tf,testBit_or->Ub,shiftRight->Uc,succ_mul->Wm,succ_add->Wn,sub_self->Wo,pow_succ->Wp,min_self->Wq,le_of_eq->Wr,log2_lt->Xi
open PySem.Value renaming ref->An,none->Ce,int->Cv,isInt_shape->Dk,bool->Gj,type->Hq,isInt->Iw,str->Kn,float->Pr,isStrOf->Td,bytes->Ut
open Array renaming length_toList->Ao,getElem?_eq_getElem->Bc,getElem?_toList->Bl,forIn_toList->Dv,getD->Eu,getElem?_eq_none->Oq,replicate->Sk,size_map->Sr,isEmpty->Ts,toList->Uk
open PySem.Str renaming ofString->As
open PySem.PassesOwn renaming never->Aw
open Option.some renaming inj->Bk
open PySem.Heap.SameBut renaming update->Bo,trans->Nk,refl->Ny
open List.cons renaming inj->Bs
open PyProof.Rows.F renaming plain_set_update_loop->Bt,entry_set_update_loop->Dq
open PySem.SetTable renaming below->By,sizeAbove->Dc,insertAt->Gq,turns->Jn,tooFull->Pt,fits->Rf,fill->Rg
open PySem.Around renaming under_plainId->Cb,under->Os
open PySem.Builtin.Tuple renaming tupleHashOf->Cd,tupleExact->Ft,tupleItemsOf->Ki
open PySem.Builtin.Str renaming strSliceIndices->Cj,occurrences->Lu,tooLong->Nm,glued->Xm
open Sum renaming inr->Cq,inl->Na
open Or renaming inl->Cw,inr->Eb
open Ne renaming symm->Cy
open PySem.F renaming plainAttrs_list->De,slot_dict_keyiterator_next->Fs,type_list_append->Ge,slot_list_append->Gf,plain_max_loop->Gp,args_tuple_add_2->Ig,entry_tuple_add->Iq,slot_tuple_add->Iy,sub_dict_dict->Jc,slot_dict_update->Mj,args_dict_keyiterator_next_1->Mr,slot_dict_clear->Nd,plain_list_iadd->Nf,plainAttrs_dict->Ng,entry_dict_keyiterator_next->Nl,plainAttrs_str->Nq,type_list_pop->Og,slot_list_pop->Oh,slot_dict_get->Oi,slot_dict_ne->Om,slot_tuple_hash->Tp,plain_list_iadd->Tq,slot_dict_iter->Ug,entry_max_loop->Uh,slot_tuple_eq->Vg,slot_set_iter->Vh,plain_set_new->Vi
open PySem.NameKind renaming free->Dj,cell->Hk
open True renaming intro->Dx
open PySem.Obj renaming mapSeq->Dy,data_mapFields->Fg,putSet->Hd,data_mapDictKeys->Hr,mapDictKeys->Ju,isFreed_of_fields->Jv,isFreed_of_dict->Ks,cls_mapFields->Lk,mapFields->Oy,data_mapDict->Sn
open PySem.SetTable.layClean renaming free->Ef
open Int renaming emod_lt_of_pos->Eo,emod_nonneg->Fx,le_trans->Gn,toNat_natCast->Hi,mul_nonneg->Ir,eq_ofNat_of_zero_le->Jf,natCast_add->Jy,emod->Kz,emod_eq_of_lt->Lr,zero_add->Lz,mul_le_mul_of_nonneg_right->Ma,mul_le_mul_of_nonneg_left->Mh,le_refl->Nj,fdiv_eq_ediv_of_nonneg->Nv,add_mul_emod_self_left->Nx,add_mul->Qy,ofNat->To,mul_le_mul->Ue,negSucc->Xj,mul_one->Xk
open Nat.succ renaming inj->Es
open False renaming elim->Et
open Std.Legacy.Range renaming forIn_eq_forIn_range'->Ez
open PyProof.Rows renaming callWith_type1->Fb,boot_list->Io,slot_tuple_getitem->Jp,lt_int->Ml,boot_tuple->Mz,boot_str->Oj,boot_isinstance->Ou,sortedHeap_old->Pn,signs_ofString->Po,args_list_sort->Pq,Subscript_->Qh,sortedHeap_at->Qm,listUpdate_at->Qq,Constant_none->Qz,subscriptTail_builtinR->Re,plain_sorted->Rt,entry_sorted->Ru,args_sorted1->Rx,seqEpoch_at->Sx,kind_sorted->Sy,boot_sorted->Tc,boot_int->Tw,callWith_kw->Wi,callWith_builtin1->Wj
open PySem.Builtin.Slice renaming slicePlaces->Ff,sliceAdjust->Hm,sliceApplied->Kj,slicePartIndex->Vk,sliceFields->Vl
open List.Perm renaming refl->Fu,swap->Lq,append_left->Ni
open ForInStep renaming yield->Gi
open PySem.Builtin.List renaming listExtendWith->Gz,listTooLong->Hs,listSameRef->La,listTouch->Wx,listLengthHint->Wy
open Classical renaming byContradiction->Hw
open PySem.SetTable.probe renaming go->Ic
open PySem.Builtin.Dict renaming samePairs->Ie,updateFrom->Lg,showsAll->Mb,selfAndRest->Wz,readDirectly->Xa,noArgs->Xb,mergeDict->Xc,merge->Xd,dictSlotNone->Xe
open PySem.Calls renaming call_function_entry->Ih,callWith_builtin->Jg,Name_function_global->Mu,evalArgs_plain->Ph
open PySem.SeqAt renaming EqAt->Ip,notIn_tupleAt->Pu,notIn_listAt->Qi,RcNeAt->Tz,RcAt->Vq
open PySem.Builtin.Dict_items renaming ownsTuple->Jh
open PySem.Builtin.Builtins renaming bindParams->Jr
open PySem.StrLaws renaming seqIndex_nonneg->Jt
open PySem.Shared renaming TypeIs->Kg
open PySem.NumText renaming digitsVal->Kt,AllDigits->Py
open PySem.SeqAt.EqAt renaming same->Ku,str_int->Oa,of_refs->Ob,int_str->Oc
open Option renaming getD_none->Lb,map_some->Ri,or->Wk
open Iff renaming rfl->Ls
open PySem.SetTable.below renaming go->Lv
open PySem.Heap.IsSliceOf renaming new->Mi
open PySem.pickOrder renaming go->My
open PySem.Walks renaming list->Nn
open PySem.Paired renaming length->Nr,snoc->Ua
open PySem.SeqAt.RcAt renaming tuples->Ol,lists->Ow
open Prod renaming ext->On
open Sum.inr renaming inj->Ov
open PySem.Code renaming isFrame->Pg,frames->Ww
open PySem.Moved renaming trans->Qa
open Except renaming ok->Ro
open PySem.W.KIN renaming signs_num->Ry
open PyProof.Rows.IsTup renaming new->Sf
open PySem.Builtin.Frozenset renaming updateFrom->Sg,slot0->Sh,sizeOf->Si,newClass->Sj
open PySem.Txt renaming startswith->Tx
open PySem.W.WShape renaming has->Us
open PySem.W.Looks renaming here->Uu
open PySem.EqMixed renaming ne_str_int->Uv,ne_str_bool->Uw,ne_int_str->Ux,ne_bool_str->Uy,eq_str_int->Uz,eq_str_bool->Va,eq_int_str->Vb,eq_bool_str->Vc
open List.Pairwise renaming nil->Vf
open PySem.CmpOp renaming NotIn->Vj
open PySem.Builtin.Range renaming rangeSize->Vm
open PySem.SeqAt.RcNeAt renaming tuples->Vo,lists->Vp
open PySem.Within renaming cons->Vr
open PySem.EqNone renaming ne_str_none->Vs,ne_none_str->Vt,ne_none_none->Vu,ne_none_int->Vv,ne_none_bool->Vw,ne_int_none->Vx,ne_bool_none->Vy,eq_str_none->Vz,eq_none_str->Wa,eq_none_none->Wb,eq_none_int->Wc,eq_none_bool->We,eq_int_none->Wg,eq_bool_none->Wh
open PySem.Heap.DictOfH renaming new->Wu
open PySem.Data renaming fields->Wv
open PySem.W.WData renaming int->Xh
open PySem.Heap.DictOf renaming new->Xl
set_option compiler.extract_closed false
set_option bootstrap.genMatcherCode false
set_option genSizeOf false
local macro_rules| `(tactic|trivial)=> `(tactic|first|exact Cw rfl|exact Eb (Cw rfl)|exact Eb (Eb rfl)|exact Eb rfl)
local macro_rules| `(tactic|ac_rfl)=> `(tactic|simp only[Kx,Cu,if_false])
local macro_rules|`(∅)=>`(by lia)
local macro_rules|`(⋯)=>`(by decide)
set_option Elab.async false
set_option linter.all false
set_option maxRecDepth 100000
namespace L2
variable {E:Value->Shared->Prop}{Q:Value->Shared->Prop}{u:Value}{us:List Value}{mg:Str->Option Value}{kw:List (Str×Value)}{t':Nat}{base:Heap}{k:Nat}{b:Addr}{pos:Pos}{body:List Stmt}{mA:Str->Option Value}{ch:List Addr}{A:Around}{fp:List Addr}{i:Nat}{fd:FuncData}{ps:List Str}{tg:Expr}{g':Array GenState}{g:Int->Int->Int}{es:List Expr}
open PySem PySem.Spec PyProof.Rows
abbrev Key:=Sum Int Str
def aC3:Key->Value->Bool
 |.inl k,v=>Iw k v
 |.inr x,v=>Td x v
def bBe(w:World):Key->Int
 |.inl k=>hashInt k
 |.inr x=>hashStr w x
def dR:∀{k:Key}{v:Value},aC3 k v=true->(∃i t,k=Na i/\v=Cv i t)∨(∃x t,k=Cq x/\v=Kn x t)
 |.inl i,v,h=>by
  obtain⟨t,e⟩:=Dk (k:=i) (v:=v) h;exact .inl ⟨i,t,rfl,e⟩
 |.inr x,v,h=>by
  obtain⟨t,e⟩:=Value.isStrOf_shape (x:=x) (v:=v) h;exact .inr ⟨x,t,rfl,e⟩
def aK3(i:Int)(t:Tok):aC3 (.inl i) (.int i t)=true:=by simp[aC3,Iw]
def aKw(x:Str)(t:Tok):aC3 (.inr x) (.str x t)=true:=by simp[aC3,Td]
def aXf(a b:Int):decide ((Na a:Key)=Na b)=(a==b):=by
 by_cases e:a=b
 ·subst e;simp
 ·have h:¬(Na a:Key)=Na b:=λq=>e (Sum.inl.inj q);rw[decide_eq_false h];exact(beq_eq_false_iff_ne.mpr e).symm
def aXs(a b:Str):decide ((Cq a:Key)=Cq b)=decide (a=b):=by
 by_cases e:a=b
 ·subst e;simp
 ·have h:¬(Cq a:Key)=Cq b:=λq=>e (Ov q);rw[decide_eq_false h,decide_eq_false e]
def aWt(a:Int)(b:Str):decide ((Na a:Key)=Cq b)=false:=decide_eq_false (λq=>nomatch q)
def aV8(a:Str)(b:Int):decide ((Cq a:Key)=Na b)=false:=decide_eq_false (λq=>nomatch q)
def eZ(prog:Program)(w:World):PySem.KeyKind prog w Key where
 is:=aC3
 hash:=bBe w
 inj:=λv a b ha hb=>by
  rcases dR ha with ⟨i,t,rfl,rfl⟩|⟨x,t,rfl,rfl⟩
  ·rcases dR hb with ⟨j,u,rfl,e⟩|⟨y,u,rfl,e⟩
   ·injection e with e1 _;rw[e1]
   ·exact nomatch e
  ·rcases dR hb with ⟨j,u,rfl,e⟩|⟨y,u,rfl,e⟩
   ·exact nomatch e
   ·injection e with e1 _;rw[e1]
 byValue:=λk v h=>by
  rcases dR h with ⟨i,t,rfl,rfl⟩|⟨x,t,rfl,rfl⟩<;>rfl
 pyHash:=λhv h=>by
  rcases dR hv with ⟨i,t,rfl,rfl⟩|⟨x,t,rfl,rfl⟩
  ·exact wpAny_pyHash_int h
  ·exact wpAny_pyHash_str h
 eqBool:=λhu hv h=>by
  rcases dR hu with ⟨i,t,rfl,rfl⟩|⟨x,t,rfl,rfl⟩
  ·rcases dR hv with ⟨j,u,rfl,rfl⟩|⟨y,u,rfl,rfl⟩
   ·rw[aXf]at h;exact Jz h
   ·rw[aWt]at h;exact Oc i t y u _ _ _ _ h
  ·rcases dR hv with ⟨j,u,rfl,rfl⟩|⟨y,u,rfl,rfl⟩
   ·rw[aV8]at h;exact Oa x t j u _ _ _ _ h
   ·rw[aXs]at h;exact wpAny_eqBool_str h
 «strs»:=λk x t v h=>by
  rcases dR h with ⟨i,u,rfl,e⟩|⟨y,u,rfl,e⟩
  ·exact nomatch e
  ·injection e with e1 _
   subst e1;cases v<;>rfl
def aGt(prog:Program)(w:World)(i:Int)(t:Tok):(eZ prog w).is (.inl i) (.int i t)=true:=aK3 i t
def aF1(prog:Program)(w:World)(x:Str)(t:Tok):(eZ prog w).is (.inr x) (.str x t)=true:=aKw x t
inductive V where
 |non|bl (b:Bool)|int (i:Int)|str (x:Str)|byt (b:Array UInt8)|flt (b:UInt64)|ref (a:Addr)|ty (n:String)
 deriving DecidableEq
def RelV:V->Value->Prop
 |.non,u=>u=Ce
 |.bl b,u=>u=Gj b
 |.int i,u=>∃t,u=Cv i t
 |.str x,u=>∃t,u=Kn x t
 |.byt b,u=>∃t,u=Ut b t
 |.flt b,u=>∃t,u=Pr b t
 |.ref a,u=>u=An a
 |.ty n,u=>u=Hq n
abbrev Vals:List V->List Value->Prop:=Paired RelV
def Vals.length{xs:List V}(r:Vals xs us):xs.length=us.length:=Nr r
def Vals.get:∀{xs:List V}{us:List Value}{i:Nat}{x:V},Vals xs us->xs[i]? =some x->∃u,us[i]? =some u/\RelV x u
 |_,_,_,_,.nil,e=>by simp at e
 |_,_,0,_,.cons r _,e=>by simp at e;subst e;exact⟨_,rfl,r⟩
 |_,_,i+1,x,.cons _ t,e=>by
  obtain⟨u,h1,h2⟩:=Vals.get (i:=i) (x:=x) t (by simpa using e);exact⟨u,by simpa using h1,h2⟩
def Vals.set{x:V}(r:RelV x u):∀{xs:List V}{us:List Value}(i:Nat),Vals xs us->Vals (xs.set i x) (us.set i u)
 |_,_,_,.nil=> .nil
 |_,_,0,.cons _ t=> .cons r t
 |_,_,i+1,.cons q t=> .cons q (Vals.set r i t)
def Vals.append:∀{xs ys:List V}{us ws:List Value},Vals xs us->Vals ys ws->Vals (xs++ys) (us++ws)
 |_,_,_,_,.nil,s=>s
 |_,_,_,_,.cons r t,s=> .cons r (Vals.append t s)
def Vals.take:∀{xs:List V}{us:List Value}(n:Nat),Vals xs us->Vals (xs.take n) (us.take n)
 |_,_,0,_=> .nil
 |_,_,_+1,.nil=> .nil
 |_,_,n+1,.cons r t=> .cons r (Vals.take n t)
def Vals.drop:∀{xs:List V}{us:List Value}(n:Nat),Vals xs us->Vals (xs.drop n) (us.drop n)
 |_,_,0,r=>r
 |_,_,_+1,.nil=> .nil
 |_,_,n+1,.cons _ t=>Vals.drop n t
def tE:Option V->Option Value->Prop
 |some v,some u=>RelV v u
 |none,none=>True
 |_,_=>False
def KV{κ:Type}:List (κ×V)->List (κ×Value)->Prop:=Paired λ(p:κ×V)(q:κ×Value)=>p.1=q.1/\RelV p.2 q.2
def kV:Key->V
 |.inl i=> .int i
 |.inr x=> .str x
inductive HO where
 |lst (xs:List V)
 |tup (xs:List V)
 |dK (kvs:List (Key×V))|dT (kvs:List (List Key×V))
 |set (S:Int->Bool) (n:Nat)
 |ins (C dx:Addr) (fs:List (Str×V))
 |own (x:Addr)
 |xd (fs:List (Str×V))
 |met (f x:Addr)
 |rng (lo hi:Int)
 |frz (o:Obj) (u:HO)
 |tbl (ps:Array Value)
 |ext (φ:Heap->Prop)
abbrev Hp:=Addr->Option HO
def upd(H:Hp)(a:Addr)(o:HO):Hp:=λb=>if b=a then some o else H b
def aJ{H:Hp}{a:Addr}{o:HO}:upd H a o a=some o:=by unfold upd;rw[if_pos rfl]
def aP{H:Hp}{a b:Addr}{o:HO}(h:b≠a):upd H a o b=H b:=by unfold upd;rw[if_neg h]
def bA0{H:Hp}{a b:Addr}{o u:HO}(h:H a=some o)(h':H b=some u)(d:o≠u):a≠b:=by
 intro e;subst e;rw[h]at h';exact d (Bk h')
def aQ{H:Hp}{a b:Addr}{o:HO}(h:H a=some o)(h':H b=none):a≠b:=by
 intro e;subst e;rw[h]at h';cases h'
section
variable (P:Program)(w:World)
def cF(H:Hp)(h:Heap)(a:Addr):HO->Prop
 |.lst xs=>xs.length<=sizeLine/\∃(its:List Value)(n:Nat),Vals xs its/\h.get? a=some {cls:=.type "list",data:=.seq its.toArray n}
 |.tup xs=>xs.length<=sizeLine/\∃its:List Value,Vals xs its/\IsTup h a its.toArray
 |.dK kvs=>kvs.length<=sizeLine/\(a==sysModules)=false/\∃vs,KV kvs vs/\h.DictOf (eZ P w) a vs
 |.dT kvs=>kvs.length<=sizeLine/\(a==sysModules)=false/\∃xs:List (List Key×Addr×Value),
   Paired (λ(p:List Key×V)(q:List Key×Addr×Value)=>p.1=q.1/\H q.2.1=some (.tup (p.1.map kV))/\RelV p.2 q.2.2) kvs xs/\
   ∃o es ep,h.get? a=some o/\o.ExactDict/\o.data=.dict es ep/\es.toList=xs.map (entryOfKey (tupleKind (eZ P w)))/\(xs.map (·.1)).Nodup
 |.set S n=>h.SetOf (intKind P w) a S n
 |.ins C dx fs=>H dx=some (.own a)/\fs.length<=1000/\dx≠a/\h.get? a=some (Er C dx)/\
   ∃mA,h.Ns1 dx mA/\(∀f,tE (fs.lookup f) (mA f))/\Ox mA (fs.map (·.1))
 |.own _=>∃o,h.get? a=some o
 |.xd fs=>∃mA,h.Ns1 a mA/\∀f,tE (fs.lookup f) (mA f)
 |.rng lo hi=>∃t u v,h.get? a=some {cls:=.type "range",data:=.fields #[.int lo t,.int hi u,.int 1 v]}
 |.frz o u=>h.get? a=some o/\cF H h a u
 |.tbl ps=>h.get? a=some {cls:=.none,data:=.fields ps}
 |.met f x=>h.get? a=some (Ko (.ref f) (.ref x))
 |.ext φ=>φ h/\(∃o,h.get? a=some o)/\∀h1 h2:Heap,φ h1->(∀o,h1.get? a=some o->h2.get? a=some o)->φ h2
def HOk(H:Hp)(h:Heap):Prop:=∀a o,H a=some o->cF P w H h a o
end
variable {P:Program}{w:World}{H H':Hp}{h h':Heap}{a:Addr}{o:HO}
def cF.lt(x:cF P w H h a o):a<h.objs.size:=by
 cases o with
 |lst xs=>obtain⟨_,_,_,_,e⟩:=x;exact Ar e
 |tup xs=>obtain⟨_,_,_,p⟩:=x;exact p.lt
 |dK kvs=>obtain⟨_,_,_,_,o,_,_,e,_⟩:=x;exact Ar e
 |dT kvs=>obtain⟨_,_,_,_,o,_,_,e,_⟩:=x;exact Ar e
 |set S n=>obtain⟨o,_,_,_,e,_⟩:=x;exact Ar e
 |ins C dx fs=>obtain⟨_,_,_,e,_⟩:=x;exact Ar e
 |own y=>obtain⟨_,e⟩:=x;exact Ar e
 |xd fs=>obtain⟨_,⟨_,_,_,e,_⟩,_⟩:=x;exact Ar e
 |rng lo hi=>obtain⟨_,_,_,e⟩:=x;exact Ar e
 |frz ob u=>obtain⟨e,_⟩:=x;exact Ar e
 |tbl ps=>exact Ar (show h.get? a=some _ from x)
 |met f y=>exact Ar (show h.get? a=some _ from x)
 |ext φ=>obtain⟨_,⟨_,e⟩,_⟩:=x;exact Ar e
def Paired.mapP{α β:Type}{F G:α->β->Prop}:∀{l₁:List α}{l₂:List β},Paired F l₁ l₂->(∀a b,F a b->G a b)->Paired G l₁ l₂
 |_,_,.nil,_=> .nil
 |_,_,.cons r t,f=> .cons (f _ _ r) (Paired.mapP t f)
def cF.stay(x:cF P w H h a o)(k:∀b u,(b=a∨H b=some (.own a))->h.get? b=some u->h'.get? b=some u)
  (ho:∀b,H b=some (.own a)->H' b=some (.own a)) (ht:∀b xs,H b=some (.tup xs)->H' b=some (.tup xs)):cF P w H' h' a o:=by
 induction o with
 |lst xs=>obtain⟨z,its,n,r,e⟩:=x;exact⟨z,its,n,r,k _ _ (.inl rfl) e⟩
 |tup xs=>obtain⟨z,its,r,ob,e,c⟩:=x;exact⟨z,its,r,ob,k _ _ (.inl rfl) e,c⟩
 |dK kvs=>obtain⟨z,y,vs,r,ob,es,ep,e,c⟩:=x;exact⟨z,y,vs,r,ob,es,ep,k _ _ (.inl rfl) e,c⟩
 |dT kvs=>
  obtain⟨z,y,xs,r,ob,es,ep,e,c⟩:=x;exact⟨z,y,xs,Paired.mapP r λp q z=>⟨z.1,ht _ _ z.2.1,z.2.2⟩,ob,es,ep,k _ _ (.inl rfl) e,c⟩
 |set S n=>obtain⟨ob,es,ep,t,e,c⟩:=x;exact⟨ob,es,ep,t,k _ _ (.inl rfl) e,c⟩
 |ins C dx fs=>
  obtain⟨d,z,ne,e,mA,⟨od,es,ep,e2,c⟩,r⟩:=x;exact⟨ho _ d,z,ne,k _ _ (.inl rfl) e,mA,⟨od,es,ep,k _ _ (.inr d) e2,c⟩,r⟩
 |own y=>obtain⟨ob,e⟩:=x;exact⟨ob,k _ _ (.inl rfl) e⟩
 |xd fs=>obtain⟨mA,⟨od,es,ep,e,c⟩,r⟩:=x;exact⟨mA,⟨od,es,ep,k _ _ (.inl rfl) e,c⟩,r⟩
 |rng lo hi=>obtain⟨t,u,v,e⟩:=x;exact⟨t,u,v,k _ _ (.inl rfl) e⟩
 |frz ob u ih=>obtain⟨e,q⟩:=x;exact⟨k _ _ (.inl rfl) e,ih q⟩
 |tbl ps=>
  have e:h.get? a=some {cls:=.none,data:=.fields ps}:=x;show h'.get? a=some {cls:=.none,data:=.fields ps};exact k a _ (.inl rfl) e
 |met f y=>
  have e:h.get? a=some (Ko (.ref f) (.ref y)):=x;show h'.get? a=some (Ko (.ref f) (.ref y));exact k a _ (.inl rfl) e
 |ext φ=>obtain⟨p,⟨o,e⟩,st⟩:=x;exact⟨st _ _ p λo q=>k _ _ (.inl rfl) q,⟨o,k _ _ (.inl rfl) e⟩,st⟩
def HOk.lt(x:HOk P w H h)(e:H a=some o):a<h.objs.size:=(x a o e).lt
def HOk.fresh(x:HOk P w H h)(e:h.objs.size<=a):H a=none:=by
 cases q:H a with
 |none=>rfl
 |some u=>exact absurd (Bg (x.lt q) e) (Ds _)
def HOk.kept(x:HOk P w H h)(k:∀b u,h.get? b=some u->h'.get? b=some u):HOk P w H h':=λa o e=>
 (x a o e).stay (λb u _ q=>k b u q) (λ_ q=>q) λ_ _ q=>q
def HOk.laid(x:HOk P w H h)(k:∀b u,h.get? b=some u->h'.get? b=some u)(hp:h.objs.size<=a)(new:cF P w (upd H a o) h' a o):HOk P w (upd H a o) h':=λb u e=>by
 have hn:=x.fresh hp;by_cases hb:b=a
 ·subst hb;rw[aJ]at e;cases e;exact new
 ·rw[aP hb]at e;exact(x b u e).stay (λc v _ q=>k c v q) (λc q=>by rw[aP (aQ q hn)];exact q) λc xs q=>by rw[aP (aQ q hn)];exact q
def Rd(H:Hp)(a:Addr)(u:HO):Prop:=H a=some u∨∃o,H a=some (.frz o u)
def Rd.ok{P:Program}{w:World}{H:Hp}{h:Heap}{a:Addr}{u:HO}(r:Rd H a u)(x:HOk P w H h):cF P w H h a u:=by
 rcases r with r|⟨o,r⟩
 ·exact x a u r
 ·obtain⟨_,q⟩:=x a _ r;exact q
def Mut:Option HO->Prop
 |some (.lst _)=>True
 |some (.dK _)=>True
 |some (.dT _)=>True
 |some (.set _ _)=>True
 |some (.ins _ _ _)=>True
 |some (.ext _)=>True
 |_=>False
variable {x e:Addr}{o':HO}
def HOk.write(ok:HOk P w H h)(mu:Mut (H x))(he:e=x∨H e=some (.own x))(k:∀b u,b≠e->h.get? b=some u->h'.get? b=some u)(heo:∃u,h'.get? e=some u)
  (new:cF P w (upd H x o') h' x o'):HOk P w (upd H x o') h':=λb u q=>by
 have nown:∀c y,H c=some (.own y)->c≠x:=λc y r z=>by subst z;rw[r]at mu;exact mu
 have ntup:∀c xs,H c=some (.tup xs)->c≠x:=λc xs r z=>by subst z;rw[r]at mu;exact mu
 by_cases hb:b=x
 ·subst hb;rw[aJ]at q;cases q;exact new
 ·rw[aP hb]at q;by_cases hbe:b=e
  ·have q':H b=some (.own x):=by
    rcases he with z|z
    ·exact absurd (hbe.trans z) hb
    ·rw[hbe];exact z
   rw[q]at q';cases q';obtain⟨v,hv⟩:=heo;exact⟨v,by rw[hbe];exact hv⟩
  ·refine(ok b u q).stay (λc v hc r=>k c v ?_ r) (λc r=>by rw[aP (nown c b r)];exact r) λc xs r=>by rw[aP (ntup c xs r)];exact r
   rcases hc with rfl|hc
   ·exact hbe
   ·rintro rfl;rcases he with z|z
    ·exact nown c b hc z
    ·rw[hc]at z;cases z;exact hb rfl
structure Un(fs ex:List Addr)(H H':Hp)(h h':Heap):Prop where
 keep:∀b o,h.get? b=some o->H b=none->b∉fs->b∉ex->h'.get? b=some o
 slot:∀b o,h.get? b=some o->H b=none->b∈fs->b∉ex->∃sl,h'.get? b=some {o with slots:=sl}
 free:∀b o,h.get? b=some o->H b=none->b∉ex->H' b=none
 there:∀b o,h.get? b=some o->b∉ex->∃o',h'.get? b=some o'
 tups:∀b xs,H b=some (.tup xs)->H' b=some (.tup xs)
 frzs:∀b o u,H b=some (.frz o u)->H' b=some (.frz o u)
 tbls:∀b ps,H b=some (.tbl ps)->∃more,H' b=some (.tbl (ps++more))
section
variable {fs fs' ex ex':List Addr}{H H1 H2:Hp}{h h1 h2 h':Heap}{a x e:Addr}{o:HO}
def Un.any(u:Un fs ex H H1 h h1){ob:Obj}(q:h.get? b=some ob)(n:H b=none)(hx:b∉ex):∃sl,h1.get? b=some {ob with slots:=sl}:=by
 by_cases hb:b∈fs
 ·exact u.slot b ob q n hb hx
 ·exact⟨ob.slots,u.keep b ob q n hb hx⟩
def Un.kept(k:∀b u,h.get? b=some u->h'.get? b=some u):Un fs ex H H h h':=
 ⟨λb ob q _ _ _=>k b ob q,λb ob q _ _ _=>⟨ob.slots,k b ob q⟩,λ_ _ _ n _=>n,λb ob q _=>⟨ob,k b ob q⟩,λ_ _ q=>q,λ_ _ _ q=>q,λ_ ps q=>⟨#[],by rw[q];simp⟩⟩
def Un.refl:Un fs ex H H h h:=Un.kept λ_ _ q=>q
def Un.laid(k:∀b u,h.get? b=some u->h'.get? b=some u)(hp:h.objs.size<=a)(hn:H a=none):Un fs ex H (upd H a o) h h' where
 keep:=λb u q _ _ _=>k b u q
 slot:=λb u q _ _ _=>⟨u.slots,k b u q⟩
 free:=λb u q n _=>by rw[aP (Az (Bg (Ar q) hp))];exact n
 there:=λb u q _=>⟨u,k b u q⟩
 tups:=λb xs q=>by rw[aP (aQ q hn)];exact q
 frzs:=λb u xs q=>by rw[aP (aQ q hn)];exact q
 tbls:=λb ps q=>⟨#[],by rw[aP (aQ q hn),q];simp⟩
def Un.write(mu:Mut (H x))(he:e=x∨H e=some (.own x))(k:∀b u,b≠e->h.get? b=some u->h'.get? b=some u)(heo:∃u,h'.get? e=some u):Un fs ex H (upd H x o) h h':=by
 have hx:∀b,H b=none->b≠x:=λb n z=>by subst z;rw[n]at mu;exact mu
 have hb:∀b,H b=none->b≠e:=λb n z=>by
  subst z;rcases he with r|r
  ·exact hx b n r
  ·rw[n]at r;cases r
 have hm:∀b u,H b=some u->¬Mut (some u)->b≠x:=λb u q nm z=>by subst z;rw[q]at mu;exact nm mu
 refine⟨λb u q n _ _=>k b u (hb b n) q,λb u q n _ _=>⟨u.slots,k b u (hb b n) q⟩,λb u q n _=>by rw[aP (hx b n)];exact n,λb u q _=>?_,
  λb xs q=>by rw[aP (hm b _ q λz=>z)];exact q,λb u xs q=>by rw[aP (hm b _ q λz=>z)];exact q,λb ps q=>⟨#[],by rw[aP (hm b _ q λz=>z),q];simp⟩⟩
 by_cases hbe:b=e
 ·subst hbe;exact heo
 ·exact⟨u,k b u hbe q⟩
end
def trk(h:Heap)(H:Hp):List Addr:=(Br h.objs.size).filter λa=>(H a).isSome
def aDm(h:Heap)(H:Hp):Heap:=PySem.W.hideAll h (trk h H)
def aMc(h:Heap)(H:Hp):(aDm h H).objs.size=h.objs.size:=PySem.W.hideAll_size _ _
def aNm{h:Heap}{H:Hp}{o:Obj}(e:h.get? b=some o)(n:H b=none):(aDm h H).get? b=some o:=
 PySem.W.hideAll_get _ e λhm=>by
  have q:(H b).isSome=true:=(List.mem_filter.mp hm).2;rw[n]at q;simp at q
def aS9{h:Heap}{H:Hp}{o:Obj}(e:(aDm h H).get? b=some o):h.get? b=some o/\H b=none:=by
 have e':h.get? b=some o:=PySem.W.of_hideAll (trk h H) e;refine⟨e',?_⟩;cases q:H b with
 |none=>rfl
 |some x=>
  have hm:b∈trk h H:=List.mem_filter.mpr ⟨List.mem_range.mpr (Ar e'),by simp[q]⟩;have z:(aDm h H).get? b=none:=PySem.W.hideAll_none (trk h H) hm;rw[z]at e;cases e
structure Mod(K:Ac)(mg:Str->Option Value)(base:Heap):Prop where
 kin:K.In base
 glob:base.Ns mainGlobals mg
 blt:∃mb,base.Ns builtinsNs mb/\∀x:Str,x≠"__name__"->mb x=bootBuiltins x
 nolimit:base.NoLimit
structure Cx where
 prog:Program
 w:World
 K:Ac
 mg:Str->Option Value
 base:Heap
 A:Around
 N:List Str
 s₀:Shared
 H₀:Hp
 env:Env
 outer:List Env
 stack:List Env
 ex:List Addr
 fn:Str->Bool
 calm:Bool
 pn:List (Addr×Obj)
 xe:Value->Shared->Prop
def frs(l:List Env):List Addr:=l.filterMap (·.frame)
abbrev Cx.fs(X:Cx):List Addr:=frs X.outer
def Vis(sc:Scope)(x:Str):Prop:=sc.names.lookup x=some .local∨sc.names.lookup x=some .cell∨sc.names.lookup x=some .free
def Loc(sc:Scope)(x:Str):Prop:=sc.names.lookup x=some .local∨sc.names.lookup x=some .cell
def Look(env:Env)(h:Heap)(m:Str->Option Value)(x:Str)(u:Value):Prop:=
 (env.kindOf x=some .local/\m x=some u)∨((env.kindOf x=some .cell∨env.kindOf x=some .free)/\∃c,env.cells.lookup x=some c/\h.IsCell c (some u))
structure Cx.Ok(X:Cx):Prop where
 mod:Mod X.K X.mg X.base
 kind:X.env.scope.kind=.function
 glob:X.env.globals=mainGlobals
 blt:X.env.builtins=builtinsNs
 above:X.s₀.heap.objs.size<=X.env.locals
 inj:∀x y c,X.env.cells.lookup x=some c->X.env.cells.lookup y=some c->x=y
 has:∀x,(X.env.kindOf x=some .cell∨X.env.kindOf x=some .free)->∃c,X.env.cells.lookup x=some c
 cab:∀x c,X.fn x=true->X.env.cells.lookup x=some c->X.s₀.heap.objs.size<=c
 hd:X.calm=true->X.A.handled=none
 frames:X.A.frames=some X.stack
 stk:X.stack=X.outer∨(X.stack=X.env::X.outer/\X.env.frame=some X.env.locals)
 exf:∀b∈X.ex,b≠X.env.locals/\∀x c,X.env.cells.lookup x=some c->c≠b
 bs:∀b o,X.base.get? b=some o->X.s₀.heap.get? b=some o/\X.H₀ b=none
 bsz:X.base.objs.size<=X.s₀.heap.objs.size
 noex:∀b o,X.base.get? b=some o->b∉X.ex
 exfs:∀b∈X.ex,b∉X.fs
 funs:X.s₀.heap.FunFrames X.base X.outer
 frf:∀b∈X.fs,X.H₀ b=none
structure Inv(X:Cx)(pins:List (Addr×Obj))(σ:List (Option V))(H:Hp)(s:Shared):Prop where
 ok:X.Ok
 os:s.os=X.s₀.os
 bare:AllBare s.gens
 base:Un X.fs X.ex X.H₀ H X.s₀.heap s.heap
 loc:∃m,s.heap.Ns X.env.locals m/\∀(i:Nat)(x:Str)(v:V),X.N[i]? =some x->σ[i]? =some (some v)->Vis X.env.scope x->∃u,RelV v u/\Look X.env s.heap m x u
 cell:∀x c,X.env.cells.lookup x=some c->∃v,s.heap.IsCell c v
 free:H X.env.locals=none
 freeC:∀x c,X.env.cells.lookup x=some c->H c=none
 pin:∀p∈X.pn++pins,s.heap.get? p.1=some p.2/\H p.1=none/\p.1≠X.env.locals/\p.1∉X.fs/\∀v,p.2.data≠.cell v
 hok:HOk X.prog X.w H s.heap
 len:σ.length=X.N.length
variable {X:Cx}{pins:List (Addr×Obj)}{σ:List (Option V)}{s:Shared}
def Cx.Ok.nofr(ok:X.Ok){o:Obj}(e:X.base.get? b=some o):b∉X.fs:=λhb=>by
 have:=(ok.funs.mem hb).1;rw[e]at this;cases this
def Inv.bs(I:Inv X pins σ H s):∀b o,X.base.get? b=some o->s.heap.get? b=some o/\H b=none:=λb o e=>
 ⟨I.base.keep b o (I.ok.bs b o e).1 (I.ok.bs b o e).2 (I.ok.nofr e) (I.ok.noex b o e),I.base.free b o (I.ok.bs b o e).1 (I.ok.bs b o e).2 (I.ok.noex b o e)⟩
def Inv.bk(I:Inv X pins σ H s):∀b o,X.base.get? b=some o->s.heap.get? b=some o:=λb o e=>(I.bs b o e).1
def Inv.mod(I:Inv X pins σ H s):Mod X.K X.mg X.base:=I.ok.mod
def Inv.kIn(I:Inv X pins σ H s):X.K.In s.heap:=I.ok.mod.kin.keeps I.bk
def Inv.lt(I:Inv X pins σ H s):X.env.locals<s.heap.objs.size:=let⟨_,hn,_⟩:=I.loc;hn.lt
def Inv.sz(I:Inv X pins σ H s):X.s₀.heap.objs.size<=s.heap.objs.size:=Cc I.ok.above (En I.lt)
def Inv.nofs(I:Inv X pins σ H s){a:Addr}(h:s.heap.objs.size<=a):a∉X.fs:=λhb=>by
 obtain⟨_,o,ho,_⟩:=I.ok.funs.mem hb;exact absurd (Bg (Ar ho) (Cc I.sz h)) (Ds _)
def Inv.cne(I:Inv X pins σ H s):∀x c,X.env.cells.lookup x=some c->c≠X.env.locals:=λx c e z=>by
 obtain⟨v,o,ho,hd⟩:=I.cell x c e;obtain⟨m,⟨o',es,ep,ho',hd',_⟩,_⟩:=I.loc;rw[z,ho']at ho;cases ho;rw[hd']at hd;cases hd
def Inv.funs(I:Inv X pins σ H s):s.heap.FunFrames X.base X.outer:=by
 have all:∀(l:List Env),(∀b∈frs l,b∈X.fs)->X.s₀.heap.FunFrames X.base l->s.heap.FunFrames X.base l:=by
  intro l;induction l with
  |nil=>intro _ _;trivial
  |cons env r ih=>
   intro hs hl;obtain⟨hk,⟨L,o,hf,hn,ho,hd⟩,hr⟩:=hl;have hL:L∈X.fs:=hs L (by unfold frs;rw[Gk,hf];exact Af);obtain⟨sl,e⟩:=I.base.slot L o ho (I.ok.frf L hL) hL λz=>I.ok.exfs L z hL;exact⟨hk,⟨L,_,hf,hn,e,hd⟩,ih (λb hb=>hs b (by unfold frs;rw[Gk,hf];exact Ae _ hb)) hr⟩
 exact all X.outer (λ_ hb=>hb) I.ok.funs
def Inv.stack(I:Inv X pins σ H s):s.heap.FunFrames X.base X.stack:=by
 rcases I.ok.stk with e|⟨e,hf⟩
 ·rw[e];exact I.funs
 ·rw[e];obtain⟨m,hn,_⟩:=I.loc;refine .cons (by rw[I.ok.kind];decide) hf hn ?_ I.funs;exact Heap.get?_none_of_le (Cc I.ok.bsz I.ok.above)
def Inv.stkSub(I:Inv X pins σ H s):∀b∈frs X.stack,b∈X.env.locals::X.fs:=λb hb=>by
 rcases I.ok.stk with e|⟨e,hf⟩
 ·rw[e]at hb;exact Ae _ hb
 ·rw[e]at hb;unfold frs at hb;rw[Gk,hf]at hb;exact hb
def Inv.stkFree(I:Inv X pins σ H s):∀b∈frs X.stack,H b=none:=λb hb=>by
 rcases List.mem_cons.mp (I.stkSub b hb)with e|hb
 ·rw[e];exact I.free
 ·obtain⟨_,o,ho,_⟩:=I.ok.funs.mem hb;exact I.base.free b o ho (I.ok.frf b hb) λz=>I.ok.exfs b z hb
def Inv.step{d':Drawn}(I:Inv X pins σ H s)
  (hch:∀b∈ch,(b∈X.ex∨X.s₀.heap.objs.size<=b)/\b≠X.env.locals/\(∀x c,X.env.cells.lookup x=some c->c≠b)/\∀p∈X.pn++pins,p.1≠b)
  (keep:∀b o,b≠X.env.locals->b∉X.fs->b∉ch->s.heap.get? b=some o->H b=none->h'.get? b=some o)
  (slot:∀b o,b≠X.env.locals->b∈X.fs->b∉ch->s.heap.get? b=some o->H b=none->∃sl,h'.get? b=some {o with slots:=sl}) (free:∀b o,b∉ch->s.heap.get? b=some o->H b=none->H' b=none)
  (there:∀b o,b∉ch->s.heap.get? b=some o->∃o',h'.get? b=some o')
  (tups:∀b xs,H b=some (.tup xs)->H' b=some (.tup xs)) (frzs:∀b o u,H b=some (.frz o u)->H' b=some (.frz o u)) (tbls:∀b ps,H b=some (.tbl ps)->∃more,H' b=some (.tbl (ps++more)))
  (ns:∀m,s.heap.Ns X.env.locals m->h'.Ns X.env.locals m) (hok:HOk X.prog X.w H' h') (hg:AllBare g'):
  Inv X pins σ H' {s with heap:=h',gens:=g',drawn:=d',toks:=t'}:=by
 have neL:∀b o,X.s₀.heap.get? b=some o->b≠X.env.locals:=λb o e=>Az (Bg (Ar e) I.ok.above);have neC:∀b o,X.s₀.heap.get? b=some o->b∉X.ex->b∉ch:=λb o e hx hb=>by
  rcases (hch b hb).1 with z|z
  ·exact hx z
  ·exact absurd (Bg (Ar e) z) (Ds _)
 have cellK:∀x c,X.env.cells.lookup x=some c->∀v,s.heap.IsCell c v->h'.IsCell c v:=λx c e v ⟨o,ho,hd⟩=>by
  have nch:c∉ch:=λz=>(hch c z).2.2.1 x c e rfl;by_cases hc:c∈X.fs
  ·obtain⟨sl,q⟩:=slot c o (I.cne x c e) hc nch ho (I.freeC x c e);exact⟨_,q,hd⟩
  ·exact⟨o,keep c o (I.cne x c e) hc nch ho (I.freeC x c e),hd⟩
 refine⟨I.ok,I.os,hg,⟨λb o e n hb hx=>?_,λb o e n hb hx=>?_,λb o e n hx=>?_,λb o e hx=>?_,λb xs e=>tups b xs (I.base.tups b xs e),λb o xs e=>frzs b o xs (I.base.frzs b o xs e),λb ps e=>?_⟩,?_,λx c e=>?_,?_,λx c e=>?_,λp hp=>?_,hok,I.len⟩
 ·exact keep b o (neL b o e) hb (neC b o e hx) (I.base.keep b o e n hb hx) (I.base.free b o e n hx)
 ·obtain⟨sl,e1⟩:=I.base.slot b o e n hb hx;obtain⟨sl',e2⟩:=slot b _ (neL b o e) hb (neC b o e hx) e1 (I.base.free b o e n hx);exact⟨sl',e2⟩
 ·obtain⟨o',e1⟩:=I.base.there b o e hx;exact free b o' (neC b o e hx) e1 (I.base.free b o e n hx)
 ·obtain⟨o',e1⟩:=I.base.there b o e hx;exact there b o' (neC b o e hx) e1
 ·obtain⟨m1,e1⟩:=I.base.tbls b ps e;obtain⟨m2,e2⟩:=tbls b _ e1;exact⟨m1++m2,by rw[e2,Array.append_assoc]⟩
 ·obtain⟨m,hn,hl⟩:=I.loc;refine⟨m,ns m hn,λi x v e1 e2 e3=>?_⟩;obtain⟨u,r,l⟩:=hl i x v e1 e2 e3;refine⟨u,r,?_⟩;rcases l with l|⟨k,c,e,z⟩
  ·exact .inl l
  ·exact .inr ⟨k,c,e,cellK x c e _ z⟩
 ·obtain⟨v,z⟩:=I.cell x c e;exact⟨v,cellK x c e v z⟩
 ·obtain⟨m,⟨o,_,_,ho,_⟩,_⟩:=I.loc;exact free _ o (λz=>(hch _ z).2.1 rfl) ho I.free
 ·obtain⟨v,o,ho,hd⟩:=I.cell x c e;exact free c o (λz=>(hch c z).2.2.1 x c e rfl) ho (I.freeC x c e)
 ·obtain⟨e,n,ne,nf,d⟩:=I.pin p hp;have nch:p.1∉ch:=λz=>(hch p.1 z).2.2.2 p hp rfl;exact⟨keep p.1 p.2 ne nf nch e n,free p.1 p.2 nch e n,ne,nf,d⟩
def Inv.un(I:Inv X pins σ H s)(u:Un X.fs [] H H' s.heap h')(hok:HOk X.prog X.w H' h'):Inv X pins σ H' {s with heap:=h',toks:=t'}:=by
 obtain⟨m,⟨o,es,ep,ho,r⟩,_⟩:=id I.loc;obtain⟨sl,hL⟩:=u.any ho I.free (by simp);exact I.step (g':=s.gens) (d':=s.drawn) (ch:=[]) (λ_ z=>nomatch z) (λb o _ hb _ e n=>u.keep b o e n hb (by simp)) (λb o _ hb _ e n=>u.slot b o e n hb (by simp)) (λb o _ e n=>u.free b o e n (by simp)) (λb o _ e=>u.there b o e (by simp)) u.tups u.frzs u.tbls (λm' hm=>by
  obtain⟨o',es',ep',ho',r'⟩:=hm;rw[ho]at ho';cases ho';exact⟨_,es',ep',hL,r'⟩) hok I.bare
def Inv.call{d':Drawn}(I:Inv X pins σ H s)(u:Un (frs X.stack) ch H H' s.heap h')(hok:HOk X.prog X.w H' h')(hg:AllBare g')
  (hch:∀b∈ch,(b∈X.ex∨X.s₀.heap.objs.size<=b)/\b≠X.env.locals/\(∀x c,X.env.cells.lookup x=some c->c≠b)/\∀p∈X.pn++pins,p.1≠b):
  Inv X pins σ H' {s with heap:=h',gens:=g',drawn:=d',toks:=t'}:=by
 obtain⟨m,⟨o,es,ep,ho,r⟩,_⟩:=id I.loc;obtain⟨sl,hL⟩:=u.any ho I.free λz=>(hch _ z).2.1 rfl;exact I.step (ch:=ch) hch (λb o hL hb hc e n=>u.keep b o e n (λz=>(List.mem_cons.mp (I.stkSub b z)).elim hL hb) hc) (λb o _ _ hc e n=>u.any e n hc) (λb o hc e n=>u.free b o e n hc) (λb o hc e=>u.there b o e hc) u.tups u.frzs u.tbls (λm' hm=>by
  obtain⟨o',es',ep',ho',r'⟩:=hm;rw[ho]at ho';cases ho';exact⟨_,es',ep',hL,r'⟩) hok hg
def Inv.turned{it:Addr}(I:Inv X pins σ H s)(k:∀b o,b≠it->s.heap.get? b=some o->h'.get? b=some o)(hn:H it=none)(hL:it≠X.env.locals)
  (h1:it∈X.ex∨X.s₀.heap.objs.size<=it) (h2:∀x c,X.env.cells.lookup x=some c->c≠it) (h3:∀p∈X.pn++pins,p.1≠it):Inv X pins σ H {s with heap:=h',toks:=t'}:=by
 have nit:∀b u,H b=some u->b≠it:=λb u e z=>by rw[z,hn]at e;cases e
 refine I.step (g':=s.gens) (d':=s.drawn) (ch:=[it]) (λb hb=>?_) (λb o _ _ hc e _=>k b o (λz=>hc (by simp[z])) e) (λb o _ _ hc e _=>⟨o.slots,k b o (λz=>hc (by simp[z])) e⟩) (λ_ _ _ _ n=>n)
  (λb o hc e=>⟨o,k b o (λz=>hc (by simp[z])) e⟩) (λ_ _ e=>e) (λ_ _ _ e=>e) (λb ps e=>⟨#[],by rw[e];simp⟩) (λm hm=>?_) (λb u e=>?_) I.bare
 ·have e:b=it:=by simpa using hb
  subst e;exact⟨h1,hL,h2,h3⟩
 ·obtain⟨o,es,ep,ho,r⟩:=hm;exact⟨o,es,ep,k _ o (Cy hL) ho,r⟩
 ·refine(I.hok b u e).stay (λc v hc q=>k c v ?_ q) (λ_ q=>q) λ_ _ q=>q;rcases hc with z|z
  ·rw[z];exact nit b u e
  ·exact nit c _ z
def Inv.tok(I:Inv X pins σ H s)(t:Nat):Inv X pins σ H {s with toks:=t}:=I.un (h':=s.heap) (t':=t) Un.refl I.hok
def Inv.kept(I:Inv X pins σ H s)(k:∀b u,s.heap.get? b=some u->h'.get? b=some u):Inv X pins σ H {s with heap:=h',toks:=t'}:=I.un (Un.kept k) (I.hok.kept k)
def Inv.laid{a:Addr}{o:HO}(I:Inv X pins σ H s)(k:∀b u,s.heap.get? b=some u->h'.get? b=some u)(hp:s.heap.objs.size<=a)(new:cF X.prog X.w (upd H a o) h' a o):
  Inv X pins σ (upd H a o) {s with heap:=h',toks:=t'}:=I.un (Un.laid k hp (I.hok.fresh hp)) (I.hok.laid k hp new)
def Inv.write{x e:Addr}{o:HO}(I:Inv X pins σ H s)(mu:Mut (H x))(he:e=x∨H e=some (.own x))(k:∀b u,b≠e->s.heap.get? b=some u->h'.get? b=some u)(heo:∃u,h'.get? e=some u)
  (new:cF X.prog X.w (upd H x o) h' x o):Inv X pins σ (upd H x o) {s with heap:=h',toks:=t'}:=I.un (Un.write mu he k heo) (I.hok.write mu he k heo new)
def Inv.pins_of{pins':List (Addr×Obj)}(I:Inv X pins σ H s)(h:∀p∈pins',s.heap.get? p.1=some p.2/\H p.1=none/\p.1≠X.env.locals/\p.1∉X.fs/\∀v,p.2.data≠.cell v):Inv X pins' σ H s:=
 ⟨I.ok,I.os,I.bare,I.base,I.loc,I.cell,I.free,I.freeC,λp hp=>(List.mem_append.mp hp).elim (λz=>I.pin p (Gb _ z)) (h p),I.hok,I.len⟩
def aFt{N:List Str}(hN:N.Nodup){i j:Nat}{x:Str}(a:N[i]? =some x)(b:N[j]? =some x):i=j:=by
 obtain⟨h1,e1⟩:=List.getElem?_eq_some_iff.mp a;obtain⟨h2,e2⟩:=List.getElem?_eq_some_iff.mp b;exact(Je hN).mp (e1.trans e2.symm)
abbrev ND(x:Str):Prop:=(x==("__debug__":Str))=false
abbrev BT(X:Cx)(pos:Pos)(es:List Expr):Prop:=(backTo pos (starEach es X.env)).any (·.1)=false
abbrev FL(X:Cx)(x:Str):Prop:=X.fn x=true∨X.env.scope.names.lookup x=some .local
abbrev NC(x:Str):Prop:=(x==("__classdict__":Str))=false
abbrev SE(X:Cx)(e:Expr)(es:List Expr):Prop:=starEach (e::es) X.env=(false,eval e X.env)::starEach es X.env
abbrev FS(X:Cx)(e:Expr):Prop:=∀x,foldedSetIterable e X.env x=pure x
abbrev HC(X:Cx):Prop:=∀x,X.env.scope.names.lookup x=some .cell->∃c,X.env.cells.lookup x=some c
abbrev EL(a b:Pos):Prop:=(a.endLine==b.line)=true
def aCi{M:Model}{x:Str}{v:V}{Q:Unit->Shared->Prop}(I:Inv X pins σ H s)(hN:X.N.Nodup)(hi:X.N[i]? =some x)(hx:Loc X.env.scope x)(r:RelV v u)
  (h:∀s',Inv X pins (σ.set i (some v)) H s'->(∃a,Cg a s.heap s'.heap/\(a=X.env.locals∨X.env.cells.lookup x=some a))->Q () s') (hf:FL X x:=by trivial):wpAny M A (storeName X.env x u) Q E s:=by
 obtain⟨m,hn,hl⟩:=id I.loc;have hcls:(X.env.scope.kind== .class || (X.env.scope.kind== .module && X.env.locals != X.env.globals))=false:=by rw[I.ok.kind];rfl
 have hiσ:i<σ.length:=by rw[I.len];exact(List.getElem?_eq_some_iff.mp hi).1
 have cne:=I.cne;have tracked:∀{a:Addr}{h':Heap},(∃o,s.heap.get? a=some o/\H a=none)->Cg a s.heap h'->HOk X.prog X.w H h':=λ{a h'} ha hs b ob e=>by
  obtain⟨_,_,hfree⟩:=ha;refine(I.hok b ob e).stay (λc w' hc q=>(hs.2 c ?_).trans q) (λ_ q=>q) λ_ _ q=>q;rintro rfl;rcases hc with rfl|hc
  ·rw[hfree]at e;cases e
  ·rw[hfree]at hc;cases hc
 rcases hx with hk|hk
 ·refine wpAny_storeName_local hk hn (λh' hn' hs=>?_) hcls;obtain⟨oL,_,_,hoL,_⟩:=id hn;refine h _ ⟨I.ok,I.os,I.bare,⟨λb o e n hb hx=>?_,λb o e n hb hx=>?_,I.base.free,λb o e hx=>?_,I.base.tups,I.base.frzs,I.base.tbls⟩,⟨_,hn',λj y v' e1 e2 e3=>?_⟩,λy c e=>?_,I.free,I.freeC,λp hp=>?_,tracked ⟨oL,hoL,I.free⟩ hs,by simpa using I.len⟩ ⟨_,hs,.inl rfl⟩
  ·exact(hs.2 b (Az (Bg (Ar e) I.ok.above))).trans (I.base.keep b o e n hb hx)
  ·obtain⟨sl,e1⟩:=I.base.slot b o e n hb hx;exact⟨sl,(hs.2 b (Az (Bg (Ar e) I.ok.above))).trans e1⟩
  ·obtain⟨o',e1⟩:=I.base.there b o e hx;exact⟨o',(hs.2 b (Az (Bg (Ar e) I.ok.above))).trans e1⟩
  ·by_cases hj:j=i
   ·subst hj;rw[hi]at e1;cases e1;rw[Pc hiσ]at e2;cases e2;exact⟨u,r,.inl ⟨hk,by simp⟩⟩
   ·rw[Qc (Cy hj)]at e2;obtain⟨u',r',q⟩:=hl j y v' e1 e2 e3;refine⟨u',r',?_⟩;rcases q with ⟨k,e⟩|⟨k,c,e,z⟩
    ·refine .inl ⟨k,?_⟩;have:y≠x:=λe=>hj (aFt hN e1 (e▸hi));simp[this,e]
    ·exact .inr ⟨k,c,e,z.sameBut hs (cne y c e)⟩
  ·obtain⟨w',z⟩:=I.cell y c e;exact⟨w',z.sameBut hs (cne y c e)⟩
  ·obtain⟨e,n,ne,nf,d⟩:=I.pin p hp;exact⟨(hs.2 p.1 ne).trans e,n,ne,nf,d⟩
 ·have hfn:X.fn x=true:=by
   rcases hf with z|z
   ·exact z
   ·rw[z]at hk;cases hk
  obtain⟨c,hc⟩:=I.ok.has x (.inl hk);obtain⟨w',z⟩:=I.cell x c hc;refine wpAny_storeName_cell I.ok.kind hk hc z (λh' hc' hs=>?_);obtain⟨oc,hoc,hocd⟩:=id z;refine h {s with heap:=h'} ⟨I.ok,I.os,I.bare,⟨λb o e n hb hx=>?_,λb o e n hb hx=>?_,I.base.free,λb o e hx=>?_,I.base.tups,I.base.frzs,I.base.tbls⟩,⟨m,hn.sameBut hs (Cy (cne x c hc)),λj y v' e1 e2 e3=>?_⟩,λy c' e=>?_,I.free,I.freeC,λp hp=>?_,tracked ⟨oc,hoc,I.freeC x c hc⟩ hs,by simpa using I.len⟩ ⟨c,hs,.inr hc⟩
  ·exact(hs.2 b (Az (Bg (Ar e) (I.ok.cab x c hfn hc)))).trans (I.base.keep b o e n hb hx)
  ·obtain⟨sl,e1⟩:=I.base.slot b o e n hb hx;exact⟨sl,(hs.2 b (Az (Bg (Ar e) (I.ok.cab x c hfn hc)))).trans e1⟩
  ·obtain⟨o',e1⟩:=I.base.there b o e hx;exact⟨o',(hs.2 b (Az (Bg (Ar e) (I.ok.cab x c hfn hc)))).trans e1⟩
  ·by_cases hj:j=i
   ·subst hj;rw[hi]at e1;cases e1;rw[Pc hiσ]at e2;cases e2;exact⟨u,r,.inr ⟨.inl hk,c,hc,hc'⟩⟩
   ·rw[Qc (Cy hj)]at e2;obtain⟨u',r',q⟩:=hl j y v' e1 e2 e3;refine⟨u',r',?_⟩;rcases q with q|⟨k,c',e,z'⟩
    ·exact .inl q
    ·refine .inr ⟨k,c',e,z'.sameBut hs ?_⟩;rintro rfl;exact hj (aFt hN e1 (I.ok.inj _ _ _ e hc▸hi))
  ·by_cases hcc:c'=c
   ·subst hcc;exact⟨_,hc'⟩
   ·obtain⟨w2,z2⟩:=I.cell y c' e;exact⟨w2,z2.sameBut hs hcc⟩
  ·obtain⟨e,n,ne,nf,d⟩:=I.pin p hp;refine⟨(hs.2 p.1 ?_).trans e,n,ne,nf,d⟩;intro q;rw[q,hoc]at e;have q':oc=p.2:=Bk e;exact d w' (by rw[<-q'];exact hocd)
def aFk{M:Model}{x:Str}{v:V}{Q:Unit->Shared->Prop}(I:Inv X pins σ H s)(hN:X.N.Nodup)(hi:X.N[i]? =some x)(hx:Loc X.env.scope x)(r:RelV v u)
  (h:∀s',Inv X pins (σ.set i (some v)) H s'->Q () s') (hf:FL X x:=by trivial):wpAny M A (storeName X.env x u) Q E s:=
 aCi I hN hi hx r (λs' I' _=>h s' I') hf
def Inv.call'{s':Shared}(I:Inv X pins σ H s)(ho:s'.os=s.os)(u:Un (frs X.stack) ch H H' s.heap s'.heap)(hok:HOk X.prog X.w H' s'.heap)(hg:AllBare s'.gens)
  (hch:∀b∈ch,(b∈X.ex∨X.s₀.heap.objs.size<=b)/\b≠X.env.locals/\(∀x c,X.env.cells.lookup x=some c->c≠b)/\∀p∈X.pn++pins,p.1≠b):Inv X pins σ H' s':=by
 obtain⟨h',g',d',t',o'⟩:=s';have e:o'=s.os:=ho;subst e;exact I.call (g':=g') (t':=t') (d':=d') u hok hg hch
abbrev XK:=Value->Option Addr->Hp->Prop
abbrev St:=List (Option V)
abbrev VK:=V->Hp->Prop
abbrev TE:=St->Hp->VK->Prop
abbrev TT:=St->Hp->(Bool->Hp->Prop)->Prop
abbrev TA:=St->Hp->(List V->Hp->Prop)->Prop
structure Ends where
 nx:St->Hp->Prop
 rt:VK
 bk:St->Hp->Prop:=λ_ _=>False
 ct:St->Hp->Prop:=λ_ _=>False
abbrev TS:=Ends->St->Hp->Prop
inductive IEP(X:Cx)(pins:List (Addr×Obj))(σ:St)(Q:VK)(u:Value)(s':Shared):Prop
 |mk (v H':_) (q0_:Inv X pins σ H' s') (q1_:RelV v u) (q2_:Q v H'):IEP X pins σ Q u s'
def EP(X:Cx)(pins:List (Addr×Obj))(σ:St)(Q:VK)(u:Value)(s':Shared):Prop:=IEP X pins σ Q u s'
def TP(X:Cx)(pins:List (Addr×Obj))(σ:St)(Q:Bool->Hp->Prop)(b:Bool)(s':Shared):Prop:=∃H',Inv X pins σ H' s'/\Q b H'
inductive IAP(X:Cx)(pins:List (Addr×Obj))(σ:St)(Q:List V->Hp->Prop)(us:List Value)(s':Shared):Prop
 |mk (vs H':_) (q0_:Inv X pins σ H' s') (q1_:Vals vs us) (q2_:Q vs H'):IAP X pins σ Q us s'
def AP(X:Cx)(pins:List (Addr×Obj))(σ:St)(Q:List V->Hp->Prop)(us:List Value)(s':Shared):Prop:=IAP X pins σ Q us s'
def SP(X:Cx)(pins:List (Addr×Obj))(D:Ends)(f:Flow)(s':Shared):Prop:=
 match f with
 |.next=>∃σ' H',Inv X pins σ' H' s'/\D.nx σ' H'
 |.brk=>∃σ' H',Inv X pins σ' H' s'/\D.bk σ' H'
 |.cont=>∃σ' H',Inv X pins σ' H' s'/\D.ct σ' H'
 |.ret u=>∃v σ' H',Inv X pins σ' H' s'/\RelV v u/\D.rt v H'
def PE(X:Cx)(e:Expr)(t:TE):Prop:=
 ∀(pins:List (Addr×Obj))(s:Shared)(σ:St)(H:Hp)(Q:VK),Inv X pins σ H s->t σ H Q->wpAny (model X.prog X.w) X.A (eval e X.env) (EP X pins σ Q) X.xe s
def PT(X:Cx)(e:Expr)(t:TT):Prop:=
 ∀(pins:List (Addr×Obj))(s:Shared)(σ:St)(H:Hp)(Q:Bool->Hp->Prop),Inv X pins σ H s->t σ H Q->wpAny (model X.prog X.w) X.A (isTrue e X.env (eval e X.env)) (TP X pins σ Q) X.xe s
def PW(X:Cx)(e:Expr)(t:TT):Prop:=
 ∀(whole:Sem Value)(pins:List (Addr×Obj))(s:Shared)(σ:St)(H:Hp)(Q:Bool->Hp->Prop),Inv X pins σ H s->t σ H Q->wpAny (model X.prog X.w) X.A (isTrue e X.env whole) (TP X pins σ Q) X.xe s
def PW.pt{X:Cx}{e:Expr}{t:TT}(h:PW X e t):PT X e t:=h _
def PA(X:Cx)(es:List Expr)(t:TA):Prop:=
 ∀(pos:Pos)(pins:List (Addr×Obj))(s:Shared)(σ:St)(H:Hp)(Q:List V->Hp->Prop),Inv X pins σ H s->t σ H Q->wpAny (model X.prog X.w) X.A (spliced (backTo pos (starEach es X.env))) (AP X pins σ Q) X.xe s
def PS(X:Cx)(st:Stmt)(t:TS):Prop:=
 ∀(pins:List (Addr×Obj))(s:Shared)(σ:St)(H:Hp)(D:Ends),Inv X pins σ H s->t D σ H->wpAny (model X.prog X.w) X.A (exec st X.env) (SP X pins D) X.xe s
def PSs(X:Cx)(st:List Stmt)(t:TS):Prop:=
 ∀(pins:List (Addr×Obj))(s:Shared)(σ:St)(H:Hp)(D:Ends),Inv X pins σ H s->t D σ H->wpAny (model X.prog X.w) X.A (execs st X.env) (SP X pins D) X.xe s
def thn{α:Type}{t:Sem α}{Q Q':α->Shared->Prop}{M:Model}{s:Shared}(h:wpAny M A t Q E s)(hQ:∀a s,Q a s->Q' a s):wpAny M A t Q' E s:=Du h hQ λ_ _ x=>x
section
variable {X:Cx}
inductive aUc(i:Nat)(σ:St)(H:Hp)(Q:VK):Prop
 |mk (v:_) (q0_:σ[i]? =some (some v)) (q1_:Q v H):aUc i σ H Q
def bAy(i:Nat):TE:=λσ H Q=>aUc i σ H Q
def tC(v:V):TE:=λ_ H Q=>Q v H
def iZ{x:Str}(hN:X.N[i]? =some x)(hv:Vis X.env.scope x)(hd:ND x:=by decide)(hcd:NC x:=by decide):PE X (.Name x pos) (bAy i):=by
 intro pins s σ H Q I h;obtain⟨v,e,h⟩:=h;obtain⟨m,hn,hl⟩:=I.loc;obtain⟨u,r,l⟩:=hl i x v hN e hv;have fin:EP X pins σ Q u s:=⟨v,H,I,r,h⟩;rcases l with ⟨hk,hm⟩|⟨hk,c,hc,hcell⟩
 ·exact Uo (wpAny_loadName_local I.ok.kind hk hn hm fin) hd
 ·rcases hk with hk|hk
  ·exact Uo (wpAny_loadName_cell I.ok.kind hk hc hcell fin) hd
  ·exact Uo (wpAny_loadName_free I.ok.kind hk hc hcell fin hcd) hd
def dX{i j pos}:PE X (.Constant (.int i) j pos) (tC (.int i)):=λ_ _ _ H _ I h=>wpAny_Constant_int ⟨.int i,H,I.tok _,⟨_,rfl⟩,h⟩
def aZo{b j pos}:PE X (.Constant (.bool b) j pos) (tC (.bl b)):=λ_ _ _ H _ I h=>Constant_bool ⟨.bl b,H,I,rfl,h⟩
def aWl{j pos}:PE X (.Constant .none j pos) (tC .non):=λ_ _ _ H _ I h=>Qz ⟨.non,H,I,rfl,h⟩
def cA{x j pos}:PE X (.Constant (.str x) j pos) (tC (.str x)):=λ_ _ _ H _ I h=>Calls.Constant_str ⟨.str x,H,I.tok _,⟨_,rfl⟩,h⟩
def Gl(X:Cx)(x:Str):Prop:=X.env.kindOf x=some .globalImplicit
def aEw{pins:List (Addr×Obj)}{s:Shared}{σ:St}{H:Hp}{x:Str}(I:Inv X pins σ H s)(hg:Gl X x)(hm:X.mg x=some u)(h:Q u s)
  (hd:ND x:=by decide):wpAny (model X.prog X.w) X.A (eval (.Name x pos) X.env) Q E s:=
 Mu I.ok.kind hg (Calls.loadGlobal_global (by rw[I.ok.glob];exact I.mod.glob.keeps I.bk) hm h) hd
def uK{pins:List (Addr×Obj)}{s:Shared}{σ:St}{H:Hp}{x:Str}(I:Inv X pins σ H s)(hg:Gl X x)(hm:X.mg x=none)(hv:bootBuiltins x=some u)(h:Q u s)
  (hn:x≠"__name__":=by decide) (hd:ND x:=by decide):wpAny (model X.prog X.w) X.A (eval (.Name x pos) X.env) Q E s:=by
 obtain⟨mb,h1,h2⟩:=I.mod.blt;exact Mu I.ok.kind hg (Calls.loadGlobal_builtin (by rw[I.ok.glob];exact I.mod.glob.keeps I.bk) hm (by rw[I.ok.blt];exact h1.keeps I.bk) ((h2 x hn).trans hv) h) hd
def zH{x:Str}{v:V}(hg:Gl X x)(hm:X.mg x=some u)(r:RelV v u)(hd:ND x:=by decide):PE X (.Name x pos) (tC v):=
 λ_ _ _ H _ I h=>aEw I hg hm ⟨v,H,I,r,h⟩ hd
def aDs{x:Str}{v:V}(hg:Gl X x)(hm:X.mg x=none)(hv:bootBuiltins x=some u)(r:RelV v u)(hn:x≠"__name__":=by decide)(hd:ND x:=by decide):PE X (.Name x pos) (tC v):=
 λ_ _ _ H _ I h=>uK I hg hm hv ⟨v,H,I,r,h⟩ hn hd
variable {a b:Expr}{ta tb:TE}{pos:Pos}
def PC(X:Cx)(op:CmpOp)(a b:Expr)(t:TE):Prop:=
 ∀(pins:List (Addr×Obj))(s:Shared)(σ:St)(H:Hp)(Q:VK),Inv X pins σ H s->t σ H Q->
  wpAny (model X.prog X.w) X.A (eval a X.env) (λv s₁=>wpAny (model X.prog X.w) X.A (eval b X.env) (λu s₂=>wpAny (model X.prog X.w) X.A (compareOp op v u) (EP X pins σ Q) X.xe s₂) X.xe s₁) X.xe s
def aM0(b:Expr){op:CmpOp}(h:op≠.In)(h2:op≠.NotIn):behindInMarks op b=false:=by
 have e1:(op==CmpOp.In)=false:=by cases op<;>first|rfl|exact absurd rfl h
 have e2:(op==Vj)=false:=by cases op<;>first|rfl|exact absurd rfl h2
 cases b<;>simp[behindInMarks,e1,e2]
def aY0(ta:TE):TE:=λσ H Q=>ta σ H λx H1=>Q (.bl (decide (x=.non))) H1
def aTy(ta:TE):TE:=λσ H Q=>ta σ H λx H1=>Q (.bl (!decide (x=.non))) H1
def RelV.none_iff{x:V}{v:Value}(r:RelV x v):(v==Ce)=decide (x=.non):=by
 cases x with
 |non=>cases r;rfl
 |bl _=>cases r;rfl
 |int _=>obtain⟨t,rfl⟩:=r;rfl
 |str _=>obtain⟨t,rfl⟩:=r;rfl
 |byt _=>obtain⟨t,rfl⟩:=r;rfl
 |flt _=>obtain⟨t,rfl⟩:=r;rfl
 |ref _=>cases r;rfl
 |ty _=>cases r;rfl
def aXd{j pos'}(ha:PE X a ta):PC X .Is a (.Constant .none j pos') (aY0 ta):=by
 intro pins s σ H Q I h;refine thn (ha pins s σ H _ I h) λv s1 ⟨x,H1,I1,r1,q1⟩=>?_;exact Qz (is_none_gen ⟨.bl _,H1,I1,by rw[r1.none_iff];rfl,q1⟩)
def aSh{j pos'}(ha:PE X a ta):PC X .IsNot a (.Constant .none j pos') (aTy ta):=by
 intro pins s σ H Q I h;refine thn (ha pins s σ H _ I h) λv s1 ⟨x,H1,I1,r1,q1⟩=>?_;exact Qz (isnot_none_gen ⟨.bl _,H1,I1,by rw[r1.none_iff];rfl,q1⟩)
inductive bAw(x:V)(H:Hp)(Q:Bool->Hp->Prop):Prop
 |mk (c:_) (q0_:x=.bl c) (q1_:Q c H):bAw x H Q
def rBl(x:V)(H:Hp)(Q:Bool->Hp->Prop):Prop:=bAw x H Q
def tB(t:TE):TT:=λσ H Q=>t σ H λx H1=>rBl x H1 Q
def aMm{op:CmpOp}{t:TE}(h:PC X op a b t)(h1:behindInMarks op b=false:=by first|exact aM0 _ ⋯ ⋯|rfl):PT X (.Compare a [op] [b] pos) (tB t):=by
 intro pins s σ H Q I hw;refine Rp (thn (h pins s σ H _ I hw) λv s1 h1=>thn h1 λu s2 h2=>thn h2 λc s3 ⟨x,H1,I1,r1,q1⟩=>?_) h1;obtain⟨d,rfl,q⟩:=q1;cases r1;exact Ck ⟨H1,I1,q⟩
def aAh{e:Expr}{t:TE}(h:PE X e t)(he:∀whole,isTrue e X.env whole=(do let v<-whole;standAt e.pos;holding [v] (truthy v)):=by intro _;rfl):PT X e (tB t):=by
 intro pins s σ H Q I hw;refine isTrue_plain (thn (h pins s σ H _ I hw) λv s1 ⟨x,H1,I1,r1,q1⟩=>?_) (he _);obtain⟨d,rfl,q⟩:=q1;cases r1;exact Ck ⟨H1,I1,q⟩
variable {tA tB':TT}{rest:List Expr}
def bCp(t u:TT):TT:=λσ H Q=>t σ H λc H1=>if c=true then u σ H1 Q else Q false H1
def tOr(t u:TT):TT:=λσ H Q=>t σ H λc H1=>if c=true then Q true H1 else u σ H1 Q
def bBi(t:TT):TT:=λσ H Q=>t σ H λc H1=>Q (!c) H1
def aDc(ha:PT X a tA):PW X (.BoolOp .And [a] pos) tA:=by
 intro wh pins s σ H Q I h;refine isTrue_and (thn (ha pins s σ H Q I h) λc s1 e=>?_);cases c with
 |true=>exact isTrue_and_nil e
 |false=>exact e
def aQ9(ha:PT X a tA):PW X (.BoolOp .Or [a] pos) tA:=by
 intro wh pins s σ H Q I h;refine isTrue_or (thn (ha pins s σ H Q I h) λc s1 e=>?_);cases c with
 |false=>exact isTrue_or_nil e
 |true=>exact e
def aHg(ha:PT X a tA)(hb:PW X (.BoolOp .And (b::rest) pos) tB'):PW X (.BoolOp .And (a::b::rest) pos) (bCp tA tB'):=by
 intro wh pins s σ H Q I h;refine isTrue_and (thn (ha pins s σ H _ I h) λc s1 ⟨H1,I1,q1⟩=>?_);cases c with
 |true=>exact hb wh pins s1 σ H1 Q I1 q1
 |false=>exact⟨H1,I1,q1⟩
def aVl(ha:PT X a tA)(hb:PW X (.BoolOp .Or (b::rest) pos) tB'):PW X (.BoolOp .Or (a::b::rest) pos) (tOr tA tB'):=by
 intro wh pins s σ H Q I h;refine isTrue_or (thn (ha pins s σ H _ I h) λc s1 ⟨H1,I1,q1⟩=>?_);cases c with
 |true=>exact⟨H1,I1,q1⟩
 |false=>exact hb wh pins s1 σ H1 Q I1 q1
def aDv(ha:PT X a tA):PT X (.UnaryOp .Not a pos) (bBi tA):=by
 intro pins s σ H Q I h;exact isTrue_not (ha pins s σ H (λc H1=>Q (!c) H1) I h)
def aZl(ta tb:TE):TE:=λσ H Q=>ta σ H λx H1=>∃c,x=.bl c/\if c=true then tb σ H1 Q else Q (.bl false) H1
def aZb(ta:TE):TE:=λσ H Q=>ta σ H λx H1=>∃c,x=.bl c/\Q (.bl (!c)) H1
def aO0{op}{t:TE}(h:PE X a t):PE X (.BoolOp op [a] pos) t:=λpins s σ H Q I hw=>BoolOp_one (h pins s σ H Q I hw)
def aPj(ha:PE X a ta)(hb:PE X (.BoolOp .And (b::rest) pos) tb):PE X (.BoolOp .And (a::b::rest) pos) (aZl ta tb):=by
 intro pins s σ H Q I h;refine BoolOp_and (thn (ha pins s σ H _ I h) λv s1 ⟨x,H1,I1,r1,q1⟩=>?_);obtain⟨c,rfl,q1⟩:=q1;cases r1;refine Ck ?_;cases c with
 |true=>exact hb pins s1 σ H1 Q I1 q1
 |false=>exact⟨.bl false,H1,I1,rfl,q1⟩
def aWf(ha:PE X a ta):PE X (.UnaryOp .Not a pos) (aZb ta):=by
 intro pins s σ H Q I h;refine UnaryOp_ (thn (ha pins s σ H _ I h) λv s1 ⟨x,H1,I1,r1,q1⟩=>?_);obtain⟨c,rfl,q1⟩:=q1;cases r1;exact not_of (Ck ⟨.bl (!c),H1,I1,rfl,q1⟩)
end
def SqL(K:Ac)(H:Hp)(a:Addr)(xs:List V):Prop:=
 Rd H a (.lst xs)∨
  ∃(o:Obj)(its:Array Value)(n:Nat),K.lookup a=some o/\o.cls=.type "list"/\o.dict=none/\o.data=.seq its n/\its.size<=sizeLine/\Vals xs its.toList
def SqT(K:Ac)(H:Hp)(a:Addr)(xs:List V):Prop:=
 Rd H a (.tup xs)∨
  ∃(o:Obj)(its:Array Value)(n:Nat),K.lookup a=some o/\o.cls=.type "tuple"/\o.data=.seq its n/\its.size<=sizeLine/\Vals xs its.toList
def bCh:Value->Option V
 |.none=>some .non
 |.bool b=>some (.bl b)
 |.int i _=>some (.int i)
 |.str x _=>some (.str x)
 |.bytes b _=>some (.byt b)
 |.float b _=>some (.flt b)
 |.ref a=>some (.ref a)
 |.type n=>some (.ty n)
 |_=>none
def RelV.abs{x:V}(r:RelV x u):bCh u=some x:=by
 cases x with
 |non=>cases r;rfl
 |bl _=>cases r;rfl
 |int _=>obtain⟨t,rfl⟩:=r;rfl
 |str _=>obtain⟨t,rfl⟩:=r;rfl
 |byt _=>obtain⟨t,rfl⟩:=r;rfl
 |flt _=>obtain⟨t,rfl⟩:=r;rfl
 |ref _=>cases r;rfl
 |ty _=>cases r;rfl
def RelV.inj{x y:V}(r:RelV x u)(q:RelV y u):x=y:=Bk (r.abs.symm.trans q.abs)
def Vals.inj:∀{xs ys:List V}{us:List Value},Vals xs us->Vals ys us->xs=ys
 |_,_,_,.nil,.nil=>rfl
 |_,_,_,.cons r t,.cons r' t'=>by rw[r.inj r',Vals.inj t t']
section
variable {X:Cx}{pins:List (Addr×Obj)}{σ:St}{H:Hp}{s:Shared}{a:Addr}{xs ys:List V}
def SqL.of{K:Ac}(h:H a=some (.lst xs)):SqL K H a xs:=.inl (.inl h)
def SqT.of{K:Ac}(h:H a=some (.tup xs)):SqT K H a xs:=.inl (.inl h)
def Inv.list(I:Inv X pins σ H s)(h:SqL X.K H a xs):∃its:List Value,Vals xs its/\PlainL s.heap a its.toArray/\xs.length<=sizeLine:=by
 rcases h with h|⟨o,its,n,hk,hc,hd,hs,hz,r⟩
 ·obtain⟨z,its,n,r,e⟩:=h.ok I.hok;exact⟨its,r,⟨_,n,e,rfl,rfl,rfl⟩,z⟩
 ·refine⟨its.toList,r,⟨o,n,I.kIn a o hk,hc,hd,by simpa using hs⟩,?_⟩;have e:=r.length;simp only[Ao]at e
  lia
def Inv.tuple(I:Inv X pins σ H s)(h:SqT X.K H a xs):∃its:List Value,Vals xs its/\IsTup s.heap a its.toArray/\xs.length<=sizeLine:=by
 rcases h with h|⟨o,its,n,hk,hc,hs,hz,r⟩
 ·obtain⟨z,its,r,p⟩:=h.ok I.hok;exact⟨its,r,p,z⟩
 ·refine⟨its.toList,r,⟨o,I.kIn a o hk,hc,n,by simpa using hs⟩,?_⟩;have e:=r.length;simp only[Ao]at e
  lia
def Inv.list_inj(I:Inv X pins σ H s)(h:SqL X.K H a xs)(h':SqL X.K H a ys):xs=ys:=by
 obtain⟨its,r,⟨o,n,e,_,_,d⟩,_⟩:=I.list h;obtain⟨its',r',⟨o',n',e',_,_,d'⟩,_⟩:=I.list h';rw[e]at e';cases e';rw[d]at d';injection d' with d1 _
 have:its=its':=by simpa using congrArg Uk d1
 subst this;exact r.inj r'
def Inv.tuple_inj(I:Inv X pins σ H s)(h:SqT X.K H a xs)(h':SqT X.K H a ys):xs=ys:=by
 obtain⟨its,r,⟨o,e,_,n,d⟩,_⟩:=I.tuple h;obtain⟨its',r',⟨o',e',_,n',d'⟩,_⟩:=I.tuple h';rw[e]at e';cases e';rw[d]at d';injection d' with d1 _
 have:its=its':=by simpa using congrArg Uk d1
 subst this;exact r.inj r'
end
abbrev Cx.wish(X:Cx)(E:Value->Shared->Prop):Cx:={X with xe:=E}
abbrev Cx.nox(X:Cx):Cx:=X.wish λ_ _=>False
def Cx.Ok.wish{X:Cx}(ok:X.Ok)(E:Value->Shared->Prop):(X.wish E).Ok:=
 ⟨ok.mod,ok.kind,ok.glob,ok.blt,ok.above,ok.inj,ok.has,ok.cab,ok.hd,ok.frames,ok.stk,ok.exf,ok.bs,ok.bsz,ok.noex,ok.exfs,ok.funs,ok.frf⟩
def Cx.Ok.unwish{X:Cx}(ok:(X.wish E).Ok):X.Ok:=
 ⟨ok.mod,ok.kind,ok.glob,ok.blt,ok.above,ok.inj,ok.has,ok.cab,ok.hd,ok.frames,ok.stk,ok.exf,ok.bs,ok.bsz,ok.noex,ok.exfs,ok.funs,ok.frf⟩
section
variable {X:Cx}{pins:List (Addr×Obj)}{σ:St}{H:Hp}{s:Shared}{E:Value->Shared->Prop}
def Inv.wish(I:Inv X pins σ H s)(E:Value->Shared->Prop):Inv (X.wish E) pins σ H s:=⟨I.ok.wish E,I.os,I.bare,I.base,I.loc,I.cell,I.free,I.freeC,I.pin,I.hok,I.len⟩
def Inv.unwish(I:Inv (X.wish E) pins σ H s):Inv X pins σ H s:=⟨I.ok.unwish,I.os,I.bare,I.base,I.loc,I.cell,I.free,I.freeC,I.pin,I.hok,I.len⟩
def SP.unwish{D:Ends}{f:Flow}{s':Shared}(h:SP (X.wish E) pins D f s'):SP X pins D f s':=by
 cases f with
 |next=>obtain⟨σ',H',I,q⟩:=h;exact⟨σ',H',I.unwish,q⟩
 |brk=>obtain⟨σ',H',I,q⟩:=h;exact⟨σ',H',I.unwish,q⟩
 |cont=>obtain⟨σ',H',I,q⟩:=h;exact⟨σ',H',I.unwish,q⟩
 |ret u=>obtain⟨v,σ',H',I,r,q⟩:=h;exact⟨v,σ',H',I.unwish,r,q⟩
def PSs.nox{st:List Stmt}{t:TS}(h:PSs X.nox st t):PSs X st t:=λpins s σ H D I hw=>
 Du (h pins s σ H D (I.wish _) hw) (λ_ _ q=>q.unwish) λ_ _ z=>Et z
end
section
variable {X:Cx}{st:Stmt}{rest:List Stmt}{t u:TS}{e:Expr}{te:TE}{pos:Pos}
def aZ6:TS:=λD σ H=>D.nx σ H
def bBy(t u:TS):TS:=λD σ H=>t {D with nx:=u D} σ H
def cC:PSs X [] aZ6:=λ_ _ σ H _ I h=>Kk ⟨σ,H,I,h⟩
def aK(h1:PS X st t)(h2:PSs X rest u):PSs X (st::rest) (bBy t u):=by
 intro pins s σ H D I h;refine Vn (thn (h1 pins s σ H {D with nx:=u D} I h) λf s1 q=>?_);cases f with
 |next=>
  obtain⟨σ',H',I',q⟩:=q;exact h2 pins s1 σ' H' D I' q
 |ret v=>exact q
 |brk=>exact q
 |cont=>exact q
def aR(h1:PS X st t):PSs X [st] t:=by
 intro pins s σ H D I h;refine Vn (thn (h1 pins s σ H D I h) λf s1 q=>?_);cases f with
 |next=>exact Kk q
 |ret v=>exact q
 |brk=>exact q
 |cont=>exact q
def Inv.quiet{pins:List (Addr×Obj)}{σ:St}{H:Hp}{s:Shared}(I:Inv X pins σ H s):interactive X.env=false:=by simp[interactive,I.ok.kind]
def aZa(te:TE):TS:=λD σ H=>te σ H λ_ H1=>D.nx σ H1
def cQ(he:PE X e te)(hs:swapsWith e none pos.line X.env=pure false:=by rfl):PS X (.Expr e pos) (aZa te):=by
 intro pins s σ H D I h;exact wpAny_Expr_any (thn (he pins s σ H _ I h) λv s1 ⟨x,H1,I1,r1,q1⟩=>⟨σ,H1,I1,q1⟩) I.quiet hs
def bCj(te:TE):TS:=λD σ H=>te σ H D.rt
def cV(he:PE X e te):PS X (.Return (some e) pos) (bCj te):=by
 intro pins s σ H D I h;exact wpAny_Return_some (thn (he pins s σ H _ I h) λv s1 ⟨x,H1,I1,r1,q1⟩=>⟨x,σ,H1,I1,r1,q1⟩)
def bCi(c:TT)(t u:TS):TS:=λD σ H=>c σ H λb H1=>if b=true then t D σ H1 else u D σ H1
def fD{c:Expr}{a b:List Stmt}{tc:TT}(hc:PT X c tc)(ha:PSs X a t)(hb:PSs X b u):PS X (.If c a b pos) (bCi tc t u):=by
 intro pins s σ H D I h;refine wpAny_If (thn (hc pins s σ H _ I h) λd s1 ⟨H1,I1,q1⟩=>?_);cases d with
 |true=>exact ha pins s1 σ H1 D I1 q1
 |false=>exact hb pins s1 σ H1 D I1 q1
def aW6:TS:=λ_ _ _=>False
def eF:PS X st aW6:=λ_ _ _ _ _ _ h=>h.elim
end
abbrev TG:=V->St->Hp->(St->Hp->Prop)->Prop
abbrev TGs:=List V->St->Hp->(St->Hp->Prop)->Prop
def PG(X:Cx)(target:Expr)(t:TG):Prop:=
 ∀(pins:List (Addr×Obj))(s:Shared)(σ:St)(H:Hp)(v:V)(u:Value)(Q:St->Hp->Prop),Inv X pins σ H s->RelV v u->t v σ H Q->
  wpAny (model X.prog X.w) X.A (assign target X.env u) (λ_ s'=>∃σ' H',Inv X pins σ' H' s'/\Q σ' H') X.xe s
def PGs(X:Cx)(ts:List Expr)(t:TGs):Prop:=
 ∀(pins:List (Addr×Obj))(s:Shared)(σ:St)(H:Hp)(vs:List V)(us:List Value)(Q:St->Hp->Prop),Inv X pins σ H s->Vals vs us->t vs σ H Q->
  wpAny (model X.prog X.w) X.A (assignInOrder ((assignEach ts X.env).map (·.2)) us) (λ_ s'=>∃σ' H',Inv X pins σ' H' s'/\Q σ' H') X.xe s
abbrev aW0:=V->V->V->Hp->(Hp->Prop)->Prop
def aZd(X:Cx)(t:aW0):Prop:=
 ∀(pins:List (Addr×Obj))(s:Shared)(σ:St)(H:Hp)(o i v:V)(ov iv u:Value)(Q:Hp->Prop),Inv X pins σ H s->RelV o ov->RelV i iv->RelV v u->t o i v H Q->
  wpAny (model X.prog X.w) X.A (setItem ov iv u) (λ_ s'=>∃H',Inv X pins σ H' s'/\Q H') X.xe s
variable {pos:Pos}
def tW(i:Nat):TG:=λv σ H Q=>Q (σ.set i (some v)) H
def bR{x:Str}(hN:X.N.Nodup)(hi:X.N[i]? =some x)(hx:Loc X.env.scope x)(hf:FL X x:=by trivial):PG X (.Name x pos) (tW i):=by
 intro pins s σ H v u Q I r h;exact Um (aFk I hN hi hx r (λs' I'=>⟨_,H,I',h⟩) hf)
def bAi:TGs:=λvs σ H Q=>vs=[]/\Q σ H
def aT5(t:TG)(u:TGs):TGs:=λvs σ H Q=>∃v r,vs=v::r/\t v σ H λσ' H'=>u r σ' H' Q
def zQ:PGs X [] bAi:=by
 intro pins s σ H vs us Q I r h;obtain⟨e,h⟩:=h;subst e;cases r;exact assignInOrder_nil ⟨σ,H,I,h⟩
def mJ{e:Expr}{t:TG}{u:TGs}(h1:PG X e t)(h2:PGs X es u)
  (hs:(assignEach (e::es) X.env).map (·.2)=assign e X.env::(assignEach es X.env).map (·.2):=by rfl):PGs X (e::es) (aT5 t u):=by
 intro pins s σ H vs us Q I r h;obtain⟨v,vr,e1,h⟩:=h;subst e1;cases r with
 |cons r rr=>
  rw[hs];refine assignInOrder_cons (thn (h1 pins s σ H _ _ _ I r h) λ_ s1 ⟨σ1,H1,I1,q1⟩=>?_);exact h2 pins s1 σ1 H1 _ _ Q I1 rr q1
inductive aUy(K:Ac)(n:Nat)(t:TGs)(v:V)(σ:St)(H:Hp)(Q:(St->Hp->Prop)):Prop
 |mk (a xs:_) (q0_:v=.ref a) (q1_:SqT K H a xs) (q2_:xs.length=n) (q3_:t xs σ H Q):aUy K n t v σ H Q
def bAc(K:Ac)(n:Nat)(t:TGs):TG:=λv σ H Q=>aUy K n t v σ H Q
def aDo{t:TGs}{n:Nat}(hc:X.calm=true)(h:PGs X es t)
  (hn:(assignEach es X.env).length=n:=by rfl) (hst:(assignEach es X.env).findIdx? (·.1)=none:=by rfl):PG X (.Tuple es k pos) (bAc X.K n t):=by
 intro pins s σ H v u Q I r hw;obtain⟨a,xs,e1,hq,hl,hw⟩:=hw;subst e1;cases r;obtain⟨its,rv,ht,hz⟩:=I.tuple hq;refine assign_Tuple_tuple (I.ok.hd hc) ht (by simp[hn, <-hl,rv.length]) hst λh' hx=>?_;have I1:Inv X pins σ H {s with heap:=h'}:=I.kept (t':=s.toks) λb o e=>hx b o (Az (Ar e)) e;exact h pins _ σ H xs _ Q I1 (by simpa using rv) hw
def bCr(to ti:TE)(t:aW0):TG:=λv σ H Q=>to σ H λo H1=>ti σ H1 λi H2=>t o i v H2 λH3=>Q σ H3
def aNr{o i:Expr}{to ti:TE}{t:aW0}(ho:PE X o to)(hi:PE X i ti)(hs:aZd X t)
  (ha:∀v,assign (.Subscript o i pos) X.env v=(do
   let ov<-holding [v] (eval o X.env)
   let iv<-holding [v,ov] (eval i X.env)
   standAt pos
   holding [v,ov,iv] (setItem ov iv v)
   release [v,ov,iv] []):=by intro _;rfl):PG X (.Subscript o i pos) (bCr to ti t):=by
 intro pins s σ H v u Q I r h
 rw[ha]
 refine Aa (Bp (thn (ho pins s σ H _ I h) λov s1 ⟨x,H1,I1,r1,q1⟩=>?_))
 refine Aa (Bp (thn (hi pins s1 σ H1 _ I1 q1) λiv s2 ⟨y,H2,I2,r2,q2⟩=>?_))
 refine Aa (Mc (Aa (Bp (thn (hs pins s2 σ H2 x y v ov iv u _ I2 r1 r2 r q2) λ_ s3 ⟨H3,I3,q3⟩=>?_))))
 exact wpAny_release ⟨σ,H3,I3,q3⟩
def aNx(te:TE)(g:TG):TS:=λD σ H=>te σ H λx H1=>g x σ H1 D.nx
def aHj{tg e:Expr}{te:TE}{g:TG}(he:PE X e te)(hg:PG X tg g)(hs:swapsWithSole [tg] e pos.line X.env=pure false:=by rfl)(hw:swappedStores [tg] e X.env=pure none:=by rfl)
  (h1:(assignEach [tg] X.env).map (·.2)=[assign tg X.env]:=by rfl):PS X (.Assign [tg] e pos) (aNx te g):=by
 intro pins s σ H D I h;refine wpAny_Assign_stores (thn (he pins s σ H _ I h) λv s1 ⟨x,H1,I1,r1,q1⟩=>?_) hs hw;rw[h1];exact thn (hg pins s1 σ H1 x v _ I1 r1 q1) λ_ s2 q=>q
def iB{x:Str}{e:Expr}{te:TE}{pos':Pos}(hN:X.N.Nodup)(hi:X.N[i]? =some x)(hx:Loc X.env.scope x)(he:PE X e te)(hs:swapsWith e (some (.Name x pos')) pos.line X.env=pure false:=by rfl)(hf:FL X x:=by trivial):
  PS X (.Assign [.Name x pos'] e pos) (aNx te (tW i)):=by
 intro pins s σ H D I h;refine wpAny_Assign_Name (thn (he pins s σ H _ I h) λv s1 ⟨y,H1,I1,r1,q1⟩=>?_) hs;exact aFk I1 hN hi hx r1 (λs2 I2=>⟨_,H1,I2,q1⟩) hf
inductive aKe(c:TT)(tb:TS)(D:Ends)(σ:St)(H:Hp):Prop
 |mk (W:Nat->St->Hp->Prop) (q0_:(∃m,W m σ H)) (q1_:∀m σ H,W m σ H->c σ H λb H1=>if b=true then∃N:St->Hp->Prop,(∀σ' H',N σ' H'->∃m',m'<m/\W m' σ' H')/\tb {D with nx:=N,ct:=N,bk:=D.nx} σ H1 else D.nx σ H1):aKe c tb D σ H
def aWw(c:TT)(tb:TS):TS:=λD σ H=>aKe c tb D σ H
def uW{c:Expr}{tc:TT}{tb:TS}(hp:PassesOwn (model X.prog X.w) X.A X.env X.xe)(hc:PT X c tc)(hb:PSs X body tb):PS X (.While c body [] pos) (aWw tc tb):=by
 intro pins s σ H D I h;obtain⟨W,⟨m0,w0⟩,turn⟩:=h;refine wpAny_While (codeAny_whileLoop (λn s'=>∃σ' H',Inv X pins σ' H' s'/\W n σ' H') ?_ m0 ⟨σ,H,I,w0⟩);rintro n s1 ⟨σ1,H1,I1,w1⟩;refine Gc hp (thn (hc pins s1 σ1 H1 _ I1 (turn n σ1 H1 w1)) λb s2 ⟨H2,I2,q2⟩=>?_);cases b with
 |true=>
  obtain⟨N,hN,q2⟩:=q2;rw[if_pos rfl];refine Gc hp (thn (hb pins s2 σ1 H2 _ I2 q2) λf s3 q3=>?_);cases f with
  |next=>
   obtain⟨σ3,H3,I3,n3⟩:=q3;obtain⟨m',hm,w3⟩:=hN σ3 H3 n3;exact⟨m',hm,σ3,H3,I3,w3⟩
  |cont=>
   obtain⟨σ3,H3,I3,n3⟩:=q3;obtain⟨m',hm,w3⟩:=hN σ3 H3 n3;exact⟨m',hm,σ3,H3,I3,w3⟩
  |brk=>exact q3
  |ret v=>exact q3
 |false=>
  rw[if_neg Al];exact Kk ⟨σ1,H2,I2,q2⟩
structure It where
 go:Nat->Hp->Prop
 yld:Nat->Hp->V->Hp->Prop
 stop:Nat->Hp->Prop
def aFb(X:Cx)(pins:List (Addr×Obj))(H:Hp)(b:Addr):Prop:=
 H b=none/\b≠X.env.locals/\b∉X.fs/\(b∈X.ex∨X.s₀.heap.objs.size<=b)/\(∀x c,X.env.cells.lookup x=some c->c≠b)/\∀p∈X.pn++pins,p.1≠b
def Inv.fpOk{X:Cx}{pins:List (Addr×Obj)}{σ:St}{H H':Hp}{s:Shared}(I:Inv X pins σ H s)(hb:s.heap.objs.size<=b)(hn:H' b=none):aFb X pins H' b:=by
 refine⟨hn,Ij (Bg I.lt hb),I.nofs hb,.inr (Cc I.sz hb),λx c e z=>?_,λp hp z=>?_⟩
 ·obtain⟨v,q⟩:=I.cell x c e;exact absurd (Bg q.lt (by rw[z];exact hb)) (Ds _)
 ·exact absurd (Bg (Ar (I.pin p hp).1) (by rw[z];exact hb)) (Ds _)
structure Turn(P:Program)(w:World)(K:Ac)(tg:Expr)(J:It)(fp:List Addr)(it:Addr)(tn:Nat->Heap->Prop):Prop where
 mem:it∈fp
 obj:∀i h,tn i h->∀b∈fp,∃o,h.get? b=some o/\∀v,o.data≠.cell v
 keep:∀i h h',tn i h->(∀b∈fp,∀o,h.get? b=some o->h'.get? b=some o)->tn i h'
 item:∀(X:Cx),X.prog=P->X.w=w->X.K=K->X.calm=true->∀(i:Nat)(pins:List (Addr×Obj))(s:Shared)(σ:St)(H:Hp)(E:Value->Shared->Prop),Inv X pins σ H s->(∀b∈fp,aFb X pins H b)->tn i s.heap->J.go i H->
  wpAny (model P w) X.A (pyNext (.ref it)) (λr s1=>∃u,r=some u/\
   wpAny (model P w) X.A (letOwnedTupleGo tg (.ref it) u) (λ_ s2=>∃x H',Inv X pins σ H' s2/\RelV x u/\J.yld i H x H'/\tn (i+1) s2.heap/\∀b∈fp,H' b=none) E s1) E s
 done:∀(X:Cx),X.prog=P->X.w=w->X.K=K->X.calm=true->∀(i:Nat)(pins:List (Addr×Obj))(s:Shared)(σ:St)(H:Hp)(E:Value->Shared->Prop),Inv X pins σ H s->(∀b∈fp,aFb X pins H b)->tn i s.heap->J.stop i H->
  wpAny (model P w) X.A (pyNext (.ref it)) (λr s1=>r=none/\Inv X pins σ H s1) E s
 self:∀(A:Around)(i:Nat)(s:Shared)(Q:Value->Shared->Prop)(E:Value->Shared->Prop),tn i s.heap->Q (.ref it) s->wpAny (model P w) A (pyIter (.ref it)) Q E s
abbrev TI:=St->Hp->(It->Hp->Prop)->Prop
def PIE(X:Cx)(pins:List (Addr×Obj))(σ:St)(tg:Expr)(R:It->Hp->Prop)(itv:Value)(s2:Shared):Prop:=
 ∃(it:Addr)(fp:List Addr)(tn:Nat->Heap->Prop)(J:It)(H':Hp),itv=.ref it/\Inv X pins σ H' s2/\Turn X.prog X.w X.K tg J fp it tn/\tn 0 s2.heap/\(∀b∈fp,aFb X pins H' b)/\R J H'
def PI(X:Cx)(tg iter:Expr)(wi:TI):Prop:=
 ∀(pins:List (Addr×Obj))(s:Shared)(σ:St)(H:Hp)(R:It->Hp->Prop),Inv X pins σ H s->wi σ H R->
  wpAny (model X.prog X.w) X.A (eval iter X.env) (λv s1=>wpAny (model X.prog X.w) X.A (pyIter v) (PIE X pins σ tg R) X.xe s1) X.xe s
def aJ3 {M : Model} {s : Shared} {it : Addr} {o : Obj} {n : String} {vs : Array Value} {Q : Unit → Shared → Prop} (ho : s.heap.get? it = some o) (hc : o.cls = .type n) (hd : o.data = .fields vs)
    (hn : ["enumerate", "zip", "dict_itemiterator", "dict_reverseitemiterator", "odict_iterator", "itertools.zip_longest", "itertools.pairwise"].contains n = false) (hQ : Q () s) : wpAny M A (letOwnedTupleGo tg (.ref it) u) Q E s := by
  unfold letOwnedTupleGo
  cases tg <;> first
    | exact Ad hQ
    | (cases u <;> first
        | exact Ad hQ
        | (refine Aa (Mx ho ?_)
           rw [hc, hd]
           show wpAny M A (if (["enumerate", "zip", "dict_itemiterator", "dict_reverseitemiterator", "odict_iterator", "itertools.zip_longest", "itertools.pairwise"].contains n && vs[0]? == some (rawInt _)) = true then _ else _) Q E s
           rw [if_neg (by intro h; rw [hn, Ik] at h; cases h)]
           exact Ad hQ))
def Itl(K:Ac)(a:Addr):It:=
 ⟨λi H=>∃xs x,SqL K H a xs/\xs[i]? =some x,λi H x H'=>H'=H/\∀xs,SqL K H a xs->xs[i]? =some x,λi H=>∃xs,SqL K H a xs/\xs.length<=i⟩
def Itt(K:Ac)(a:Addr):It:=
 ⟨λi H=>∃xs x,SqT K H a xs/\xs[i]? =some x,λi H x H'=>H'=H/\∀xs,SqT K H a xs->xs[i]? =some x,λi H=>∃xs,SqT K H a xs/\xs.length<=i⟩
def Itr(lo:Int)(n:Nat):It:=⟨λi _=>i<n,λi H x H'=>H'=H/\x=.int (lo+i),λi _=>n<=i⟩
def aKp{P:Program}{w:World}{K:Ac}(a it:Addr):Turn P w K tg (Itl K a) [it] it (λi h=>h.IsListIter it a i) where
 mem:=by simp
 obj:=λi h st b hb=>by
  have e:b=it:=by simpa using hb
  subst e;obtain⟨o,e,c,d⟩:=st;exact⟨o,e,λv z=>by rw[d]at z;cases z⟩
 keep:=λi h h' st k=>st.at λo e=>k it (by simp) o e
 item:=by
  intro X hP hw hK hc i pins s σ H E I hf st hg;subst hP hw hK;obtain⟨xs,x,hq,hx⟩:=hg;obtain⟨its,rv,p,hz⟩:=I.list hq;obtain⟨u,hu,ru⟩:=rv.get hx;obtain⟨f0,f1,f2,f3,f4,f5⟩:=hf it (by simp);refine wpAny_pyNext_list_item st p.isList (x:=u) (by simpa using hu) λh' st' sb=>?_;have I1:Inv X pins σ H {s with heap:=h'}:=I.turned (t':=s.toks) (λb o hb e=>(sb.2 b hb).trans e) f0 f1 f3 f4 f5;obtain⟨o,e,c,d⟩:=id st';exact⟨u,rfl,aJ3 (s:={s with heap:=h'}) e c d ⋯ ⟨x,H,I1,ru,⟨rfl,λys hy=>by rw[I.list_inj hy hq];exact hx⟩,st',λb hb=>(hf b hb).1⟩⟩
 done:=by
  intro X hP hw hK hc i pins s σ H E I hf st hg;subst hP hw hK;obtain⟨xs,hq,hx⟩:=hg;obtain⟨its,rv,p,hz⟩:=I.list hq;obtain⟨f0,f1,f2,f3,f4,f5⟩:=hf it (by simp);have hl:=rv.length;exact wpAny_pyNext_list_end (I.ok.hd hc) st p.isList (by simp;lia) λh' eb=>⟨rfl,I.turned (t':=s.toks) (λb o hb e=>eb b o hb e) f0 f1 f3 f4 f5⟩
 self:=λ_ _ _ _ _ st h=>wpAny_pyIter_listiter st h
def aIl{P:Program}{w:World}{K:Ac}(a it:Addr):Turn P w K tg (Itt K a) [it] it (λi h=>h.IsTupleIter it a i) where
 mem:=by simp
 obj:=λi h st b hb=>by
  have e:b=it:=by simpa using hb
  subst e;obtain⟨o,e,c,d⟩:=st;exact⟨o,e,λv z=>by rw[d]at z;cases z⟩
 keep:=λi h h' st k=>st.at λo e=>k it (by simp) o e
 item:=by
  intro X hP hw hK hc i pins s σ H E I hf st hg;subst hP hw hK;obtain⟨xs,x,hq,hx⟩:=hg;obtain⟨its,rv,p,hz⟩:=I.tuple hq;obtain⟨u,hu,ru⟩:=rv.get hx;obtain⟨f0,f1,f2,f3,f4,f5⟩:=hf it (by simp);refine wpAny_pyNext_tuple_item st (show s.heap.IsTuple a its.toArray from p) (x:=u) (by simpa using hu) λh' st' sb=>?_;have I1:Inv X pins σ H {s with heap:=h'}:=I.turned (t':=s.toks) (λb o hb e=>(sb.2 b hb).trans e) f0 f1 f3 f4 f5;obtain⟨o,e,c,d⟩:=id st';exact⟨u,rfl,aJ3 (s:={s with heap:=h'}) e c d ⋯ ⟨x,H,I1,ru,⟨rfl,λys hy=>by rw[I.tuple_inj hy hq];exact hx⟩,st',λb hb=>(hf b hb).1⟩⟩
 done:=by
  intro X hP hw hK hc i pins s σ H E I hf st hg;subst hP hw hK;obtain⟨xs,hq,hx⟩:=hg;obtain⟨its,rv,p,hz⟩:=I.tuple hq;obtain⟨f0,f1,f2,f3,f4,f5⟩:=hf it (by simp);have hl:=rv.length;exact wpAny_pyNext_tuple_end (I.ok.hd hc) st (show s.heap.IsTuple a its.toArray from p) (by simp;lia) λh' eb=>⟨rfl,I.turned (t':=s.toks) (λb o hb e=>eb b o hb e) f0 f1 f3 f4 f5⟩
 self:=λ_ _ _ _ _ st h=>wpAny_pyIter_tupleiter st h
def aHv{P:Program}{w:World}{K:Ac}(it:Addr)(lo:Int)(n:Nat):Turn P w K tg (Itr lo n) [it] it (λi h=>IsRangeIter h it (lo+(i:Nat)*1) ((n:Int)-(i:Nat)) 1) where
 mem:=by simp
 obj:=λi h st b hb=>by
  have e:b=it:=by simpa using hb
  subst e;exact⟨_,st,λv z=>by
   have z':Wv _=Data.cell v:=z;cases z'⟩
 keep:=λi h h' st k=>k it (by simp) _ st
 item:=by
  intro X hP hw hK hc i pins s σ H E I hf st hg;subst hP hw hK;obtain⟨f0,f1,f2,f3,f4,f5⟩:=hf it (by simp);have W:=Walks.range (prog:=X.prog) (w:=X.w) (I.ok.hd hc) it lo 1 n;refine W.item i s _ _ hg st λv h' tk hv st' kk=>?_;obtain⟨t,rfl⟩:=hv;have I1:Inv X pins σ H {s with heap:=h',toks:=tk}:=I.turned (λb o hb e=>kk b o (by simpa using hb) e) f0 f1 f3 f4 f5;refine⟨_,rfl,aJ3 (s:={s with heap:=h',toks:=tk}) (n:="range_iterator") st' rfl rfl ⋯ ⟨.int (lo+i),H,I1,⟨t,?_⟩,⟨rfl,rfl⟩,st',λb hb=>(hf b hb).1⟩⟩;rw[Xk]
 done:=by
  intro X hP hw hK hc i pins s σ H E I hf st hg;subst hP hw hK;obtain⟨f0,f1,f2,f3,f4,f5⟩:=hf it (by simp);exact wpAny_pyNext_range_end (I.ok.hd hc) st (by have:n<=i:=hg;lia) λh' eb=>⟨rfl,I.turned (t':=s.toks) (λb o hb e=>eb b o hb e) f0 f1 f3 f4 f5⟩
 self:=λ_ _ _ _ _ st h=>wpAny_pyIter_rangeiter st h
variable {tg:Expr}
inductive aUk(K:Ac)(x:V)(H1:Hp)(R:It->Hp->Prop):Prop
 |mk (a:_) (q0_:x=.ref a) (q1_:(∃xs,SqL K H1 a xs)) (q2_:R (Itl K a) H1):aUk K x H1 R
def bCs(K:Ac)(x:V)(H1:Hp)(R:It->Hp->Prop):Prop:=aUk K x H1 R
def bAo(K:Ac)(tl:TE):TI:=λσ H R=>tl σ H λx H1=>bCs K x H1 R
def bB0(K:Ac)(tl:TE):TI:=λσ H R=>tl σ H λx H1=>∃a,x=.ref a/\(∃xs,SqT K H1 a xs)/\R (Itt K a) H1
def aR7{l:Expr}{tl:TE}(hl:PE X l tl):PI X tg l (bAo X.K tl):=by
 intro pins s σ H R I h;refine thn (hl pins s σ H _ I h) λv s1 ⟨x,H1,I1,r1,q1⟩=>?_;obtain⟨a,e,⟨xs,hq⟩,q⟩:=q1;subst e;cases r1;obtain⟨its,rv,p,hz⟩:=I1.list hq;refine Jm p.isList ?_;refine⟨s1.heap.objs.size,[s1.heap.objs.size],_,_,H1,rfl,I1.kept (t':=s1.toks) λb o e=>Ai _ e,aKp a _,⟨_,Ap _ rfl,rfl,rfl⟩,λb hb=>?_,q⟩;have e:b=s1.heap.objs.size:=by simpa using hb
 subst e;exact I1.fpOk (Am _) (I1.hok.fresh (Am _))
def aRh{l:Expr}{tl:TE}(hl:PE X l tl):PI X tg l (bB0 X.K tl):=by
 intro pins s σ H R I h;refine thn (hl pins s σ H _ I h) λv s1 ⟨x,H1,I1,r1,q1⟩=>?_;obtain⟨a,e,⟨xs,hq⟩,q⟩:=q1;subst e;cases r1;obtain⟨its,rv,p,hz⟩:=I1.tuple hq;refine wpAny_pyIter_tuple (show s1.heap.IsTuple a its.toArray from p) ?_;refine⟨s1.heap.objs.size,[s1.heap.objs.size],_,_,H1,rfl,I1.kept (t':=s1.toks) λb o e=>Ai _ e,aIl a _,⟨_,Ap _ rfl,rfl,rfl⟩,λb hb=>?_,q⟩;have e:b=s1.heap.objs.size:=by simpa using hb
 subst e;exact I1.fpOk (Am _) (I1.hok.fresh (Am _))
def aE9{pins:List (Addr×Obj)}{σ:St}{H:Hp}{s:Shared}{R:It->Hp->Prop}{lo hi:Int}{t u v:Tok}{tk:Nat}(I:Inv X pins σ H s)(h1: -(2 ^ 62)<=lo)(h2:lo<2 ^ 62)(h3: -(2 ^ 62)<=hi)(h4:hi<2 ^ 62)
  (q:R (Itr lo (hi-lo).toNat) H):wpAny (model X.prog X.w) X.A (pyIter (.ref s.heap.objs.size)) (PIE X pins σ tg R) E {s with heap:=s.heap.push {cls:=.type "range",data:=.fields #[.int lo t,.int hi u,.int 1 v]},toks:=tk}:=by
 refine wpAny_pyIter_range (IsRange.new ..) (small_one h1 h2 h3 h4) ?_;have I1:Inv X pins σ H {s with heap:=s.heap.push {cls:=.type "range",data:=.fields #[.int lo t,.int hi u,.int 1 v]},toks:=tk}:=I.kept λb o e=>Ai _ e;refine⟨(s.heap.push {cls:=.type "range",data:=.fields #[.int lo t,.int hi u,.int 1 v]}).objs.size,[(s.heap.push {cls:=.type "range",data:=.fields #[.int lo t,.int hi u,.int 1 v]}).objs.size],_,_,H,rfl,
  I1.kept (t':=tk) λb o e=>Ai _ e,aHv _ lo (hi-lo).toNat,?_,λb hb=>?_,q⟩
 ·have e1:lo+((0:Nat):Int)*1=lo:=by simp
  have e2:(((hi-lo).toNat:Nat):Int)-((0:Nat):Int)=Vm lo hi 1:=by rw[rangeSize_one];split<;>lia
  show IsRangeIter _ _ (lo+((0:Nat):Int)*1) ((((hi-lo).toNat:Nat):Int)-((0:Nat):Int)) 1;rw[e1,e2];exact Ap _ rfl
 ·have e:b=(s.heap.push {cls:=.type "range",data:=.fields #[.int lo t,.int hi u,.int 1 v]}).objs.size:=by simpa using hb
  subst e;exact I1.fpOk (Am _) (I1.hok.fresh (Am _))
inductive aT7(vs:List V)(H1:Hp)(R:It->Hp->Prop):Prop
 |mk (j:Int) (q0_:vs=[.int j]) (q1_: -(2 ^ 62)<=j) (q2_:j<2 ^ 62) (q3_:R (Itr 0 j.toNat) H1):aT7 vs H1 R
def bBu(vs:List V)(H1:Hp)(R:It->Hp->Prop):Prop:=aT7 vs H1 R
def bA2(ta:TA):TI:=λσ H R=>ta σ H λvs H1=>bBu vs H1 R
def aZ1(ta:TA):TI:=λσ H R=>ta σ H λvs H1=>∃i j:Int,vs=[.int i,.int j]/\(-(2 ^ 62)<=i/\i<2 ^ 62/\ -(2 ^ 62)<=j/\j<2 ^ 62)/\R (Itr i (j-i).toNat) H1
def aK8{a:Expr}{ta:TA}{p pos:Pos}(hg:Gl X "range")(hm:X.mg "range"=none)(ha:PA X [a] ta)(hs:starEach [a] X.env=[(false,eval a X.env)]:=by rfl):PI X tg (.Call (.Name "range" p) [a] [] pos) (bA2 ta):=by
 intro pins s σ H R I h;refine Call_ (uK I hg hm boot_range (Fb (thn (ha pos pins s σ H _ I h) λus s1 ⟨vs,H1,I1,r1,q1⟩=>?_) hs rfl));obtain⟨j,e,q1,q2,q⟩:=q1;subst e;cases r1 with
 |cons r rr=>
  cases rr;obtain⟨t,rfl⟩:=r;exact call_range_1 (aE9 I1 ∅ ∅ q1 q2 (by simpa using q))
def aLy{a b:Expr}{ta:TA}{p pos:Pos}(hg:Gl X "range")(hm:X.mg "range"=none)(ha:PA X [a,b] ta)(hs:starEach [a,b] X.env=[(false,eval a X.env),(false,eval b X.env)]:=by rfl)(hs2:starEach [b] X.env=[(false,eval b X.env)]:=by rfl):
  PI X tg (.Call (.Name "range" p) [a,b] [] pos) (aZ1 ta):=by
 intro pins s σ H R I h;refine Call_ (uK I hg hm boot_range (Fb (thn (ha pos pins s σ H _ I h) λus s1 ⟨vs,H1,I1,r1,q1⟩=>?_) (by rw[hs,hs2]) (by rw[hs2];rfl)));obtain⟨i,j,e,⟨q1,q2,q3,q4⟩,q⟩:=q1;subst e;cases r1 with
 |cons r rr=>
  cases rr with
  |cons r' rr=>
   cases rr;obtain⟨t,rfl⟩:=r;obtain⟨t',rfl⟩:=r';exact call_range_2 (aE9 I1 q1 q2 q3 q4 q)
def bCm(wi:TI)(g:TG)(tb:TS):TS:=λD σ H=>wi σ H λJ H1=>∃W:Nat->Nat->St->Hp->Prop,(∃m,W 0 m σ H1)/\∀i m σ H,W i m σ H->
 (J.stop i H/\D.nx σ H)∨(J.go i H/\∃N:St->Hp->Prop,(∀σ' H',N σ' H'->∃m',m'<m/\W (i+1) m' σ' H')/\∀x H',J.yld i H x H'->g x σ H' λσ2 H2=>tb {D with nx:=N,ct:=N,bk:=D.nx} σ2 H2)
def aEn(fp:List Addr)(h:Heap):List (Addr×Obj):=fp.filterMap λb=>(h.get? b).map λo=>(b,o)
def jQ{h:Heap}{o:Obj}(hb:b∈fp)(e:h.get? b=some o):(b,o)∈aEn fp h:=List.mem_filterMap.mpr ⟨b,hb,by rw[e];rfl⟩
def aK4{h:Heap}{p:Addr×Obj}(hp:p∈aEn fp h):p.1∈fp/\h.get? p.1=some p.2:=by
 obtain⟨b,hb,e⟩:=List.mem_filterMap.mp hp;cases q:h.get? b with
 |none=>rw[q]at e;cases e
 |some o=>
  rw[q]at e;have e':(b,o)=p:=Bk e;subst e';exact⟨hb,q⟩
def Inv.pinned{pins:List (Addr×Obj)}{σ:St}{H:Hp}{s:Shared}(I:Inv X pins σ H s)(hf:∀b∈fp,aFb X pins H b)(ho:∀b∈fp,∃o,s.heap.get? b=some o/\∀v,o.data≠.cell v):Inv X (pins++aEn fp s.heap) σ H s:=
 I.pins_of λp hp=>(List.mem_append.mp hp).elim (λz=>I.pin p (Bm _ z)) λz=>by
  obtain⟨hb,e⟩:=aK4 z;obtain⟨f0,f1,f2,_⟩:=hf p.1 hb;obtain⟨o,e',d⟩:=ho p.1 hb;rw[e]at e';cases e';exact⟨e,f0,f1,f2,d⟩
def Inv.unpinned{pins pl:List (Addr×Obj)}{σ:St}{H:Hp}{s:Shared}(I:Inv X (pins++pl) σ H s):Inv X pins σ H s:=I.pins_of λp hp=>I.pin p (Bm _ (Gb _ hp))
def aP9{iter:Expr}{wi:TI}{g:TG}{tb:TS}{pos:Pos}(hp:PassesOwn (model X.prog X.w) X.A X.env X.xe)(hc:X.calm=true)(hi:PI X tg iter wi)(hg:PG X tg g)(hb:PSs X body tb)
  (hs:FS X iter:=by intro _;rfl):PS X (.For tg iter body [] pos) (bCm wi g tb):=by
 intro pins s σ H D I h;refine wpAny_For (thn (hi pins s σ H _ I h) λv s1 h1=>thn h1 λitv s2 h2=>?_) hs;obtain⟨it,fp,tn,J,H2,e,I2,T,st2,f2,W,⟨m0,w0⟩,turn⟩:=h2;subst e;have stat:∀{H':Hp},(∀b∈fp,H' b=none)->∀b∈fp,aFb X pins H' b:=λhn b hb=>⟨hn b hb,(f2 b hb).2⟩;refine codeAny_forLoop_any (λn s'=>∃i σ' H',Inv X pins σ' H' s'/\tn i s'.heap/\(∀b∈fp,H' b=none)/\W i n σ' H') ?_ m0 ⟨0,σ,H2,I2,st2,λb hb=>(f2 b hb).1,w0⟩;rintro n s3 ⟨i,σ3,H3,I3,st3,fr3,w3⟩;rcases turn i n σ3 H3 w3 with ⟨stop,qn⟩|⟨go,N,hN,step⟩
 ·refine Gc hp (thn (T.done X rfl rfl rfl hc i pins s3 σ3 H3 X.xe I3 (stat fr3) st3 stop) λr s4 ⟨hr,I4⟩=>?_);subst hr;exact Kk ⟨σ3,H3,I4,qn⟩
 ·refine Gc hp (thn (T.item X rfl rfl rfl hc i pins s3 σ3 H3 X.xe I3 (stat fr3) st3 go) λr s4 ⟨u,hr,h4⟩=>?_);subst hr;refine Gc hp (thn h4 λ_ s5 ⟨x,H5,I5,r5,y5,st5,fr5⟩=>?_);have I5':=I5.pinned (stat fr5) (T.obj _ _ st5);refine Gc hp (thn (hg _ s5 σ3 H5 x u _ I5' r5 (step x H5 y5)) λ_ s6 ⟨σ6,H6,I6,q6⟩=>?_);refine Gc hp (thn (hb _ s6 σ6 H6 _ I6 q6) λf s7 q7=>?_);have again:∀{σ7:St}{H7:Hp},Inv X (pins++aEn fp s5.heap) σ7 H7 s7->N σ7 H7->∃m,m<n/\∃i σ' H',Inv X pins σ' H' s7/\tn i s7.heap/\(∀b∈fp,H' b=none)/\W i m σ' H':=λ{σ7 H7} I7 n7=>by
   obtain⟨m',hm,w7⟩:=hN σ7 H7 n7;refine⟨m',hm,i+1,σ7,H7,I7.unpinned,T.keep _ _ _ st5 λb hb o e=>(I7.pin (b,o) (Bm _ (Bm _ (jQ hb e)))).1,λb hb=>?_,w7⟩;obtain⟨o,e,d⟩:=T.obj _ _ st5 b hb;exact(I7.pin (b,o) (Bm _ (Bm _ (jQ hb e)))).2.1
  cases f with
  |next=>obtain⟨σ7,H7,I7,n7⟩:=q7;exact again I7 n7
  |cont=>obtain⟨σ7,H7,I7,n7⟩:=q7;exact again I7 n7
  |brk=>obtain⟨σ7,H7,I7,q7⟩:=q7;exact⟨σ7,H7,I7.unpinned,q7⟩
  |ret v=>obtain⟨x7,σ7,H7,I7,r7,q7⟩:=q7;exact⟨x7,σ7,H7,I7.unpinned,r7,q7⟩
abbrev R2:=V->V->Hp->VK->Prop
def OpR(X:Cx)(f:Value->Value->Sem Value)(r:R2):Prop:=
 ∀(pins:List (Addr×Obj))(s:Shared)(σ:St)(H:Hp)(x y:V)(v u:Value)(Q:VK),Inv X pins σ H s->RelV x v->RelV y u->r x y H Q->
  wpAny (model X.prog X.w) X.A (f v u) (EP X pins σ Q) X.xe s
def UnR(X:Cx)(f:Value->Sem Value)(r:V->Hp->VK->Prop):Prop:=
 ∀(pins:List (Addr×Obj))(s:Shared)(σ:St)(H:Hp)(x:V)(v:Value)(Q:VK),Inv X pins σ H s->RelV x v->r x H Q->
  wpAny (model X.prog X.w) X.A (f v) (EP X pins σ Q) X.xe s
def eE(X:Cx)(f:Value)(r:List V->Hp->VK->Prop):Prop:=
 ∀(pins:List (Addr×Obj))(s:Shared)(σ:St)(H:Hp)(xs:List V)(us:List Value)(Q:VK),Inv X pins σ H s->Vals xs us->r xs H Q->
  wpAny (model X.prog X.w) X.A (call f us) (EP X pins σ Q) X.xe s
def tOp(r:R2)(ta tb:TE):TE:=λσ H Q=>ta σ H λx H1=>tb σ H1 λy H2=>r x y H2 Q
def tUn(r:V->Hp->VK->Prop)(ta:TE):TE:=λσ H Q=>ta σ H λx H1=>r x H1 Q
inductive IrI(C:Int->Int->Prop)(g:Int->Int->V)(x:V)(y:V)(H:Hp)(Q:VK):Prop
 |mk (i j:_) (q0_:x=.int i) (q1_:y=.int j) (q2_:C i j) (q3_:Q (g i j) H):IrI C g x y H Q
def rI(C:Int->Int->Prop)(g:Int->Int->V):R2:=λx y H Q=>IrI C g x y H Q
def rI0(g:Int->Int->V):R2:=λx y H Q=>∃i j,x=.int i/\y=.int j/\Q (g i j) H
inductive IrU(g:Int->V)(x:V)(H:Hp)(Q:VK):Prop
 |mk (i:_) (q0_:x=.int i) (q1_:Q (g i) H):IrU g x H Q
def rU(g:Int->V):V->Hp->VK->Prop:=λx H Q=>IrU g x H Q
section
variable {X:Cx}{a b c:Expr}{ta tb tc:TE}{pos:Pos}
def aYk(ha:PE X a ta)(hb:PE X b tb){pins:List (Addr×Obj)}{s:Shared}{σ:St}{H:Hp}{R:V->V->Hp->Prop}(I:Inv X pins σ H s)
  (h:ta σ H λx H1=>tb σ H1 λy H2=>R x y H2) {f:Value->Value->Sem Value}
  (hf:∀v u s2 x y H2,Inv X pins σ H2 s2->RelV x v->RelV y u->R x y H2->wpAny (model X.prog X.w) X.A (f v u) Q X.xe s2):
  wpAny (model X.prog X.w) X.A (eval a X.env) (λv s₁=>wpAny (model X.prog X.w) X.A (eval b X.env) (λu s₂=>wpAny (model X.prog X.w) X.A (f v u) Q X.xe s₂) X.xe s₁) X.xe s:=by
 refine thn (ha pins s σ H _ I h) λv s1 ⟨x,H1,I1,r1,q1⟩=>?_;refine thn (hb pins s1 σ H1 _ I1 q1) λu s2 ⟨y,H2,I2,r2,q2⟩=>?_;exact hf v u s2 x y H2 I2 r1 r2 q2
def qI{op:Operator}{r:R2}(ho:OpR X (binaryOp op) r)(ha:PE X a ta)(hb:PE X b tb):PE X (.BinOp a op b pos) (tOp r ta tb):=by
 intro pins s σ H Q I h;exact wpAny_BinOp (aYk ha hb I h λv u s2 x y H2 I2 rx ry q=>ho pins s2 σ H2 x y v u Q I2 rx ry q)
def aNv{op:UnaryOp}{r:V->Hp->VK->Prop}(ho:UnR X (unaryOp op) r)(ha:PE X a ta):PE X (.UnaryOp op a pos) (tUn r ta):=by
 intro pins s σ H Q I h;exact UnaryOp_ (thn (ha pins s σ H _ I h) λv s1 ⟨x,H1,I1,r1,q1⟩=>ho pins s1 σ H1 x v Q I1 r1 q1)
def opI{f:Value->Value->Sem Value}{C:Int->Int->Prop}
  (rule:∀(i j:Int)(t u:Tok)(s:Shared)(Q:Value->Shared->Prop)(E:Value->Shared->Prop),C i j->Q (.int (g i j) s.toks) {s with toks:=s.toks+1}->wpAny (model X.prog X.w) X.A (f (.int i t) (.int j u)) Q E s):
  OpR X f (rI C λi j=> .int (g i j)):=by
 intro pins s σ H x y v u Q I rx ry h;obtain⟨i,j,rfl,rfl,hc,q⟩:=h;obtain⟨t,rfl⟩:=rx;obtain⟨t',rfl⟩:=ry;exact rule i j t t' s _ _ hc ⟨.int (g i j),H,I.tok _,⟨_,rfl⟩,q⟩
def aZ3{f:Value->Value->Sem Value}
  (rule:∀(i j:Int)(t u:Tok)(s:Shared)(Q:Value->Shared->Prop)(E:Value->Shared->Prop),Q (.int (g i j) s.toks) {s with toks:=s.toks+1}->wpAny (model X.prog X.w) X.A (f (.int i t) (.int j u)) Q E s):
  OpR X f (rI0 λi j=> .int (g i j)):=by
 intro pins s σ H x y v u Q I rx ry h;obtain⟨i,j,rfl,rfl,q⟩:=h;obtain⟨t,rfl⟩:=rx;obtain⟨t',rfl⟩:=ry;exact rule i j t t' s _ _ ⟨.int (g i j),H,I.tok _,⟨_,rfl⟩,q⟩
def aSk{f:Value->Value->Sem Value}{g:Int->Int->Bool}
  (rule:∀(i j:Int)(t u:Tok)(s:Shared)(Q:Value->Shared->Prop)(E:Value->Shared->Prop),Q (.bool (g i j)) s->wpAny (model X.prog X.w) X.A (f (.int i t) (.int j u)) Q E s):
  OpR X f (rI0 λi j=> .bl (g i j)):=by
 intro pins s σ H x y v u Q I rx ry h;obtain⟨i,j,rfl,rfl,q⟩:=h;obtain⟨t,rfl⟩:=rx;obtain⟨t',rfl⟩:=ry;exact rule i j t t' s _ _ ⟨.bl (g i j),H,I,rfl,q⟩
def bB6(i j:Int):Prop:=0<j/\j<1073741824
def bBv(i j:Int):Prop:=0<=j/\j<=1000000/\i.natAbs<2 ^ 64
def aW1(i j:Int):Prop:=(-(2 ^ 64)<i/\i<2 ^ 64)∨(-(2 ^ 64)<j/\j<2 ^ 64)
def aW1.ok{i j:Int}(h:aW1 i j):IntMulOk i j:=by
 rcases h with ⟨h1,h2⟩|⟨h1,h2⟩
 ·exact .of_left (intBits_le_64 h1 h2)
 ·exact .of_right (intBits_le_64 h1 h2)
def uD:OpR X (binaryOp .Add) (rI0 λi j=> .int (i+j)):=aZ3 λ_ _ _ _ _ _ _ q=>add_int q
def iJ:OpR X (binaryOp .Sub) (rI0 λi j=> .int (i-j)):=aZ3 λ_ _ _ _ _ _ _ q=>sub_int q
def kZ:OpR X (binaryOp .Mult) (rI aW1 λi j=> .int (i*j)):=opI λ_ _ _ _ _ _ _ hc q=>mul_int q hc.ok
def wB:OpR X (binaryOp .FloorDiv) (rI bB6 λi j=> .int (i / j)):=opI λi j _ _ _ _ _ hc q=>by
 have h1:(0:Int)<j:=hc.1;have h2:j<1073741824:=hc.2;exact floordiv_int ∅ (by rw[Nv i ∅];exact q) (.inl (PyProof.noPylong_small ∅))
def nU:OpR X (binaryOp .Mod) (rI (λ_ j=>0<j) λi j=> .int (i % j)):=opI λi j _ _ _ _ _ hc q=>by
 have h1:(0:Int)<j:=hc;exact mod_int' ∅ (by rw[Int.fmod_eq_emod_of_nonneg i ∅];exact q)
def aQn:OpR X (binaryOp .Pow) (rI bBv λi j=> .int (i ^ j.toNat)):=opI λ_ _ _ _ _ _ _ hc q=>pow_int_small hc.1 hc.2.1 hc.2.2 q
def unI{f:Value->Sem Value}{g:Int->Int}
  (rule:∀(i:Int)(t:Tok)(s:Shared)(Q:Value->Shared->Prop)(E:Value->Shared->Prop),Q (.int (g i) s.toks) {s with toks:=s.toks+1}->wpAny (model X.prog X.w) X.A (f (.int i t)) Q E s):
  UnR X f (rU λi=> .int (g i)):=by
 intro pins s σ H x v Q I rx h;obtain⟨i,rfl,q⟩:=h;obtain⟨t,rfl⟩:=rx;exact rule i t s _ _ ⟨.int (g i),H,I.tok _,⟨_,rfl⟩,q⟩
def aHb:UnR X (unaryOp .USub) (rU λi=> .int (-i)):=unI λ_ _ _ _ _ q=>neg_int q
end
def aZ2:V->V->Bool
 |.non,.non=>true|.non,.int _=>true|.int _,.non=>true|.non,.bl _=>true|.bl _,.non=>true|.non,.str _=>true|.str _,.non=>true
 |.int _,.int _=>true|.bl _,.bl _=>true|.str _,.str _=>true|.byt _,.byt _=>true
 |.int _,.str _=>true|.str _,.int _=>true|.bl _,.str _=>true|.str _,.bl _=>true
 |_,_=>false
def rEq:R2:=λx y H Q=>aZ2 x y=true/\Q (.bl (decide (x=y))) H
def rNe:R2:=λx y H Q=>aZ2 x y=true/\Q (.bl (!decide (x=y))) H
def aKh{i j:Int}:decide (V.int i=V.int j)=(i==j):=by
 rw[Ex];simp
def aPz{i j:Bool}:decide (V.bl i=V.bl j)=(i==j):=by
 rw[Ex];simp
def aKk{i j:Str}:decide (V.str i=V.str j)=(i==j):=by
 rw[Ex];simp
def aJ8{i j:Array UInt8}:decide (V.byt i=V.byt j)=(i.toList==j.toList):=by
 rw[Ex];cases i;cases j;simp
section
variable {X:Cx}{a b c:Expr}{ta tb tc:TE}{pos:Pos}
def cD{pins:List (Addr×Obj)}{σ:St}{H:Hp}{s:Shared}{Q:VK}{k k':Bool}(I:Inv X pins σ H s)(q:Q (.bl k) H)(e:k=k'):EP X pins σ Q (.bool k') s:=by
 subst e;exact⟨.bl k,H,I,rfl,q⟩
def oH:OpR X (compareOp .Eq) rEq:=by
 intro pins s σ H x y v u Q I rx ry h;obtain⟨hs,q⟩:=h;cases x with
 |non=>
  cases rx;cases y with
  |non=>cases ry;exact Wb (cD I q (by simp))
  |bl j=>cases ry;exact We (cD I q (by simp))
  |int j=>obtain⟨t',rfl⟩:=ry;exact Wc (cD I q (by simp))
  |str j=>obtain⟨t',rfl⟩:=ry;exact Wa (cD I q (by simp))
  |_=>exact(Al hs).elim
 |bl i=>
  cases rx;cases y with
  |non=>cases ry;exact Wh (cD I q (by simp))
  |bl j=>cases ry;exact eq_bool (cD I q aPz)
  |str j=>obtain⟨t',rfl⟩:=ry;exact Vc (cD I q (by simp))
  |_=>exact(Al hs).elim
 |int i=>
  obtain⟨t,rfl⟩:=rx;cases y with
  |non=>cases ry;exact Wg (cD I q (by simp))
  |int j=>obtain⟨t',rfl⟩:=ry;exact eq_int (cD I q aKh)
  |str j=>obtain⟨t',rfl⟩:=ry;exact Vb (cD I q (by simp))
  |_=>exact(Al hs).elim
 |str i=>
  obtain⟨t,rfl⟩:=rx;cases y with
  |non=>cases ry;exact Vz (cD I q (by simp))
  |bl j=>cases ry;exact Va (cD I q (by simp))
  |int j=>obtain⟨t',rfl⟩:=ry;exact Uz (cD I q (by simp))
  |str j=>obtain⟨t',rfl⟩:=ry;exact eq_str (cD I q aKk)
  |_=>exact(Al hs).elim
 |byt i=>
  obtain⟨t,rfl⟩:=rx;cases y with
  |byt j=>obtain⟨t',rfl⟩:=ry;exact PySem.W.eq_bytes (cD I q aJ8)
  |_=>exact(Al hs).elim
 |_=>cases y<;>exact(Al hs).elim
def aKd:OpR X (compareOp .NotEq) rNe:=by
 intro pins s σ H x y v u Q I rx ry h;obtain⟨hs,q⟩:=h;cases x with
 |non=>
  cases rx;cases y with
  |non=>cases ry;exact Vu (cD I q (by simp))
  |bl j=>cases ry;exact Vw (cD I q (by simp))
  |int j=>obtain⟨t',rfl⟩:=ry;exact Vv (cD I q (by simp))
  |str j=>obtain⟨t',rfl⟩:=ry;exact Vt (cD I q (by simp))
  |_=>exact(Al hs).elim
 |bl i=>
  cases rx;cases y with
  |non=>cases ry;exact Vy (cD I q (by simp))
  |bl j=>cases ry;exact ne_bool (cD I q (congrArg not aPz))
  |str j=>obtain⟨t',rfl⟩:=ry;exact Uy (cD I q (by simp))
  |_=>exact(Al hs).elim
 |int i=>
  obtain⟨t,rfl⟩:=rx;cases y with
  |non=>cases ry;exact Vx (cD I q (by simp))
  |int j=>obtain⟨t',rfl⟩:=ry;exact ne_int (cD I q (congrArg not aKh))
  |str j=>obtain⟨t',rfl⟩:=ry;exact Ux (cD I q (by simp))
  |_=>exact(Al hs).elim
 |str i=>
  obtain⟨t,rfl⟩:=rx;cases y with
  |non=>cases ry;exact Vs (cD I q (by simp))
  |bl j=>cases ry;exact Uw (cD I q (by simp))
  |int j=>obtain⟨t',rfl⟩:=ry;exact Uv (cD I q (by simp))
  |str j=>obtain⟨t',rfl⟩:=ry;exact ne_str (cD I q (congrArg not aKk))
  |_=>exact(Al hs).elim
 |byt i=>
  obtain⟨t,rfl⟩:=rx;cases y with
  |byt j=>obtain⟨t',rfl⟩:=ry;exact PySem.W.ne_bytes (cD I q (congrArg not aJ8))
  |_=>exact(Al hs).elim
 |_=>cases y<;>exact(Al hs).elim
def vH:OpR X (compareOp .Lt) (rI0 λi j=> .bl (decide (i<j))):=aSk λ_ _ _ _ _ _ _ q=>lt_int q
def wJ:OpR X (compareOp .LtE) (rI0 λi j=> .bl (decide (i<=j))):=aSk λ_ _ _ _ _ _ _ q=>le_int q
def tG:OpR X (compareOp .Gt) (rI0 λi j=> .bl (decide (j<i))):=aSk λ_ _ _ _ _ _ _ q=>gt_int q
def bAq:OpR X (compareOp .GtE) (rI0 λi j=> .bl (decide (j<=i))):=aSk λ_ _ _ _ _ _ _ q=>ge_int q
def aLq:OpR X (compareOp .In) (λx y H Q=>∃i j,x=.str i/\y=.str j/\Q (.bl (!(Lu j i 0 j.length 1).isEmpty)) H):=by
 intro pins s σ H x y v u Q I rx ry h;obtain⟨i,j,rfl,rfl,q⟩:=h;obtain⟨t,rfl⟩:=rx;obtain⟨t',rfl⟩:=ry;exact in_str (cD I q rfl)
def OpR.or{f:Value->Value->Sem Value}{r r':R2}(h:OpR X f r)(h':OpR X f r'):OpR X f (λx y H Q=>r x y H Q∨r' x y H Q):=by
 intro pins s σ H x y v u Q I rx ry q;rcases q with q|q
 ·exact h pins s σ H x y v u Q I rx ry q
 ·exact h' pins s σ H x y v u Q I rx ry q
def cZ(b:Expr){op:CmpOp}(h:op≠.In:=by decide)(h2:op≠.NotIn:=by decide):behindInMarks op b=false:=by
 have e1:(op==CmpOp.In)=false:=by cases op<;>first|rfl|exact absurd rfl h
 have e2:(op==Vj)=false:=by cases op<;>first|rfl|exact absurd rfl h2
 cases b<;>simp[behindInMarks,e1,e2]
def aEb{op:CmpOp}{r:R2}(ho:OpR X (compareOp op) r)(ha:PE X a ta)(hb:PE X b tb)(hm:behindInMarks op b=false):PE X (.Compare a [op] [b] pos) (tOp r ta tb):=by
 intro pins s σ H Q I h;exact wpAny_Compare1 (aYk ha hb I h λv u s2 x y H2 I2 rx ry q=>ho pins s2 σ H2 x y v u Q I2 rx ry q) hm
def aN4(t:TE):TT:=λσ H Q=>t σ H λx H1=>rBl x H1 Q
def cM{op:CmpOp}{r:R2}(ho:OpR X (compareOp op) r)(ha:PE X a ta)(hb:PE X b tb)(hm:behindInMarks op b=false):PT X (.Compare a [op] [b] pos) (aN4 (tOp r ta tb)):=by
 intro pins s σ H Q I h;refine Rp (thn (ha pins s σ H _ I h) λv s1 ⟨x,H1,I1,r1,q1⟩=>thn (hb pins s1 σ H1 _ I1 q1) λu s2 ⟨y,H2,I2,r2,q2⟩=>
  thn (ho pins s2 σ H2 x y v u _ I2 r1 r2 q2) λc s3 ⟨z,H3,I3,r3,k,e,q3⟩=>?_) hm
 subst e;cases r3;exact Ck ⟨H3,I3,q3⟩
def aH1(r r':R2)(ta tb tc:TE):TE:=λσ H Q=>ta σ H λx H1=>tb σ H1 λy H2=>r x y H2 λz H3=>∃k,z=.bl k/\
 (if k=true then tc σ H3 λw' H4=>r' y w' H4 Q else Q (.bl false) H3)
def aMn{op op':CmpOp}{r r':R2}(ho:OpR X (compareOp op) r)(ho':OpR X (compareOp op') r')(ha:PE X a ta)(hb:PE X b tb)(hc:PE X c tc)
  (hm:lastMarks [op,op'] [b,c]=false:=by with_unfolding_all rfl):PE X (.Compare a [op,op'] [b,c] pos) (aH1 r r' ta tb tc):=by
 intro pins s σ H Q I h;refine Compare_chain (thn (ha pins s σ H _ I h) λv s1 ⟨x,H1,I1,r1,q1⟩=>chain_link (thn (hb pins s1 σ H1 _ I1 q1) λu s2 ⟨y,H2,I2,r2,q2⟩=>
  thn (ho pins s2 σ H2 x y v u _ I2 r1 r2 q2) λd s3 ⟨z,H3,I3,r3,k,e,q3⟩=>?_)) hm
 subst e;cases r3;refine Ck ?_;cases k with
 |false=>exact ite_ff ⟨.bl false,H3,I3,rfl,q3⟩
 |true=>exact ite_tt (chain_last (thn (hc pins s3 σ H3 _ I3 q3) λw' s4 ⟨z',H4,I4,r4,q4⟩=>ho' pins s4 σ H4 y z' u w' Q I4 r2 r4 q4))
def aOc{op op':CmpOp}{r r':R2}(ho:OpR X (compareOp op) r)(ho':OpR X (compareOp op') r')(ha:PE X a ta)(hb:PE X b tb)(hc:PE X c tc)
  (hm:lastMarks [op,op'] [b,c]=false:=by with_unfolding_all rfl):PT X (.Compare a [op,op'] [b,c] pos) (aN4 (aH1 r r' ta tb tc)):=by
 intro pins s σ H Q I h;refine isTrue_chain (thn (ha pins s σ H _ I h) λv s1 ⟨x,H1,I1,r1,q1⟩=>test_link (thn (hb pins s1 σ H1 _ I1 q1) λu s2 ⟨y,H2,I2,r2,q2⟩=>
  thn (ho pins s2 σ H2 x y v u _ I2 r1 r2 q2) λd s3 ⟨z,H3,I3,r3,k,e,q3⟩=>?_)) hm
 subst e;cases r3;refine Ck ?_;cases k with
 |false=>
  obtain⟨k',e',q'⟩:=q3;cases e';exact ite_ff ⟨H3,I3,q'⟩
 |true=>
  refine ite_tt (test_last (thn (hc pins s3 σ H3 _ I3 q3) λw' s4 ⟨z',H4,I4,r4,q4⟩=>thn (ho' pins s4 σ H4 y z' u w' _ I4 r2 r4 q4) λd' s5 ⟨z2,H5,I5,r5,k2,e2,q5⟩=>?_));subst e2;cases r5;exact Ck ⟨H5,I5,q5⟩
def wY:(sizeLine:Nat)<2 ^ 63:=by rw[Cp];decide
def aAi:OpR X (binaryOp .Add) (λx y H Q=>∃i j,x=.str i/\y=.str j/\i.length+j.length<=sizeLine/\Q (.str (i++j)) H):=by
 intro pins s σ H x y v u Q I rx ry h;obtain⟨i,j,rfl,rfl,hz,q⟩:=h;obtain⟨t,rfl⟩:=rx;obtain⟨t',rfl⟩:=ry;exact add_str (λt' tk=>⟨.str (i++j),H,I.tok _,⟨_,rfl⟩,q⟩) hz
def vals1{x:V}(r:Vals [x] us):∃u,us=[u]/\RelV x u:=by
 cases r with
 |cons r1 r2=>cases r2;exact⟨_,rfl,r1⟩
def vals2{x y:V}(r:Vals [x,y] us):∃u w',us=[u,w']/\RelV x u/\RelV y w':=by
 cases r with
 |cons r1 r2=>
  cases r2 with
  |cons r3 r4=>cases r4;exact⟨_,_,rfl,r1,r3⟩
def aL7(hc:X.calm=true):eE X (.builtin "max") (λxs H Q=>∃i j,xs=[.int i,.int j]/\Q (.int (if j>i then j else i)) H):=by
 intro pins s σ H xs us Q I r h;obtain⟨i,j,rfl,q⟩:=h;obtain⟨u,w',rfl,⟨t,rfl⟩,⟨t',rfl⟩⟩:=vals2 r;refine max_two_ints (I.ok.hd hc) λh' tk k=>⟨_,H,I.kept k,?_,q⟩;by_cases hj:j>i
 ·rw[if_pos hj,if_pos hj];exact⟨_,rfl⟩
 ·rw[if_neg hj,if_neg hj];exact⟨_,rfl⟩
def aLd(hc:X.calm=true):eE X (.builtin "min") (λxs H Q=>∃i j,xs=[.int i,.int j]/\Q (.int (if j<i then j else i)) H):=by
 intro pins s σ H xs us Q I r h;obtain⟨i,j,rfl,q⟩:=h;obtain⟨u,w',rfl,⟨t,rfl⟩,⟨t',rfl⟩⟩:=vals2 r;refine min_two_ints (I.ok.hd hc) λh' tk k=>⟨_,H,I.kept k,?_,q⟩;by_cases hj:j<i
 ·rw[if_pos hj,if_pos hj];exact⟨_,rfl⟩
 ·rw[if_neg hj,if_neg hj];exact⟨_,rfl⟩
def aB1:eE X (.type "int") (λxs H Q=>(∃i,xs=[.int i]/\Q (.int i) H)∨∃k,xs=[.bl k]/\Q (.int (if k then 1 else 0)) H):=by
 intro pins s σ H xs us Q I r h;rcases h with ⟨i,rfl,q⟩|⟨k,rfl,q⟩
 ·obtain⟨u,rfl,t,rfl⟩:=vals1 r;exact call_int_int ⟨.int i,H,I,⟨_,rfl⟩,q⟩
 ·obtain⟨u,rfl,r1⟩:=vals1 r;cases r1;exact call_int_bool ⟨.int (if k then 1 else 0),H,I.tok _,⟨_,rfl⟩,q⟩
def aDk:eE X (.type "str") (λxs H Q=>∃i,xs=[.int i]/\i.natAbs.log2<1920/\Q (.str (toString i)) H):=by
 intro pins s σ H xs us Q I r h;obtain⟨i,rfl,hz,q⟩:=h;obtain⟨u,rfl,t,rfl⟩:=vals1 r;exact PySem.P.str_of_int hz ⟨.str _,H,I.tok _,⟨_,rfl⟩,q⟩
end
structure aHf(h:Heap)(x dx C:Addr)(mA:Str->Option Value):Prop where
 obj:h.get? x=some (Er C dx)
 ns:h.Ns1 dx mA
 ne:dx≠x
def aKy{h:Heap}{dx:Addr}(n:h.Ns1 dx mA):∃od,h.get? dx=some od/\∀name,Jo name od=some (mA name):=by
 obtain⟨o,es,ep,ho,hd,hk,_,hm⟩:=n;refine⟨o,ho,λname=>?_⟩;have e:=hm name;unfold nsFind findBy at e;rw[<-Array.find?_toList]at e;unfold Jo;rw[hd];dsimp only;split
 ·rename_i y q;rw[q]at e;exact congrArg some e
 ·rename_i q;rw[q]at e;have a:es.toList.any (·.refKey)=false:=by
   rw[List.any_eq_false];intro y hy;obtain⟨z,t,hkey⟩:=hk y (Array.mem_toList_iff.mp hy);simp[DictEntry.refKey,hkey]
  have a':¬es.toList.any (·.refKey)=true:=by rw[a];exact Al
  rw[if_neg a'];exact congrArg some e
def aHf.look{h:Heap}{x dx C:Addr}(I:aHf h x dx C mA):∃od,PySem.W.InstAt h x (Er C dx) C (some od)/\∀name,Jo name od=some (mA name):=
 let⟨od,ho,hl⟩:=aKy I.ns
 ⟨od,⟨I.obj,rfl,rfl,ho⟩,hl⟩
variable {prog:Program}{A:Around}{E:Value->Shared->Prop}{K:Ac}{x dx C f:Addr}{mA:Str->Option Value}{name:Str}{v:Value}
def aDd{expr:Bool}(X:K.In s.heap)(I:aHf s.heap x dx C mA)(hg:Iu K C name=true)(hh:Kr K C=true)
  (ha:Dd K (.ref C) name=some none) (hv:mA name=some v) (hv':Qj v=true) (h:Q v {s with toks:=s.toks+1}):
  wpAny (model prog w) A (getAttr (.ref x) name expr) Q E s:=by
 obtain⟨od,J,hl⟩:=I.look;exact PySem.W.get_value X J (Js hg).1 (PySem.W.findObj_own hh ha rfl (by rw[hl,hv])) hv' h
def aNa{pl:Sem Bool}{Q:Value×List Value->Shared->Prop}(X:K.In s.heap)(I:aHf s.heap x dx C mA)(hg:Iu K C name=true)
  (hf:Dd K (.ref C) name=some (some (.ref f))) (ht:Of K (.ref f)=true) (hv:mA name=none) (h:Q (.ref f,[.ref x]) s):
  wpAny (model prog w) A (getMethod (.ref x) name pl) Q E s:=by
 obtain⟨od,J,hl⟩:=I.look;exact PySem.W.method_fn X J (Js hg).1 (Js hg).2 hf (beq_iff_eq.mp ht) (by show(Jo name od).map (·.isSome)=some false;rw[hl,hv];rfl) h
def aTo{ns:List Str}{Q:Unit->Shared->Prop}(X:K.In s.heap)(I:aHf s.heap x dx C mA)
  (hs:Dd K (.ref C) "__setattr__"=some (some (.builtin "object.__setattr__"))) (hp:Pw K C=true) (ht:Li K C name=some none) (hh:Kr K C=true)
  (hw:Ox mA ns) (hsz:ns.length<=sizeLine)
  (h:∀h',aHf h' x dx C (λy=>if y=name then some v else mA y)->Cg dx s.heap h'->Q () {s with heap:=h',toks:=s.toks+2}):
  wpAny (model prog w) A (setAttr (.ref x) name v) Q E s:=by
 obtain⟨od,J,hl⟩:=I.look;refine PySem.W.set_plain X J hs (PySem.W.osa_open (s:={s with toks:=s.toks+1}) (r:=none) X J hp ht λb=>?_);obtain⟨cd,hc,hd'⟩:=PySem.W.any_some hh;have hx:s.heap.get? x=some ⟨.ref C,some dx,.plain, #[]⟩:=I.obj;refine Aa (Ad (Aa (Aa (wpAny_loadPart hx (Aa (Uu (s:={s with toks:=s.toks+1}) (PySem.W.looks_clsIn X hc) ?_))))));rw[hd'];refine Ad (a:=some dx) (Aa (Ad (Aa ?_)));refine wpAny_nsSet1 (s:={s with toks:=s.toks+1}) I.ns λh' hn2 hs2=>?_;obtain⟨oD,esD,epD,hoD,hdD,hcD⟩:=hn2.count (Vr name v hw);refine Aa (wpAny_lookBehind hoD (by rw[hdD];exact pastItsLine_dict (Cc hcD (by rw[Ah];lia))) ?_);exact Ad (h _ ⟨(hs2.2 _ (Cy I.ne)).trans I.obj,hn2,I.ne⟩ hs2)
def aO3{R:Result->Shared->Prop}{vs:List Value}(X:K.In s.heap)(hm:Lj K C=true)
  (hi:Dd K (.ref C) "__init__"=some (some (.ref f))) (hf:PySem.W.typeIn K (.ref f)=some (.type "function"))
  (h:codeAny (model prog w) (A.under (.builtin "type.__call__" ⟨.ref C::vs,kw⟩)) (.call (.ref f) ⟨.ref (s.heap.objs.size+1)::vs,kw⟩) (PySem.W.InitBack (s.heap.objs.size+1) R)
   {s with heap:=(s.heap.push Di).push (Er C s.heap.objs.size)}):
  codeAny (model prog w) A (.call (.ref C) ⟨vs,kw⟩) R s:=by
 obtain⟨hh,g,d,t,os⟩:=s;exact PySem.W.make_core (PySem.W.makes_of X hm) (PySem.W.looks_findIn X hi) (λself=>PySem.W.bind_fn X self hf) (.inl rfl) h
def jZ(f:Str)(v:V):List (Str×V)->List (Str×V)
 | []=>[(f,v)]
 |(g,x)::r=>if g=f then(g,v)::r else(g,x)::jZ f v r
theorem xX(f g:Str)(v:V):∀fs:List (Str×V),(jZ f v fs).lookup g=if g=f then some v else fs.lookup g
 | []=>by
  show Fp g [(f,v)]=_;by_cases h:g=f
  ·have hb:(g==f)=true:=beq_iff_eq.mpr h;simp only[Fp,hb,if_pos h]
  ·have hb:(g==f)=false:=beq_eq_false_iff_ne.mpr h;simp only[Fp,hb,if_neg h]
 |(k,x)::r=>by
  have ih:=xX f g v r;rw[show jZ f v ((k,x)::r)=(if k=f then(k,v)::r else(k,x)::jZ f v r)from rfl];by_cases hk:k=f
  ·rw[if_pos hk];by_cases h:g=k
   ·have hb:(g==k)=true:=beq_iff_eq.mpr h;simp only[Fp,hb,if_pos (h.trans hk)]
   ·have hb:(g==k)=false:=beq_eq_false_iff_ne.mpr h;simp only[Fp,hb,if_neg (λe:g=f=>h (e.trans hk.symm))]
  ·rw[if_neg hk];by_cases h:g=k
   ·have hb:(g==k)=true:=beq_iff_eq.mpr h;simp only[Fp,hb,if_neg (λe:g=f=>hk (h.symm.trans e))]
   ·have hb:(g==k)=false:=beq_eq_false_iff_ne.mpr h;simp only[Fp,hb];exact ih
theorem wR(f:Str)(v:V):∀fs:List (Str×V),f∈(jZ f v fs).map (·.1)/\∀g,g∈fs.map (·.1)->g∈(jZ f v fs).map (·.1)
 | []=>⟨by simp[jZ],λg h=>by simp at h⟩
 |(k,x)::r=>by
  obtain⟨i1,i2⟩:=wR f v r;rw[show jZ f v ((k,x)::r)=(if k=f then(k,v)::r else(k,x)::jZ f v r)from rfl];by_cases hk:k=f
  ·rw[if_pos hk];subst hk;exact⟨by simp,λg h=>by simpa using h⟩
  ·rw[if_neg hk];refine⟨?_,λg h=>?_⟩
   ·rw[Au];exact Ae _ i1
   ·rw[Au]at h⊢;rcases List.mem_cons.mp h with e|e
    ·exact List.mem_cons.mpr (.inl e)
    ·exact Ae _ (i2 g e)
theorem yD(f:Str)(v:V):∀fs:List (Str×V),(jZ f v fs).length<=fs.length+1
 | []=>by simp[jZ]
 |(k,x)::r=>by
  have ih:=yD f v r;rw[show jZ f v ((k,x)::r)=(if k=f then(k,v)::r else(k,x)::jZ f v r)from rfl];by_cases hk:k=f
  ·rw[if_pos hk,Ah,Ah];lia
  ·rw[if_neg hk,Ah,Ah];lia
def tE.some_of{v:V}{o:Option Value}(r:tE (some v) o):∃u,o=some u/\RelV v u:=by
 cases o with
 |none=>exact(show False from r).elim
 |some u=>exact⟨u,rfl,r⟩
def tE.none_of{o:Option Value}(r:tE none o):o=none:=by
 cases o with
 |none=>rfl
 |some u=>exact(show False from r).elim
def aK2{v:V}(r:RelV v u):Qj u=true:=by
 cases v with
 |non=>cases (show u=Ce from r);rfl
 |bl b=>cases (show u=Gj b from r);rfl
 |int i=>obtain⟨t,e⟩:=(show∃t,u=Cv i t from r);cases e;rfl
 |str x=>obtain⟨t,e⟩:=(show∃t,u=Kn x t from r);cases e;rfl
 |byt b=>obtain⟨t,e⟩:=(show∃t,u=Ut b t from r);cases e;rfl
 |flt b=>obtain⟨t,e⟩:=(show∃t,u=Pr b t from r);cases e;rfl
 |ref a=>cases (show u=An a from r);rfl
 |ty n=>cases (show u=Hq n from r);rfl
variable {fs fs':List (Str×V)}
def zL(hok:HOk P w H h)(e:H a=some (.ins C dx fs)):∃mA,aHf h a dx C mA/\(∀f,tE (fs.lookup f) (mA f))/\Ox mA (fs.map (·.1))/\fs.length<=1000/\H dx=some (.own a):=by
 obtain⟨d,z,ne,ob,mA,n,r,q⟩:=(show cF P w H h a (.ins C dx fs)from hok a _ e);exact⟨mA,⟨ob,n,ne⟩,r,q,z,d⟩
structure Cls(K:Ac)(C:Addr):Prop where
 pg:Iu K C Str.empty=true
 hd:Kr K C=true
 po:Pw K C=true
 sa:Dd K (.ref C) "__setattr__"=some (some (.builtin "object.__setattr__"))
def Cls.get{K:Ac}{C:Addr}(c:Cls K C)(f:Str):Iu K C f=true:=c.pg
def kW(K:Ac)(C:Addr)(f:Str):Prop:=Dd K (.ref C) f=some none
def kW.taker{K:Ac}{C:Addr}{f:Str}(n:kW K C f):Li K C f=some none:=by
 unfold Li;rw[show Dd K (.ref C) f=some none from n];rfl
structure Meth(K:Ac)(C:Addr)(m:Str)(f:Addr):Prop where
 at_:Dd K (.ref C) m=some (some (.ref f))
 fn:Of K (.ref f)=true
 kp:Fz K (.ref f)=true
section
variable {X:Cx}{pins:List (Addr×Obj)}{σ:St}{H:Hp}{s:Shared}{a C dx:Addr}{fs:List (Str×V)}{f:Str}{v:V}{A:Around}{E:Value->Shared->Prop}
def aIe{b:Bool}(I:Inv X pins σ H s)(e:H a=some (.ins C dx fs))(c:Cls X.K C)(n:kW X.K C f)(l:fs.lookup f=some v)
  (h:∀u s',Inv X pins σ H s'->RelV v u->Q u s'):wpAny (model X.prog X.w) A (getAttr (.ref a) f b) Q E s:=by
 obtain⟨mA,O,r,_,_,_⟩:=zL I.hok e;obtain⟨u,hu,ru⟩:=tE.some_of (v:=v) (o:=mA f) (by rw[<-l];exact r f);exact aDd I.kIn O (c.get f) c.hd n hu (aK2 ru) (h u _ (I.tok _) ru)
def aA2{m:Str}{g:Addr}{pl:Sem Bool}{Q:Value×List Value->Shared->Prop}(I:Inv X pins σ H s)(e:H a=some (.ins C dx fs))(c:Cls X.K C)(k:Meth X.K C m g)(l:fs.lookup m=none)
  (h:Q (.ref g,[.ref a]) s):wpAny (model X.prog X.w) A (getMethod (.ref a) m pl) Q E s:=by
 obtain⟨mA,O,r,_,_,_⟩:=zL I.hok e;have hn:mA m=none:=tE.none_of (by rw[<-l];exact r m);exact aNa I.kIn O (c.get m) k.at_ k.fn hn h
def aH5{y:V}{Q:Unit->Shared->Prop}(I:Inv X pins σ H s)(e:H a=some (.ins C dx fs))(c:Cls X.K C)(n:kW X.K C f)(hl:fs.length<1000)(ry:RelV y u)
  (h:∀s',Inv X pins σ (upd H a (.ins C dx (jZ f y fs))) s'->Q () s'):wpAny (model X.prog X.w) A (setAttr (.ref a) f u) Q E s:=by
 obtain⟨mA,O,r,wi,_,ho⟩:=zL I.hok e;have hz:(fs.map (·.1)).length<=sizeLine:=by rw[Ab,Cp];lia
 refine aTo I.kIn O c.sa c.po n.taker c.hd wi hz λh' O' sb=>h _ ?_;have hd:∃o,h'.get? dx=some o:=let⟨o,_,_,e',_⟩:=O'.ns;⟨o,e'⟩;refine I.write (x:=a) (e:=dx) (by rw[e];exact Dx) (.inr ho) (λb q hb z=>(sb.2 b hb).trans z) hd ?_;refine⟨by rw[aP O.ne];exact ho,?_,O.ne,O'.obj,_,O'.ns,λg=>?_,λg hg=>?_⟩
 ·have:=yD f y fs;lia
 ·show tE ((jZ f y fs).lookup g) (if g=f then some u else mA g);rw[xX];by_cases q:g=f
  ·rw[if_pos q,if_pos q];exact ry
  ·rw[if_neg q,if_neg q];exact r g
 ·by_cases q:g=f
  ·rw[q];exact(wR f y fs).1
  ·refine(wR f y fs).2 g (wi g λz=>hg ?_);show(if g=f then some u else mA g)=none;rw[if_neg q];exact z
def Inv.made(I:Inv X pins σ H s):Inv X pins σ (upd (upd H s.heap.objs.size (.own (s.heap.objs.size+1))) (s.heap.objs.size+1) (.ins C s.heap.objs.size []))
  {s with heap:=(s.heap.push Di).push (Er C s.heap.objs.size)}:=by
 have e1:(s.heap.push Di).get? s.heap.objs.size=some Di:=Ap s.heap rfl;have e2:((s.heap.push Di).push (Er C s.heap.objs.size)).get? (s.heap.objs.size+1)=some (Er C s.heap.objs.size):=by
  have:=Ap (s.heap.push Di) (o:=Er C s.heap.objs.size) rfl
  rwa [Dp]at this
 have e3:(s.heap.push Di).Ns s.heap.objs.size (λ_=>none):=⟨Di, #[],_,e1,rfl,(λe he=>absurd he (by simp)),λ_=>rfl⟩;have I1:=I.laid (a:=s.heap.objs.size) (o:=.own (s.heap.objs.size+1)) (h':=s.heap.push Di) (t':=s.toks) (λb u q=>Ai _ q) (Am _) ⟨_,e1⟩;refine I1.laid (a:=s.heap.objs.size+1) (o:=.ins C s.heap.objs.size []) (t':=s.toks) (λb u q=>Ai _ q) (Wr (Dp _ _)) ?_;have ne:s.heap.objs.size≠s.heap.objs.size+1:=Az (El _);refine⟨by rw[aP ne,aJ],Ay _,ne,e2,λ_=>none,(Heap.Ns1.of_empty e3).at λo q=>Ai _ q,λ_=>Dx,λy hy=>absurd rfl hy⟩
def aTv{prog:Program}{w:World}{env:Env}{e:Expr}{f:Str}{pos:Pos}{s:Shared}(hb:attributeBase e f env (eval e env)=eval e env)
  (h:wpAny (model prog w) A (eval e env) (λo s₁=>wpAny (model prog w) A (getAttr o f true) Q E s₁) E s):wpAny (model prog w) A (eval (.Attribute e f pos) env) Q E s:=
 Attribute_any_ h (by rw[arm_eval_Attribute,hb])
end
def bBl(K:Ac)(ta:TE)(f:Str):TE:=λσ H Q=>ta σ H λx H1=>∃a C dx fs v,x=.ref a/\H1 a=some (.ins C dx fs)/\Cls K C/\kW K C f/\fs.lookup f=some v/\Q v H1
def bCf(K:Ac)(ta tv:TE)(f:Str):TS:=λD σ H=>tv σ H λy H1=>ta σ H1 λx H2=>∃a C dx fs,x=.ref a/\H2 a=some (.ins C dx fs)/\Cls K C/\kW K C f/\fs.length<1000/\
 D.nx σ (upd H2 a (.ins C dx (jZ f y fs)))
section
variable {X:Cx}{o e value:Expr}{f:Str}{pos pos' tpos:Pos}{ta tv:TE}
def mC(he:PE X e ta)(hb:attributeBase e f X.env (eval e X.env)=eval e X.env):PE X (.Attribute e f pos) (bBl X.K ta f):=by
 intro pins s σ H Q I h;refine aTv hb (thn (he pins s σ H _ I h) λu s1 ⟨x,H1,I1,rx,a,C,dx,fs,v,ex,ea,c,n,l,q⟩=>?_);subst ex;obtain rfl:u=An a:=rx;exact aIe I1 ea c n l λu' s2 I2 ru=>⟨v,H1,I2,ru,q⟩
def dN(ha:PE X o ta)(hv:PE X value tv)(hs:swapsWith value (some (.Attribute o f pos')) pos.line X.env=pure false):PS X (.Assign [.Attribute o f pos'] value pos) (bCf X.K ta tv f):=by
 intro pins s σ H D I h;refine plainObj_wpAny_Assign_Attribute (thn (hv pins s σ H _ I h) λu s1 ⟨y,H1,I1,ry,q⟩=>thn (ha pins s1 σ H1 _ I1 q) λov s2 ⟨x,H2,I2,rx,a,C,dx,fs,ex,ea,c,n,l,q2⟩=>?_) hs;subst ex;obtain rfl:ov=An a:=rx;exact aH5 I2 ea c n l ry λs3 I3=>⟨σ,_,I3,q2⟩
end
section
variable {X:Cx}{pins:List (Addr×Obj)}{σ:St}{H:Hp}{s:Shared}{A:Around}{E:Value->Shared->Prop}{Q:Value->Shared->Prop}{c:Value}{b:Bool}
inductive wK(K:Ac)(H:Hp):V->Value->Prop where
 |non:wK K H .non (.type "NoneType")
 |bl (x:Bool):wK K H (.bl x) (.type "bool")
 |int (i:Int):wK K H (.int i) (.type "int")
 |str (x:Str):wK K H (.str x) (.type "str")
 |flt (x:UInt64):wK K H (.flt x) (.type "float")
 |lst {a:Addr} {xs:List V} (e:H a=some (.lst xs)):wK K H (.ref a) (.type "list")
 |frz {a:Addr} {o:Obj} {xs:List V} (e:H a=some (.frz o (.lst xs))):wK K H (.ref a) (.type "list")
 |tup {a:Addr} {xs:List V} (e:H a=some (.tup xs)):wK K H (.ref a) (.type "tuple")
 |dK {a:Addr} {kvs:List (Key×V)} (e:H a=some (.dK kvs)):wK K H (.ref a) (.type "dict")
 |dT {a:Addr} {kvs:List (List Key×V)} (e:H a=some (.dT kvs)):wK K H (.ref a) (.type "dict")
 |ins {a C dx:Addr} {fs:List (Str×V)} (e:H a=some (.ins C dx fs)) (cl:Cls K C) (ha:Dd K (.ref C) "__class__"=some (some (.builtin "object.__class__")))
   (hn:PySem.W.specialIn K (.builtin "object.__class__") "__get__"=some (some (.builtin "getset_descriptor.__get__"))) (htk:PySem.W.takesIn K (.builtin "object.__class__")=some true)
   (hm:PySem.W.mroIn K C (.type "object")=some true):wK K H (.ref a) (.ref C)
def aLx{x:V}{u t:Value}(I:Inv X pins σ H s)(rx:RelV x u)(ty:wK X.K H x t)(e:Me X.K t c=some b)(h:∀tk,Q (.bool b) {s with toks:=tk}):
  wpAny (model X.prog X.w) A (call (.builtin "isinstance") [u,c]) Q E s:=by
 cases ty with
 |non=>cases (show u=Ce from rx);exact Ct PySem.W.kitx_none I.kIn Dx e (λz=>nomatch z) h
 |bl y=>cases (show u=Gj y from rx);exact Ct PySem.W.kitx_bool I.kIn Dx e (λz=>nomatch z) h
 |int i=>obtain⟨t,q⟩:=(show∃t,u=Cv i t from rx);cases q;exact Ct PySem.W.kitx_int I.kIn Dx e (λz=>nomatch z) h
 |str y=>obtain⟨t,q⟩:=(show∃t,u=Kn y t from rx);cases q;exact Ct PySem.W.kitx_str I.kIn Dx e (λz=>nomatch z) h
 |flt y=>obtain⟨t,q⟩:=(show∃t,u=Pr y t from rx);cases q;exact Ct PySem.W.kitx_float I.kIn Dx e (λz=>nomatch z) h
 |@lst a xs ea=>
  cases (show u=An a from rx);obtain⟨_,_,n,_,h1⟩:=(show cF X.prog X.w H s.heap a (.lst xs)from I.hok a _ ea);exact Ct Px I.kIn ⟨_,h1,rfl⟩ e (λz=>nomatch z) h
 |@frz a ob xs ea=>
  cases (show u=An a from rx);obtain⟨_,_,_,n,_,h1⟩:=(show cF X.prog X.w H s.heap a (.frz ob (.lst xs))from I.hok a _ ea);exact Ct Px I.kIn ⟨_,h1,rfl⟩ e (λz=>nomatch z) h
 |@tup a xs ea=>
  cases (show u=An a from rx);obtain⟨_,_,_,p⟩:=(show cF X.prog X.w H s.heap a (.tup xs)from I.hok a _ ea);obtain⟨o,h1,h2,_⟩:=p;exact Ct PySem.W.kitx_tuple I.kIn ⟨o,h1,h2⟩ e (λz=>nomatch z) h
 |@dK a kvs ea=>
  cases (show u=An a from rx);obtain⟨_,_,vs,_,p⟩:=(show cF X.prog X.w H s.heap a (.dK kvs)from I.hok a _ ea);obtain⟨o,es,ep,h1,h2,_⟩:=p;exact Ct Kq I.kIn ⟨o,h1,h2.1⟩ e (λz=>nomatch z) h
 |@dT a kvs ea=>
  cases (show u=An a from rx);obtain⟨_,_,xs,_,o,es,ep,h1,h2,_⟩:=(show cF X.prog X.w H s.heap a (.dT kvs)from I.hok a _ ea);exact Ct Kq I.kIn ⟨o,h1,h2.1⟩ e (λz=>nomatch z) h
 |@ins a C dx fs ea cl ha hn htk hm=>
  cases (show u=An a from rx);obtain⟨mA,O,_⟩:=zL I.hok ea;obtain⟨od,J,_⟩:=O.look;exact Ct (PySem.W.kitx_own (cl.get _) cl.hd ha hn htk hm) I.kIn J e (λz=>nomatch z) h
end
structure dG(k:Nat)(A:Around):Prop where
 hd:A.handled=none
 dp:A.depth+3*k+5<recursionLimit
 un:A.units+16*k+200<cLine
def dG.mono{j k:Nat}{A:Around}(r:dG k A)(h:j<=k):dG j A:=⟨r.hd,by have:=r.dp;lia,by have:=r.un;lia⟩
def dG.deeper{A:Around}(r:dG (k+1) A)(env:Env):dG k (A.deeper env):=
 ⟨r.hd,by have:=r.dp;show A.depth+1+3*k+5<_;lia,by have:=r.un;show A.units+3+16*k+200<_;lia⟩
def aIk{A:Around}{C:Addr}:(A.under (.builtin "type.__call__" ⟨.ref C::us,kw⟩)).depth=A.depth+1:=by
 first|rfl|simp[Os,Code.weight,Code.isCreation,Code.isGuard,Code.isCaller,Ww,Pg,guardIds]
def aHa{A:Around}{C:Addr}:(A.under (.builtin "type.__call__" ⟨.ref C::us,kw⟩)).units=A.units+1:=by
 first|rfl|simp[Os,Code.cUnits,Ww,Pg]
def dG.make{A:Around}(r:dG (k+1) A)(C:Addr)(us:List Value)(kw:List (Str×Value)):dG k (A.under (.builtin "type.__call__" ⟨.ref C::us,kw⟩)):=
 ⟨r.hd,by have:=r.dp;rw[aIk];lia,by have:=r.un;rw[aHa];lia⟩
def dG.depth{A:Around}(r:dG k A):A.depth<recursionLimit:=by have:=r.dp;lia
def dG.units{A:Around}(r:dG k A):A.units+64<cLine:=by have:=r.un;lia
def aS2:TA:=λ_ H Q=>Q [] H
def aNc(ta:TE)(tr:TA):TA:=λσ H Q=>ta σ H λx H1=>tr σ H1 λxs H2=>Q (x::xs) H2
section
variable {X:Cx}{e:Expr}{es:List Expr}{te:TE}{t:TA}{pos:Pos}
def aZ:PA X [] aS2:=λ_ _ _ _ H Q I h=>Calls.spliced_nil ⟨[],H,I,.nil,h⟩
def aM(ha:PE X e te)(hr:PA X es t)(hs:SE X e es:=by rfl):PA X (e::es) (aNc te t):=by
 intro pos pins s σ H Q I h;rw[hs];show wpAny _ _ (spliced ((false,eval e X.env)::backTo pos (starEach es X.env))) _ _ s;refine Calls.spliced_cons (thn (ha pins s σ H _ I h) λu s1 ⟨x,H1,I1,r1,q1⟩=>?_);exact thn (hr pos pins s1 σ H1 _ I1 q1) λus s2 ⟨xs,H2,I2,r2,q2⟩=>⟨x::xs,H2,I2,.cons r1 r2,q2⟩
def bB8(t:TA):TE:=λσ H Q=>t σ H λxs H1=>xs.length<=sizeLine/\∀p,H1 p=none->Q (.ref p) (upd H1 p (.tup xs))
def bCo(t:TA):TE:=λσ H Q=>t σ H λxs H1=>xs.length<=sizeLine/\∀p,H1 p=none->Q (.ref p) (upd H1 p (.lst xs))
def aVw{x1}(h:PA X es t):PE X (.Tuple es x1 pos) (bB8 t):=by
 intro pins s σ H Q I hq;refine wpAny_Tuple_spliced (thn (h pos pins s σ H _ I hq) λus s1 ⟨xs,H1,I1,r,z,q⟩=>⟨by rw[<-r.length];exact z,?_⟩);have hf:H1 s1.heap.objs.size=none:=I1.hok.fresh (Am _);refine⟨.ref s1.heap.objs.size,upd H1 s1.heap.objs.size (.tup xs),I1.laid (t':=s1.toks) (λb u e=>Ai _ e) (Am _) ?_,rfl,q _ hf⟩;exact⟨z,us,r,⟨_,Ap _ rfl,rfl,_,rfl⟩⟩
def aOw(h:PA X es t):PE X (.List es pos) (bCo t):=by
 intro pins s σ H Q I hq;refine wpAny_List_spliced (thn (h pos pins s σ H _ I hq) λus s1 ⟨xs,H1,I1,r,z,q⟩=>⟨by rw[<-r.length];exact z,?_⟩);have hf:H1 s1.heap.objs.size=none:=I1.hok.fresh (Am _);refine⟨.ref s1.heap.objs.size,upd H1 s1.heap.objs.size (.lst xs),I1.laid (t':=s1.toks) (λb u e=>Ai _ e) (Am _) ?_,rfl,q _ hf⟩;exact⟨z,us,0,r,Ap _ rfl⟩
end
abbrev Sp:=List V->Hp->VK->XK->Prop
abbrev CXT:=List Env->Hp->Shared->XK->Value->Shared->Prop
structure aHh(P:Program)(w:World)(K:Ac)(mg:Str->Option Value)(base:Heap)(A:Around)(outer:List Env)(s:Shared)(H:Hp):Prop where
 frames:A.frames=some outer
 mod:Mod K mg base
 bs:∀b o,base.get? b=some o->s.heap.get? b=some o/\H b=none
 bsz:base.objs.size<=s.heap.objs.size
 funs:s.heap.FunFrames base outer
 frf:∀b∈frs outer,H b=none
 hok:HOk P w H s.heap
 bare:AllBare s.gens
def CE(outer:List Env)(P:Program)(w:World)(H:Hp)(s:Shared)(Q:VK)(u:Value)(s':Shared):Prop:=
 ∃v H',s'.os=s.os/\AllBare s'.gens/\Un (frs outer) [] H H' s.heap s'.heap/\HOk P w H' s'.heap/\RelV v u/\Q v H'
def CR(CX:CXT)(outer:List Env)(P:Program)(w:World)(H:Hp)(s:Shared)(Q:VK)(E:XK)(r:Result)(s':Shared):Prop:=
 match r with
 |.ok (.ret u)=>CE outer P w H s Q u s'
 |.ok _=>False
 |.error e=>CX outer H s E e s'
structure bC(P:Program)(w:World)(K:Ac)(mg:Str->Option Value)(base:Heap)(CX:CXT)(k:Nat)(f:Addr)(fd:FuncData)(ps:List Str)(sp:Sp):Prop where
 len:∀vs H Q E,sp vs H Q E->vs.length=ps.length
 run:∀(A:Around)(outer:List Env)(s:Shared)(H:Hp)(args:Args)(us:List Value)(vs:List V)(Q:VK)(E:XK),dG k A->aHh P w K mg base A outer s H->BindsTo s fd args (ps.zip us)->Vals vs us->sp vs H Q E->
  codeAny (model P w) A (.call (.ref f) args) (CR CX outer P w H s Q E) s
def bC.mono{P:Program}{w:World}{K:Ac}{CX:CXT}{j k:Nat}{f:Addr}{sp:Sp}(F:bC P w K mg base CX j f fd ps sp)(h:j<=k):
  bC P w K mg base CX k f fd ps sp:=⟨F.len,λA outer s H args us vs Q E hr=>F.run A outer s H args us vs Q E (hr.mono h)⟩
def bC.imp{P:Program}{w:World}{K:Ac}{CX:CXT}{f:Addr}{sp sp':Sp}(F:bC P w K mg base CX k f fd ps sp)
  (h:∀vs H Q E,sp' vs H Q E->sp vs H Q E):bC P w K mg base CX k f fd ps sp':=
 ⟨λvs H Q E q=>F.len vs H Q E (h _ _ _ _ q),λA outer s H args us vs Q E hr he hb hv hs=>F.run A outer s H args us vs Q E hr he hb hv (h _ _ _ _ hs)⟩
def aHh.make{P:Program}{w:World}{K:Ac}{A:Around}{outer:List Env}{s:Shared}{H:Hp}(e:aHh P w K mg base A outer s H)(C:Addr)(us:List Value)(kw:List (Str×Value)):
  aHh P w K mg base (A.under (.builtin "type.__call__" ⟨.ref C::us,kw⟩)) outer s H:=⟨by first|exact e.frames|(simpa[Os,Code.envs,Pg,pushEnvs]using e.frames),e.mod,e.bs,e.bsz,e.funs,e.frf,e.hok,e.bare⟩
section
variable {X:Cx}{pins:List (Addr×Obj)}{σ:St}{H:Hp}{s s':Shared}
def Inv.env0(I:Inv X pins σ H s):aHh X.prog X.w X.K X.mg X.base X.A X.stack s H:=
 ⟨I.ok.frames,I.ok.mod,I.bs,Cc I.ok.bsz I.sz,I.stack,I.stkFree,I.hok,I.bare⟩
def Inv.after{Q:VK}(I:Inv X pins σ H s)(h:CE X.stack X.prog X.w H s Q u s'):EP X pins σ Q u s':=by
 obtain⟨v,H',os,bare,un,hok,r,q⟩:=h;obtain⟨hh,g,d,t,os'⟩:=s';obtain rfl:os'=s.os:=os;exact⟨v,H',I.call (h':=hh) (g':=g) (d':=d) (t':=t) (ch:=[]) un hok bare (λb z=>absurd z (by simp)),r,q⟩
end
def aUa(sp:Sp)(dvs:List V)(E:XK)(t:TA):TE:=λσ H Q=>t σ H λvs H1=>sp (vs++dvs) H1 Q E
def aT1(C:Addr)(sp:Sp)(dvs:List V)(E:XK)(t:TA):TE:=λσ H Q=>t σ H λvs H1=>∀x dx,H1 x=none->H1 dx=none->dx≠x->
 sp (.ref x::(vs++dvs)) (upd (upd H1 dx (.own x)) x (.ins C dx [])) (λv H2=>v=.non/\Q (.ref x) H2) E
def Binds(K:Ac)(fd:FuncData)(ps:List Str)(ds:List Value):Prop:=
 ∀(s:Shared)(us:List Value),K.In s.heap->(us++ds).length=ps.length->BindsTo s fd ⟨us,[]⟩ (ps.zip (us++ds))
def Binds.all{K:Ac}(h:∀us:List Value,us.length=ps.length->bindArgs fd ⟨us,[]⟩=pure (ps.zip us)):Binds K fd ps []:=λs us _ hl=>by
 rw[Bf]at hl⊢;exact .of_eq (h us hl)
def pL(CX:CXT)(X:Cx)(E:XK):Prop:=∀(pins:List (Addr×Obj))(σ:St)(H:Hp)(s:Shared)(e:Value)(s':Shared),Inv X pins σ H s->CX X.stack H s E e s'->X.xe e s'
section
variable {X:Cx}{CX:CXT}{k:Nat}{f C:Addr}{fd:FuncData}{ps:List Str}{sp:Sp}{dvs:List V}{ds:List Value}{E:XK}{x m:Str}{p pos apos:Pos}{e o:Expr}{es:List Expr}{ta:TE}{t:TA}
def aHu{pins:List (Addr×Obj)}{σ:St}{H:Hp}{s:Shared}{Q:VK}{vs:List V}(F:bC X.prog X.w X.K X.mg X.base CX k f fd ps sp)(hr:dG k X.A)(hb:Binds X.K fd ps ds)(hd:Vals dvs ds)(hx:pL CX X E)
  (I:Inv X pins σ H s) (r:Vals vs us) (h:sp (vs++dvs) H Q E):wpAny (model X.prog X.w) X.A (call (.ref f) us) (EP X pins σ Q) X.xe s:=by
 have r2:Vals (vs++dvs) (us++ds):=r.append hd;have hl:(us++ds).length=ps.length:=by rw[<-r2.length];exact F.len _ _ _ _ h
 refine Qf (Hv (F.run X.A X.stack s H ⟨us,[]⟩ (us++ds) (vs++dvs) Q E hr I.env0 (hb s us I.kIn hl) r2 h) λr s' hq=>?_);cases r with
 |error e=>exact hx pins σ H s e s' I hq
 |ok fl=>
  cases fl with
  |ret u=>exact I.after hq
  |next=>exact Et hq
  |brk=>exact Et hq
  |cont=>exact Et hq
def aS8(F:bC X.prog X.w X.K X.mg X.base CX k f fd ps sp)(hr:dG k X.A)(hg:Gl X x)(hm:X.mg x=some (.ref f))(hk:Fz X.K (.ref f)=true)(hb:Binds X.K fd ps ds)(hd:Vals dvs ds)(hx:pL CX X E)
  (ha:PA X (e::es) t) (hdb:ND x:=by decide) (he:SE X e es:=by rfl) (hpl:BT X pos es:=by rfl):
  PE X (.Call (.Name x p) (e::es) [] pos) (aUa sp dvs E t):=by
 intro pins s σ H Q I h;refine Hc (aEw I hg hm ?_ hdb);refine Kc (h₀:=X.base) I.ok.mod.kin hk (thn (ha pos pins s σ H _ I h) λus s1 ⟨vs,H1,I1,r,q⟩=>⟨I1.kIn,?_⟩) he hpl;exact aHu F hr hb hd hx I1 r q
structure Mk(K:Ac)(C f:Addr):Prop where
 makes:Lj K C=true
 init:Dd K (.ref C) "__init__"=some (some (.ref f))
 fn:Of K (.ref f)=true
 kp:Fz K (.ref C)=true
def aQ2{pins:List (Addr×Obj)}{σ:St}{H:Hp}{s:Shared}{Q:VK}{vs:List V}(M:Mk X.K C f)(F:bC X.prog X.w X.K X.mg X.base CX k f fd ps sp)(hr:dG (k+1) X.A)(hb:Binds X.K fd ps ds)(hd:Vals dvs ds)
  (hx:pL CX X E) (I:Inv X pins σ H s) (r:Vals vs us)
  (h:∀x dx,H x=none->H dx=none->dx≠x->sp (.ref x::(vs++dvs)) (upd (upd H dx (.own x)) x (.ins C dx [])) (λv H2=>v=.non/\Q (.ref x) H2) E):
  wpAny (model X.prog X.w) X.A (call (.ref C) us) (EP X pins σ Q) X.xe s:=by
 have hq:=h (s.heap.objs.size+1) s.heap.objs.size (I.hok.fresh (He _)) (I.hok.fresh (Am _)) (Az (El _));have I2:=Inv.made (C:=C) I;have r2:Vals (V.ref (s.heap.objs.size+1)::(vs++dvs)) (An (s.heap.objs.size+1)::(us++ds)):=.cons rfl (r.append hd);have hl:(An (s.heap.objs.size+1)::us++ds).length=ps.length:=by
  have e:=r2.length;rw[F.len _ _ _ _ hq]at e;exact e.symm
 refine Qf (aO3 (f:=f) I.kIn M.makes M.init (beq_iff_eq.mp M.fn) (Hv (F.run _ X.stack _ _ ⟨An (s.heap.objs.size+1)::us,[]⟩ (An (s.heap.objs.size+1)::(us++ds)) _ _ E (hr.make C us [])
  (I2.env0.make C us []) (hb _ (An (s.heap.objs.size+1)::us) I2.kIn hl) r2 hq) λr s' hq'=>?_))
 cases r with
 |error e=>exact hx pins σ _ _ e s' I2 hq'
 |ok fl=>
  cases fl with
  |ret u=>
   obtain⟨v,H',I3,rv,ev,q3⟩:=I2.after hq';subst ev;exact⟨rv,⟨V.ref (s.heap.objs.size+1),H',I3,rfl,q3⟩⟩
  |next=>exact Et hq'
  |brk=>exact Et hq'
  |cont=>exact Et hq'
def aKi(M:Mk X.K C f)(F:bC X.prog X.w X.K X.mg X.base CX k f fd ps sp)(hr:dG (k+1) X.A)(hg:Gl X x)(hm:X.mg x=some (.ref C))(hb:Binds X.K fd ps ds)(hd:Vals dvs ds)(hx:pL CX X E)
  (ha:PA X (e::es) t) (hdb:ND x:=by decide) (he:SE X e es:=by rfl) (hpl:BT X pos es:=by rfl):
  PE X (.Call (.Name x p) (e::es) [] pos) (aT1 C sp dvs E t):=by
 intro pins s σ H Q I h;refine Hc (aEw I hg hm ?_ hdb);refine Kc (h₀:=X.base) I.ok.mod.kin M.kp (thn (ha pos pins s σ H _ I h) λus s1 ⟨vs,H1,I1,r,q⟩=>⟨I1.kIn,?_⟩) he hpl;exact aQ2 M F hr hb hd hx I1 r q
end
def PK(X:Cx)(kws:List Keyword)(t:TA):Prop:=
 ∀(pos:Pos)(pins:List (Addr×Obj))(s:Shared)(σ:St)(H:Hp)(Q:List V->Hp->Prop),Inv X pins σ H s->t σ H Q->wpAny (model X.prog X.w) X.A (evalAll ((backToKw pos (keywordEach kws X.env)).map (·.2))) (AP X pins σ Q) X.xe s
section
variable {X:Cx}{CX:CXT}{k:Nat}{f C:Addr}{fd:FuncData}{ps ks:List Str}{sp:Sp}{E:XK}{x m:Str}{p pos apos kpos:Pos}{e o:Expr}{es:List Expr}{kws:List Keyword}{te ta:TE}{t tk:TA}{nm:Option Str}
def aXl:PK X [] aS2:=λ_ _ _ _ H Q I h=>wpAny_evalAll_nil ⟨[],H,I,.nil,h⟩
def aS4(ha:PE X e te)(hr:PK X kws t):PK X (⟨nm,e,kpos⟩::kws) (aNc te t):=by
 intro pos pins s σ H Q I h;show wpAny _ _ (evalAll ((do let v<-eval e X.env;standAt pos;pure v)::(backToKw pos (keywordEach kws X.env)).map (·.2))) _ _ s;refine wpAny_evalAll_cons (Aa (thn (ha pins s σ H _ I h) λu s1 ⟨x,H1,I1,r1,q1⟩=>Aa (Mc (Ad ?_))));exact thn (hr pos pins s1 σ H1 _ I1 q1) λus s2 ⟨xs,H2,I2,r2,q2⟩=>⟨x::xs,H2,I2,.cons r1 r2,q2⟩
variable {g:List Value->List Value->List Value}{gV:List V->List V->List V}
end
structure aL(N P:List Str)(sc:Scope):Prop where
 kind:sc.kind=.function:=by rfl
 co:sc.isCoroutine=false:=by rfl
 gen:sc.isGenerator=false:=by rfl
 nd:N.Nodup:=by decide+kernel
 pre:N.take P.length=P:=by rfl
 par:∀x∈P,sc.names.lookup x=some .local∨sc.names.lookup x=some .cell:=by decide+kernel
 nofree:∀y∈sc.names,y.2≠.free:=by decide+kernel
theorem aBy{kindOf:Str->Option NameKind}{x:Str}:∀{binds:List (Str×Value)}{m:Str->Option Value},(∀v,(x,v)∉binds)->bindL kindOf binds m x=m x
 | [],_,_=>rfl
 |(n,v)::r,m,h=>by
  unfold bindL;rw[aBy λw hw=>h w (Ae _ hw)];split
  ·have:x≠n:=by rintro rfl;exact h v Af
   simp[this]
  ·rfl
theorem aCt{kindOf:Str->Option NameKind}{x:Str}:∀{binds:List (Str×Value)}{m:Str->Option Value},(∀v,(x,v)∉binds)->bindC kindOf binds m x=m x
 | [],_,_=>rfl
 |(n,v)::r,m,h=>by
  unfold bindC;rw[aCt λw hw=>h w (Ae _ hw)];split
  ·rfl
  ·have:x≠n:=by rintro rfl;exact h v Af
   simp[this]
theorem aCz{kindOf:Str->Option NameKind}{x:Str}{v:Value}:∀{P:List Str}{vs:List Value}{i:Nat}{m:Str->Option Value},P.Nodup->P[i]? =some x->vs[i]? =some v->kindOf x=some .local->
  bindL kindOf (P.zip vs) m x=some v
 | [],_,_,_,_,h,_,_=>by simp at h
 |_::_,[],_,_,_,_,h,_=>by simp at h
 |p::P,w::vs,0,m,nd,h1,h2,hk=>by
  simp at h1 h2;subst h1;subst h2;show bindL kindOf ((p,w)::P.zip vs) m p=_;unfold bindL;rw[aBy λv hv=>(List.nodup_cons.mp nd).1 (Hy hv).1,if_pos hk];simp
 |p::P,w::vs,i+1,m,nd,h1,h2,hk=>by
  show bindL kindOf ((p,w)::P.zip vs) m x=_;unfold bindL;exact aCz (i:=i) (List.nodup_cons.mp nd).2 (by simpa using h1) (by simpa using h2) hk
theorem aCa{kindOf:Str->Option NameKind}{x:Str}{v:Value}:∀{P:List Str}{vs:List Value}{i:Nat}{m:Str->Option Value},P.Nodup->P[i]? =some x->vs[i]? =some v->kindOf x≠some .local->
  bindC kindOf (P.zip vs) m x=some v
 | [],_,_,_,_,h,_,_=>by simp at h
 |_::_,[],_,_,_,_,h,_=>by simp at h
 |p::P,w::vs,0,m,nd,h1,h2,hk=>by
  simp at h1 h2;subst h1;subst h2;show bindC kindOf ((p,w)::P.zip vs) m p=_;unfold bindC;rw[aCt λv hv=>(List.nodup_cons.mp nd).1 (Hy hv).1,if_neg hk];simp
 |p::P,w::vs,i+1,m,nd,h1,h2,hk=>by
  show bindC kindOf ((p,w)::P.zip vs) m x=_;unfold bindC;exact aCa (i:=i) (List.nodup_cons.mp nd).2 (by simpa using h1) (by simpa using h2) hk
def start(N:List Str)(vs:List V):St:=vs.map some++Ke (N.length-vs.length) none
def aF9(CX:CXT)(P:Program)(w:World)(K:Ac)(mg:Str->Option Value)(base:Heap)(N:List Str)(qual:Str)(scope:Scope)(f:Addr)(cd:Value)(A:Around)(outer:List Env)(s:Shared)(H:Hp)(E:XK):Cx where
 prog:=P
 w:=w
 K:=K
 mg:=mg
 base:=base
 A:=A.deeper (envOfC qual scope s.heap.objs.size f cd)
 N:=N
 s₀:=s
 H₀:=H
 env:=envOfC qual scope s.heap.objs.size f cd
 outer:=outer
 stack:=envOfC qual scope s.heap.objs.size f cd::outer
 ex:=[]
 calm:=true
 fn:=λ_=>true
 pn:=[]
 xe:=λe s'=>wpAny (model P w) (A.deeper (envOfC qual scope s.heap.objs.size f cd)) (leaving (envOfC qual scope s.heap.objs.size f cd) e) (λ_ s''=>CX outer H s E e s'') (λe' s''=>CX outer H s E e' s'') s'
def bU{sc:Scope}{n:Nat}{x:Str}(h:sc.names.lookup x=some .cell):∃c,(cellsFrom n sc.names []).lookup x=some c:=by
 have q:=Np sc.names n [] (.inl h);exact Option.isSome_iff_exists.mp q
def aLb{CX:CXT}{P:Program}{w:World}{K:Ac}{N ps:List Str}{qual:Str}{scope:Scope}{f:Addr}{cd:Value}{A:Around}{outer:List Env}{s s1:Shared}{H:Hp}{E:XK}{vs:List V}
  (S:aL N ps scope) (hd:A.handled=none) (e0:aHh P w K mg base A outer s H) (hl:vs.length=ps.length) (r:Vals vs us)
  (x:InCallC s s.heap.objs.size (bindL (envOfC qual scope s.heap.objs.size f cd).kindOf (ps.zip us) λ_=>none) (cellsFrom (s.heap.objs.size+1) scope.names []) (bindC (envOfC qual scope s.heap.objs.size f cd).kindOf (ps.zip us) λ_=>none) s1):
  Inv (aF9 CX P w K mg base N qual scope f cd A outer s H E) [] (start N vs) H s1:=by
 have hpl:ps.length<=N.length:=by have:=congrArg Bj S.pre;rw[Bu]at this;lia
 obtain⟨h1,tk,rfl,hk⟩:=x.done;have noA:∀b:Addr,b∉(aF9 CX P w K mg base N qual scope f cd A outer s H E).ex:=λb z=>absurd (show b∈([]:List Addr)from z) (by simp);refine⟨⟨e0.mod,S.kind,rfl,rfl,Am _,λy z c h1 h2=>?_,λy hy=>?_,λy c _ h=>?_,λ_=>hd,Around.frames_deeper e0.frames,.inr ⟨rfl,rfl⟩,λb z=>absurd z (noA b),e0.bs,e0.bsz,λb _ _=>noA b,λb z=>absurd z (noA b),e0.funs,e0.frf⟩,
  rfl,e0.bare,Un.kept hk,⟨_,x.toInCall.ns,λi y v h1 h2 h3=>?_⟩,λy c h=>⟨_,x.cell y c h⟩,e0.hok.fresh (Am _),λy c h=>?_,λp hp=>absurd (show p∈([]:List (Addr×Obj))from hp) (by simp),e0.hok.kept hk,?_⟩
 ·exact name_of_addr x.apart (Dl h1) (Dl h2)
 ·have hy:scope.names.lookup y=some .cell∨scope.names.lookup y=some .free:=hy;rcases hy with hy|hy
  ·exact bU hy
  ·exact absurd rfl (S.nofree _ (Dl hy))
 ·exact En (x.above y c (Dl h))
 ·have hi:i<vs.length:=by
   unfold start at h2;by_cases hi:i<vs.length
   ·exact hi
   ·rw[Eh (by simpa using hi)]at h2;rw[Ea]at h2;split at h2<;>cases h2
  have ha:vs[i]? =some v:=by
   unfold start at h2;rw[Ep (by simpa using hi),Ax]at h2;cases e:vs[i]? with
   |none=>rw[e]at h2;cases h2
   |some a=>rw[e]at h2;cases h2;rfl
  obtain⟨u,hu,rv⟩:=r.get ha;have hp:ps[i]? =some y:=by
   rw[<-S.pre,List.getElem?_take_of_lt ∅];exact h1
  have ndP:ps.Nodup:=by rw[<-S.pre];exact S.nd.sublist (Rj _ _)
  refine⟨u,rv,?_⟩;rcases S.par y (Ba hp)with k|k
  ·exact .inl ⟨k,aCz ndP hp hu k⟩
  ·obtain⟨c,e⟩:=bU (n:=s.heap.objs.size+1) k;refine .inr ⟨.inl k,c,e,?_⟩;have q:=x.cell y c e;rw[aCa ndP hp hu (by show scope.names.lookup y≠_;rw[k];decide)]at q;exact q
 ·exact e0.hok.fresh (En (x.above y c (Dl h)))
 ·unfold start;show _=N.length;rw[Ag,Ab,Em]
  lia
def bAh{CX:CXT}{P:Program}{w:World}{K:Ac}{f:Addr}{name qual:Str}{params:Arguments}{scope:Scope}{dV kV doc pm cdv ct oc:Value}{an od:Option Addr}
  {osl:Array (Option Value)} {N ps:List Str} {sp:Sp} (lk:K.lookup f=some ⟨oc,od,.func (Eg name qual params body scope dV kV doc pm an cdv ct),osl⟩) (hcd:Mf K cdv qual=true) (S:aL N ps scope)
  (len:∀vs H Q E,sp vs H Q E->vs.length=ps.length)
  (hbody:∀(A:Around)(outer:List Env)(s:Shared)(H:Hp)(vs:List V)(Q:VK)(E:XK),dG k (A.deeper (envOfC qual scope s.heap.objs.size f cdv))->sp vs H Q E->
   ∃t,PSs (aF9 CX P w K mg base N qual scope f cdv A outer s H E) body t/\t {nx:=λ_ H'=>Q .non H',rt:=Q} (start N vs) H):
  bC P w K mg base CX (k+1) f (Eg name qual params body scope dV kV doc pm an cdv ct) ps sp:=by
 refine⟨len,λA outer s H args us vs Q E hr e0 hb r hsp=>?_⟩;have hl:=len _ _ _ _ hsp;have KX:K.In s.heap:=e0.mod.kin.keeps λb o e=>(e0.bs b o e).1;have lim:s.heap.NoLimit:=e0.mod.nolimit.keeps λb o e=>(e0.bs b o e).1;have hkind:∀y∈ps.zip us,scope.names.lookup y.1=some .local∨(scope.names.lookup y.1=some .cell/\((cellsFrom (s.heap.objs.size+1) scope.names []).lookup y.1).isSome=true):=λ⟨n,v⟩ hy=>by
  rcases S.par n (Hy hy).1 with q|q
  ·exact .inl q
  ·exact .inr ⟨q,Np _ _ _ (.inl q)⟩
 refine codeAny_call_function hr.depth (KX _ _ lk) rfl S.co S.gen rfl (PySem.W.codeRec_of KX hcd) (hb _ _ _ _ ?_);refine wpAny_newFunctionEnv_cells S.kind hkind λenv he s1 x=>?_;subst he;refine⟨lim.keeps x.toInCall.keep,codeAny_func ?_⟩;obtain⟨t,ht,hq⟩:=hbody A outer s H vs Q E (hr.deeper _) hsp;have I:Inv (aF9 CX P w K mg base N qual scope f cdv A outer s H E) [] (start N vs) H s1:=aLb S hr.hd e0 hl r x;refine Du (ht [] s1 (start N vs) H _ I hq) (λfl s' hs=>?_) λe s' hs=>hs;have fin:∀{σ':St}{H':Hp}{v:V}{u:Value},Inv (aF9 CX P w K mg base N qual scope f cdv A outer s H E) [] σ' H' s'->RelV v u->Q v H'->CE outer P w H s Q u s':=
  λ{σ' H' v u} J rv q=>⟨v,H',J.os,J.bare,J.base,J.hok,rv,q⟩
 cases fl with
 |ret u=>
  obtain⟨v,σ',H',J,rv,q⟩:=hs;exact fin J rv q
 |next=>
  obtain⟨σ',H',J,q⟩:=hs;exact fin (v:=V.non) (u:=Ce) J rfl q
 |brk=>
  obtain⟨_,_,_,q⟩:=hs;exact Et q
 |cont=>
  obtain⟨_,_,_,q⟩:=hs;exact Et q
section
variable {X:Cx}{x:Str}{p pos:Pos}{e:Expr}{es:List Expr}{t:TA}{id T:String}{r:List V->Hp->VK->Prop}
def tCB(r:List V->Hp->VK->Prop)(t:TA):TE:=λσ H Q=>t σ H λvs H1=>r vs H1 Q
def fQ(hc:eE X (.builtin id) r)(hg:Gl X x)(hm:X.mg x=none)(hv:bootBuiltins x=some (.builtin id))(ha:PA X (e::es) t)(hn:x≠"__name__":=by decide)(hdb:ND x:=by decide)
  (he:SE X e es:=by rfl) (hpl:BT X pos es:=by rfl):PE X (.Call (.Name x p) (e::es) [] pos) (tCB r t):=by
 intro pins s σ H Q I h;refine Hc (uK I hg hm hv ?_ hn hdb);exact Wj (thn (ha pos pins s σ H _ I h) λus s1 ⟨vs,H1,I1,r1,q1⟩=>hc pins s1 σ H1 vs us Q I1 r1 q1) he hpl
def lU(hc:eE X (.type T) r)(hg:Gl X x)(hm:X.mg x=none)(hv:bootBuiltins x=some (.type T))(ha:PA X (e::es) t)(hn:x≠"__name__":=by decide)(hdb:ND x:=by decide)
  (he:SE X e es:=by rfl) (hpl:BT X pos es:=by rfl):PE X (.Call (.Name x p) (e::es) [] pos) (tCB r t):=by
 intro pins s σ H Q I h;refine Hc (uK I hg hm hv ?_ hn hdb);exact Fb (thn (ha pos pins s σ H _ I h) λus s1 ⟨vs,H1,I1,r1,q1⟩=>hc pins s1 σ H1 vs us Q I1 r1 q1) he hpl
end
end L2
namespace HT
variable {Q:Value->Shared->Prop}{lo hi:Option Int}
open PySem PyProof.Rows
section
open PySem.SeqAt
open PySem.AutoSeq1 (wpAny_loadPart')
open PySem.MeetsSeq PySem.MeetsSeq2 PySem.MeetsSeq3
end
variable {prog:Program}{w:World}{A:Around}{E:Value->Shared->Prop}{s:Shared}
def aR3{t b:Addr}{vs ws:List Value}(ht:IsTup s.heap t vs.toArray)(hb:IsTup s.heap b ws.toArray)(hv:vs≠[])
  (h1:ws=[]->Q (.ref t) s) (h2:ws≠[]->Q (.ref s.heap.objs.size) {s with heap:=s.heap.push {cls:=.type "tuple",data:=.seq (vs++ws).toArray}})
  (hsz:vs.length+ws.length<=sizeLine):wpAny (model prog w) A (binaryOp .Add (.ref t) (.ref b)) Q E s:=by
 obtain⟨⟨cls,dd,data,sl⟩,ho,hc,n,hd⟩:=id ht;obtain⟨⟨cls2,dd2,data2,sl2⟩,ho2,hc2,n2,hd2⟩:=id hb;simp only at hc hd hc2 hd2;subst hc hd hc2 hd2;have e:vs.toArray++ws.toArray=(vs++ws).toArray:=by simp
 by_cases hw:ws=[]
 ·exact Rv ⟨_,ho,rfl⟩ ⟨_,ho2,rfl⟩ Nz Qn Iy Iq (Ig _ _)
   (tuple_addW1 t b vs.toArray ws.toArray n n2 dd dd2 sl sl2 (by simpa using hv) (by simp[hw])) ⟨ho,ho2,h1 hw⟩
 ·refine Rv ⟨_,ho,rfl⟩ ⟨_,ho2,rfl⟩ Nz Qn Iy Iq (Ig _ _)
   (tuple_addW2 t b vs.toArray ws.toArray n n2 dd dd2 sl sl2 (by simpa using hv) (by simpa using hw) (by rw[Ak,Ak];exact hsz)) ⟨ho,ho2,?_⟩
  rw[e];exact h2 hw
def sIx(n d:Nat):Option Int->Nat
 |none=>d
 |some v=>if v<0 then(v+(n:Int)).toNat else min v.toNat n
def aV0(n d:Nat)(hd:d<=n)(o:Option Int):sIx n d o<=n:=by
 cases o with
 |none=>exact hd
 |some v=>
  show(if v<0 then(v+(n:Int)).toNat else min v.toNat n)<=n;by_cases hv:v<0
  ·rw[if_pos hv];lia
  ·rw[if_neg hv];exact Nat.min_le_right _ _
def aI5(v:Int)(n d:Nat):(if v<0 then max (v+(n:Int)) 0 else min v (n:Int))=((sIx n d (some v):Nat):Int):=by
 show(if v<0 then max (v+(n:Int)) 0 else min v (n:Int))=(((if v<0 then(v+(n:Int)).toNat else min v.toNat n):Nat):Int);by_cases hv:v<0
 ·simp only[if_pos hv];lia
 ·simp only[if_neg hv];lia
def aHc(lo hi:Option Int)(n:Nat):Hm lo hi 1 (n:Int)=(((sIx n 0 lo:Nat):Int),((sIx n n hi:Nat):Int)):=by
 have h1:¬((1:Int)<0):=by lia
 unfold Hm;simp only[h1,if_false];refine On ?_ ?_
 ·cases lo with
  |none=>rfl
  |some v=>exact aI5 v n 0
 ·cases hi with
  |none=>rfl
  |some v=>exact aI5 v n n
def aHp(i j:Nat):Ff (i:Int) (j:Int) 1=j-i:=by
 unfold Ff;have h1:(1:Int)>0:=by lia
 simp only[h1,if_true,Int.ediv_one];split<;>lia
def zR{v:Value}{o:Option Int}{Q:Option Int->Shared->Prop}(p:IsPart v o)(h:Q o s):wpAny (model prog w) A (Vk v) Q E s:=by
 cases p with
 |none=>exact slicePart_none h
 |int i t=>exact slicePart_int h
def xF{sl:Addr}{vl vu:Value}{n:Nat}{Q:Int×Int×Nat->Shared->Prop}(hs:s.heap.IsSliceOf sl vl vu .none)(pl:IsPart vl lo)(pu:IsPart vu hi)
  (h:Q (((sIx n 0 lo:Nat):Int),1,sIx n n hi-sIx n 0 lo) s):wpAny (model prog w) A (Kj (.ref sl) (pure (n:Int))) Q E s:=by
 obtain⟨os,hos,hcs,hds⟩:=id hs;unfold Kj Vl;refine Aa (Aa (Su hos hds (x:=vl) rfl (Aa (Su hos hds (x:=vu) rfl (Aa (Su hos hds (x:=.none) rfl (Ad ?_)))))));refine Aa (slicePart_none ?_);show wpAny _ _ (if((1:Int)==0)=true then _ else _) _ _ s;rw[if_neg ⋯];refine Aa (zR pl (Aa (zR pu (Aa (Ad ?_)))));show wpAny _ _ (match Hm lo hi 1 (n:Int)with|(lo,hi)=>pure (lo,(1:Int),Ff lo hi 1)) _ _ s;rw[aHc lo hi n];show wpAny _ _ (pure (((sIx n 0 lo:Nat):Int),(1:Int),Ff ((sIx n 0 lo:Nat):Int) ((sIx n n hi:Nat):Int) 1)) _ _ s;rw[aHp];exact Ad h
def aM9(xs:Array Value)(i k:Nat):((Br k).filterMap λ(m:Nat)=>xs[((i:Int)+(m:Int)*1).toNat]?).toArray=((xs.toList.drop i).take k).toArray:=by
 have e:(λ(m:Nat)=>xs[((i:Int)+(m:Int)*1).toNat]?)=λm=>xs[i+m]? :=by
  funext m;have:((i:Int)+(m:Int)*1).toNat=i+m:=by lia
  rw[this]
 rw[e];have:=pick_run xs i k;rw[List.filterMap_map]at this;have e2:((λx=>xs[x]?)∘λx=>i+x)=λm=>xs[i+m]? :=rfl;rw[e2]at this;rw[this]
def wA{t sl:Addr}{items:Array Value}{vl vu:Value}(ht:IsTup s.heap t items)(hs:s.heap.IsSliceOf sl vl vu .none)(pl:IsPart vl lo)(pu:IsPart vu hi)
  (hw:¬(sIx items.size 0 lo=0/\sIx items.size items.size hi=items.size))
  (h:Q (.ref s.heap.objs.size) {s with heap:=s.heap.push {cls:=.type "tuple",data:=.seq ((items.toList.drop (sIx items.size 0 lo)).take (sIx items.size items.size hi-sIx items.size 0 lo)).toArray}})
  (hsz:items.size<=sizeLine):wpAny (model prog w) A (getItem (.ref t) (.ref sl)) Q E s:=by
 have htake:sizeOk (.seq ((items.toList.drop (sIx items.size 0 lo)).take (sIx items.size items.size hi-sIx items.size 0 lo)).toArray):=by
  show((items.toList.drop (sIx items.size 0 lo)).take (sIx items.size items.size hi-sIx items.size 0 lo)).toArray.size<=sizeLine;rw[Ak,Bu,Ej,Ao]
  lia
 have hj:sIx items.size items.size hi<=items.size:=aV0 _ _ (Am _) hi;obtain⟨os,hos,hcs,hds⟩:=id hs;have hTs:s.TypeIs (.ref sl) "slice":=⟨os,hos,hcs⟩;unfold getItem
 try with_reducible refine Bp ?_
 first|refine Aa (Ad ?_)|skip
 refine Aa (wpAny_sequenceKey ht.typeIs ⋯ ?_);refine Aa (Hb (name:=As "__getitem__") ht.typeIs Jp
  (Ca Jp ht.typeIs entry_tuple_getitem ?_ (args_tuple_getitem _ _)))
 show wpAny _ _ (Ki (.ref t)>>=_) _ _ s;refine Aa (tupleItemsOf_ ht ?_);refine Aa (Ht hTs ?_);rw[if_pos ⋯];refine Aa (xF hs pl pu ?_);have hno:¬((((sIx items.size 0 lo:Nat):Int)==0 && (1:Int)==1 && (sIx items.size items.size hi-sIx items.size 0 lo)==items.size)=true):=by
  intro q;rw[Ek,Ek]at q;have q1:((sIx items.size 0 lo:Nat):Int)=0:=eq_of_beq q.1.1;have q2:sIx items.size items.size hi-sIx items.size 0 lo=items.size:=eq_of_beq q.2;exact hw ⟨∅,∅⟩
 show wpAny _ _ (if(((sIx items.size 0 lo:Nat):Int)==0 && (1:Int)==1 && (sIx items.size items.size hi-sIx items.size 0 lo)==items.size)=true then _ else _) _ _ s;rw[if_neg hno,aM9];first
  |exact Aa (m:=Ft _) (Bz (Ad ⟨_,rfl,Ad h⟩) htake)
  |exact Aa (m:=Ft _) (Bz (Aa (Ad (Ad ⟨_,rfl,Ad h⟩))) htake)
  |exact Aa (Aa (m:=Ft _) (Bz (Ad (Ad ⟨_,rfl,Ad h⟩)) htake))
  |exact Aa (Aa (m:=Ft _) (Bz (Ad ⟨_,rfl,Ad h⟩) htake))
end HT
namespace L2
variable {pins:List (Addr×Obj)}{its its':List Value}{s:Shared}{us:List Value}{n:Nat}
open PySem PySem.Spec PyProof.Rows
abbrev TO:=St->Hp->(Option Int->Hp->Prop)->Prop
def PO(X:Cx)(e:Option Expr)(t:TO):Prop:=
 ∀(pins:List (Addr×Obj))(s:Shared)(σ:St)(H:Hp)(Q:Option Int->Hp->Prop),Inv X pins σ H s->t σ H Q->
  wpAny (model X.prog X.w) X.A (evalPart e X.env) (λu s'=>∃o H',Inv X pins σ H' s'/\IsPart u o/\Q o H') X.xe s
def aSe:TO:=λ_ H Q=>Q none H
def aYw(t:TE):TO:=λσ H Q=>t σ H λx H1=>∃i,x=.int i/\Q (some i) H1
def intsAre_of{ns:List Int}:∀{us:List Value},Vals (ns.map V.int) us->IntsAre us ns:=by
 induction ns with
 |nil=>intro us r;rw[Dg]at r;cases r;exact .nil
 |cons n ns ih=>
  intro us r;rw[Au]at r;cases r with
  |cons r1 r2=>
   obtain⟨t,e⟩:=r1;subst e;exact .cons n t (ih r2)
section
variable {X:Cx}{e:Expr}{te:TE}{lo hi:Option Expr}{tl th:TO}{pos p2:Pos}
def aRk:PO X none aSe:=by
 intro pins s σ H Q I h;rw[Qr];exact Ad ⟨none,H,I,.none,h⟩
def vX(h:PE X e te):PO X (some e) (aYw te):=by
 intro pins s σ H Q I hw;rw[evalPart_some];refine thn (h pins s σ H _ I hw) λu s1 ⟨x,H1,I1,r1,q1⟩=>?_;obtain⟨i,rfl,q⟩:=q1;obtain⟨t,rfl⟩:=r1;exact⟨some i,H1,I1,.int i t,q⟩
def SlR(X:Cx)(r:V->Option Int->Option Int->Hp->VK->Prop):Prop:=
 ∀(pins:List (Addr×Obj))(s:Shared)(σ:St)(H:Hp)(x:V)(v vl vu:Value)(lo hi:Option Int)(sl:Addr)(Q:VK),Inv X pins σ H s->RelV x v->s.heap.IsSliceOf sl vl vu .none->IsPart vl lo->IsPart vu hi->r x lo hi H Q->
  ∃T id,typeLookup (.type T) "__getitem__"=pure (some (.builtin id))/\s.TypeIs v T/\wpAny (model X.prog X.w) X.A (getItem v (.ref sl)) (EP X pins σ Q) X.xe s
def SlR.or{r r':V->Option Int->Option Int->Hp->VK->Prop}(h:SlR X r)(h':SlR X r'):SlR X (λx lo hi H Q=>r x lo hi H Q∨r' x lo hi H Q):=by
 intro pins s σ H x v vl vu lo hi sl Q I rx hs pl pu q;rcases q with q|q
 ·exact h pins s σ H x v vl vu lo hi sl Q I rx hs pl pu q
 ·exact h' pins s σ H x v vl vu lo hi sl Q I rx hs pl pu q
def tSl(r:V->Option Int->Option Int->Hp->VK->Prop)(te:TE)(tl th:TO):TE:=λσ H Q=>te σ H λx H1=>tl σ H1 λl H2=>th σ H2 λu H3=>r x l u H3 Q
def aAn{r:V->Option Int->Option Int->Hp->VK->Prop}(hr:SlR X r)(he:PE X e te)(hl:PO X lo tl)(hu:PO X hi th):PE X (.Subscript e (.Slice lo hi none p2) pos) (tSl r te tl th):=by
 intro pins s σ H Q I h;refine Qh (thn (he pins s σ H _ I h) λv s1 ⟨x,H1,I1,r1,q1⟩=>?_);refine wpAny_Slice (thn (hl pins s1 σ H1 _ I1 q1) λvl s2 ⟨l,H2,I2,pl,q2⟩=>thn (hu pins s2 σ H2 _ I2 q2) λvu s3 ⟨u,H3,I3,pu,q3⟩=>?_);rw[Qr];refine Ad ?_;have I4:Inv X pins σ H3 {s3 with heap:=s3.heap.push {cls:=.type "slice",data:=.fields #[vl,vu,.none]}}:=I3.kept (t':=s3.toks) λb ob q=>Ai _ q;obtain⟨T,id,hT,ht,hg⟩:=hr pins {s3 with heap:=s3.heap.push {cls:=.type "slice",data:=.fields #[vl,vu,.none]}} σ H3 x v vl vu l u s3.heap.objs.size Q I4 r1 (Mi ..) pl pu q3;show wpAny (model X.prog X.w) X.A (subscriptTail e (.Slice lo hi none p2) v (.ref s3.heap.objs.size)) (EP X pins σ Q) X.xe {s3 with heap:=s3.heap.push {cls:=.type "slice",data:=.fields #[vl,vu,.none]}};exact tail_any (ops:=[.ref s3.heap.objs.size,v]) ht hT hg (by with_unfolding_all rfl)
def aBt(xs:List V)(lo hi:Option Int):List V:=(xs.drop (HT.sIx xs.length 0 lo)).take (HT.sIx xs.length xs.length hi-HT.sIx xs.length 0 lo)
def yC(xs:List V)(lo hi:Option Int):(aBt xs lo hi).length<=xs.length:=by
 unfold aBt;rw[Bu,Ej]
 lia
inductive aVi(K:Ac)(x:V)(lo:Option Int)(hi:Option Int)(H:Hp)(Q:VK):Prop
 |mk (a xs:_) (q0_:x=.ref a) (q1_:SqT K H a xs) (q2_:¬(HT.sIx xs.length 0 lo=0/\HT.sIx xs.length xs.length hi=xs.length)) (q3_:∀p,H p=none->Q (.ref p) (upd H p (.tup (aBt xs lo hi)))):aVi K x lo hi H Q
def bBr(K:Ac):V->Option Int->Option Int->Hp->VK->Prop:=λx lo hi H Q=>aVi K x lo hi H Q
def aV6:SlR X (bBr X.K):=by
 intro pins s σ H x v vl vu lo hi sl Q I rx hs pl pu h;obtain⟨a,xs,rfl,hx,hw,q⟩:=h;cases rx;obtain⟨its,r,ht,hz⟩:=I.tuple hx;have hlen:its.toArray.size=xs.length:=by rw[Ak];exact r.length.symm
 refine⟨"tuple",_,PyProof.Rows.slot_tuple_getitem.lookup,ht.typeIs,?_⟩;refine HT.wA ht hs pl pu (by rw[hlen];exact hw) ?_ (by rw[hlen];exact hz);rw[hlen];refine⟨.ref s.heap.objs.size,_,I.laid (t':=s.toks) (o:=.tup (aBt xs lo hi)) (λb ob q=>Ai _ q) (Am _) ?_,rfl,q _ (I.hok.fresh (Am _))⟩;exact⟨Cc (yC xs lo hi) hz,_,(r.drop (HT.sIx xs.length 0 lo)).take (HT.sIx xs.length xs.length hi-HT.sIx xs.length 0 lo),Sf _ _⟩
inductive aO4(K:Ac)(x:V)(y:V)(H:Hp)(Q:VK):Prop
 |mk (a b xs ys:_) (q0_:x=.ref a) (q1_:y=.ref b) (q2_:SqT K H a xs) (q3_:SqT K H b ys) (q4_:xs≠[]) (q5_:xs.length+ys.length<=sizeLine) (q6_:(ys=[]->Q (.ref a) H)) (q7_:(ys≠[]->∀p,H p=none->Q (.ref p) (upd H p (.tup (xs++ys))))):aO4 K x y H Q
def aUz(K:Ac):R2:=λx y H Q=>aO4 K x y H Q
def Vals.nil_iff{xs:List V}(r:Vals xs us):us=[]↔xs=[]:=by
 cases r with
 |nil=>simp
 |cons _ _=>simp
def aTu:OpR X (binaryOp .Add) (aUz X.K):=by
 intro pins s σ H x y v u Q I rx ry h;obtain⟨a,b,xs,ys,rfl,rfl,ha,hb,hx,hz,q1,q2⟩:=h;cases rx;cases ry;obtain⟨its,r1,p1,_⟩:=I.tuple ha;obtain⟨its2,r2,p2,_⟩:=I.tuple hb;refine HT.aR3 p1 p2 (λz=>hx (r1.nil_iff.mp z)) (λz=>⟨.ref a,H,I,rfl,q1 (r2.nil_iff.mp z)⟩) (λz=>?_) (by rw[<-r1.length, <-r2.length];exact hz);refine⟨.ref s.heap.objs.size,_,I.laid (t':=s.toks) (o:=.tup (xs++ys)) (λb ob q=>Ai _ q) (Am _) ?_,rfl,q2 (λw=>z (r2.nil_iff.mpr w)) _ (I.hok.fresh (Am _))⟩;exact⟨by rw[Ag];exact hz,_,r1.append r2,Sf _ _⟩
end
def ixN(n:Nat)(i:Int):Option Nat:=if 0<=i then(if i<n then some i.toNat else none)else if-(n:Int)<=i then some (i+n).toNat else none
def atI{α:Type}(xs:List α)(i:Int):Option α:=(ixN xs.length i).bind λj=>xs[j]?
def aJ9{i:Int}{j:Nat}(h:ixN n i=some j):seqIndex? i n=some j/\j<n/\ -(n:Int)<=i/\i<n:=by
 unfold ixN at h;by_cases h0:0<=i
 ·rw[if_pos h0]at h;by_cases h1:i<n
  ·rw[if_pos h1]at h;have e:i.toNat=j:=Bk h;exact⟨by rw[Sw h0 h1,e],∅,∅,h1⟩
  ·rw[if_neg h1]at h;cases h
 ·rw[if_neg h0]at h;by_cases h1: -(n:Int)<=i
  ·rw[if_pos h1]at h;have e:(i+n).toNat=j:=Bk h;exact⟨by rw[Rr ∅ h1,e],∅,h1,∅⟩
  ·rw[if_neg h1]at h;cases h
def aDz{α:Type}{xs:List α}{i:Int}{v:α}(h:atI xs i=some v):∃j,seqIndex? i xs.length=some j/\xs[j]? =some v/\j<xs.length/\ -(xs.length:Int)<=i/\i<xs.length:=by
 unfold atI at h;cases e:ixN xs.length i with
 |none=>rw[e]at h;cases h
 |some j=>
  rw[e]at h;obtain⟨h1,h2,h3,h4⟩:=aJ9 e;exact⟨j,h1,h,h2,h3,h4⟩
def sO{α:Type}{xs:List α}{j:Nat}{v:α}(h:xs[j]? =some v):atI xs (j:Int)=some v:=by
 have hj:j<xs.length:=(List.getElem?_eq_some_iff.mp h).1;have e:ixN xs.length (j:Int)=some j:=by
  unfold ixN;rw[if_pos ∅,if_pos ∅];simp
 unfold atI;rw[e];exact h
def aJy(b:Expr):Prop:=∀o i,subscripted b false o i=operate [o,i] (getItem o i)
def IxR(X:Cx)(r:R2):Prop:=
 ∀(value slice:Expr)(pins:List (Addr×Obj))(s:Shared)(σ:St)(H:Hp)(x y:V)(v u:Value)(Q:VK),Inv X pins σ H s->RelV x v->RelV y u->r x y H Q->
  subscripted slice false v u=operate [v,u] (getItem v u)->wpAny (model X.prog X.w) X.A (subscriptTail value slice v u) (EP X pins σ Q) X.xe s
def MtR(X:Cx)(id:String)(r:V->List V->Hp->VK->Prop):Prop:=
 ∀(pins:List (Addr×Obj))(s:Shared)(σ:St)(H:Hp)(x:V)(xs:List V)(v:Value)(us:List Value)(Q:VK),Inv X pins σ H s->RelV x v->Vals xs us->r x xs H Q->
  wpAny (model X.prog X.w) X.A (call (.builtin id) (v::us)) (EP X pins σ Q) X.xe s
def aY1(K:Ac):List V->Hp->VK->Prop:=λxs H Q=>∃p ys,xs=[.ref p]/\(SqL K H p ys∨SqT K H p ys)/\Q (.int ys.length) H
def bAz(K:Ac):List V->Hp->VK->Prop:=λxs H Q=>∃p ys,xs=[.ref p]/\(SqL K H p ys∨SqT K H p ys)/\∀l,H l=none->Q (.ref l) (upd H l (.lst ys))
section
variable {X:Cx}{a b:Expr}{ta tb:TE}{pos:Pos}
def IxR.or{r r':R2}(h:IxR X r)(h':IxR X r'):IxR X (λx y H Q=>r x y H Q∨r' x y H Q):=by
 intro value slice pins s σ H x y v u Q I rx ry q hs;rcases q with q|q
 ·exact h value slice pins s σ H x y v u Q I rx ry q hs
 ·exact h' value slice pins s σ H x y v u Q I rx ry q hs
def xY{r:R2}(hr:IxR X r)(ha:PE X a ta)(hb:PE X b tb)(hs:aJy b):PE X (.Subscript a b pos) (tOp r ta tb):=by
 intro pins s σ H Q I h;exact Qh (aYk ha hb I h λv u s2 x y H2 I2 rx ry q=>hr a b pins s2 σ H2 x y v u Q I2 rx ry q (hs _ _))
inductive aUt(K:Ac)(x:V)(y:V)(H:Hp)(Q:VK):Prop
 |mk (p xs i v:_) (q0_:x=.ref p) (q1_:y=.int i) (q2_:SqL K H p xs) (q3_:atI xs i=some v) (q4_:Q v H):aUt K x y H Q
def aYb(K:Ac):R2:=λx y H Q=>aUt K x y H Q
inductive aUp(K:Ac)(x:V)(y:V)(H:Hp)(Q:VK):Prop
 |mk (p xs i v:_) (q0_:x=.ref p) (q1_:y=.int i) (q2_:SqT K H p xs) (q3_:atI xs i=some v) (q4_:Q v H):aUp K x y H Q
def aXe(K:Ac):R2:=λx y H Q=>aUp K x y H Q
inductive aUm(x:V)(y:V)(H:Hp)(Q:VK):Prop
 |mk (z i c:_) (q0_:x=.str z) (q1_:y=.int i) (q2_:z.length<=sizeLine) (q3_:atI z.cps.toList i=some c) (q4_:Q (.str ⟨#[c]⟩) H):aUm x y H Q
def bA8:R2:=λx y H Q=>aUm x y H Q
def mV:IxR X (aYb X.K):=by
 intro value slice pins s σ H x y v u Q I rx ry h hs;obtain⟨p,xs,i,z,rfl,rfl,hq,he,q⟩:=h;cases rx;obtain⟨t,rfl⟩:=ry;obtain⟨its,r,pl,hz⟩:=I.list hq;obtain⟨j,h1,h2,h3,h4,h5⟩:=aDz he;obtain⟨w,ew,rw'⟩:=r.get h2;have hl:=r.length;have hn:=wY;have fin:EP X pins σ Q w s:=⟨z,H,I,rw',q⟩;by_cases h0:0<=i
 ·have hj:i.toNat=j:=by
   rw[Sw h0 h5]at h1;exact Bk h1
  exact item_listR pl.isList h0 ∅ (by rw[hj];simpa using ew) fin hs
 ·have hj:(i+(its.toArray.size:Int)).toNat=j:=by
   rw[Rr ∅ h4]at h1;rw[Ak, <-hl];exact Bk h1
  exact Re (x:=w) pl.isList.typeIs slot_list_getitem.lookup
   (wpAny_getItem_list_neg (Q:=λr s'=>r=w/\EP X pins σ Q r s') pl.isList ∅ (by rw[Ak]<;>lia) ∅ (by rw[hj];simpa using ew) ⟨rfl,fin⟩) hs
def aX5:IxR X (aXe X.K):=by
 intro value slice pins s σ H x y v u Q I rx ry h hs;obtain⟨p,xs,i,z,rfl,rfl,hq,he,q⟩:=h;cases rx;obtain⟨t,rfl⟩:=ry;obtain⟨its,r,pl,hz⟩:=I.tuple hq;obtain⟨j,h1,h2,h3,h4,h5⟩:=aDz he;obtain⟨w,ew,rw'⟩:=r.get h2;have hl:=r.length;have hn:=wY;have fin:EP X pins σ Q w s:=⟨z,H,I,rw',q⟩;exact Re (x:=w) pl.typeIs slot_tuple_getitem.lookup
  (getItem_tuple (j:=j) (Q:=λr s'=>r=w/\EP X pins σ Q r s') pl ∅ ∅ (by rw[Ak, <-hl];exact h1) (by simpa using ew) ⟨rfl,fin⟩) hs
def aVq:IxR X bA8:=by
 intro value slice pins s σ H x y v u Q I rx ry h hs;obtain⟨z,i,c,rfl,rfl,hz,he,q⟩:=h;obtain⟨t,rfl⟩:=rx;obtain⟨t',rfl⟩:=ry;obtain⟨j,h1,h2,h3,h4,h5⟩:=aDz he;have hl:z.cps.toList.length=z.length:=by simp[Str.length]
 rw[hl]at h1 h4 h5;have hn:=wY;exact tail_any (Up s z t) slot_str_getitem.lookup (getItem_str (c:=c) (by
  have e1:decide (i< -(2 ^ 63:Int))=false:=decide_eq_false ∅;have e2:decide (i≥2 ^ 63)=false:=decide_eq_false ∅;rw[e1,e2,Bool.or_false]) (by rw[h1];simpa using h2) ⟨.str ⟨#[c]⟩,H,I.tok _,⟨_,rfl⟩,q⟩) hs
def rIx(K:Ac):R2:=λx y H Q=>aYb K x y H Q∨aXe K x y H Q∨bA8 x y H Q
def bF:IxR X (rIx X.K):=mV.or (aX5.or aVq)
def aIx(its:List Value)(n j:Nat)(u:Value):Dy (·.setIfInBounds j u) {cls:=.type "list",data:=.seq its.toArray n}={cls:=.type "list",data:=.seq (its.set j u).toArray n}:=by
 simp[Dy]
def Inv.lst{pins:List (Addr×Obj)}{σ:St}{H:Hp}{s:Shared}{p:Addr}{xs:List V}(I:Inv X pins σ H s)(h:H p=some (.lst xs)):
  ∃(its:List Value)(n:Nat),Vals xs its/\s.heap.get? p=some {cls:=.type "list",data:=.seq its.toArray n}/\xs.length<=sizeLine:=by
 obtain⟨z,its,n,r,e⟩:=I.hok p _ h;exact⟨its,n,r,e,z⟩
def Inv.lstUpd{σ:St}{H:Hp}{p:Addr}{xs ys:List V}{n n':Nat}{f:Obj->Obj}(I:Inv X pins σ H s)(h:H p=some (.lst xs))
  (ho:s.heap.get? p=some {cls:=.type "list",data:=.seq its.toArray n}) (hf:f {cls:=.type "list",data:=.seq its.toArray n}={cls:=.type "list",data:=.seq its'.toArray n'}) (r:Vals ys its') (hz:ys.length<=sizeLine) (t:Nat):
  Inv X pins σ (upd H p (.lst ys)) {s with heap:=s.heap.update p f,toks:=t}:=by
 have e:(s.heap.update p f).get? p=some {cls:=.type "list",data:=.seq its'.toArray n'}:=by
  rw[Bn f ho (by rw[hf]<;>rfl),hf]
 refine I.write (x:=p) (e:=p) (by rw[h];trivial) (.inl rfl) (λb u hb q=>(Ci _ _ (Cy hb)).trans q) ⟨_,e⟩ ?_;exact⟨hz,its',n',r,e⟩
inductive aPp(o:V)(i:V)(v:V)(H:Hp)(Q:(Hp->Prop)):Prop
 |mk (p xs k j:_) (q0_:o=.ref p) (q1_:i=.int k) (q2_:H p=some (.lst xs)) (q3_:ixN xs.length k=some j) (q4_:Q (upd H p (.lst (xs.set j v)))):aPp o i v H Q
def aZu:V->V->V->Hp->(Hp->Prop)->Prop:=λo i v H Q=>aPp o i v H Q
def set_list:aZd X aZu:=by
 intro pins s σ H o i v ov iv u Q I ro ri rv h;obtain⟨p,xs,k,j,rfl,rfl,hp,hj,q⟩:=h;cases ro;obtain⟨t,rfl⟩:=ri;obtain⟨its,n,r,ho,hz⟩:=I.lst hp;obtain⟨h1,h2,h3,h4⟩:=aJ9 hj;have hl:=r.length;have hn:=wY;have I':Inv X pins σ (upd H p (.lst (xs.set j v))) {s with heap:=s.heap.update p (Dy (·.setIfInBounds j u))}:=
  I.lstUpd hp ho (aIx its n j u) (r.set rv j) (by rw[Cm];exact hz) s.toks
 by_cases h0:0<=k
 ·have hk:k.toNat=j:=by
   rw[Sw h0 h4]at h1;exact Bk h1
  exact PySem.W.ki_setAt ho h0 ∅ (by rw[Ak, <-hl];exact h4) (by rw[hk];exact⟨_,I',q⟩)
 ·have hk:(k+(its.toArray.size:Int)).toNat=j:=by
   rw[Rr ∅ h3]at h1;rw[Ak, <-hl];exact Bk h1
  exact PySem.W.ki_setBack ho ∅ (by rw[Ak, <-hl];exact h3) ∅ (by rw[hk];exact⟨_,I',q⟩)
def aEk(lo hi:Option Int)(n:Nat):(sliceBounds lo hi none n).1=((HT.sIx n 0 lo:Nat):Int)/\(sliceBounds lo hi none n).2.1=((HT.sIx n n hi:Nat):Int)/\(sliceBounds lo hi none n).2.2=1:=by
 refine⟨?_,?_,rfl⟩
 ·cases lo with
  |none=>simp[sliceBounds,HT.sIx]
  |some i=>
   simp only[sliceBounds,HT.sIx,Lb,show(1:Int)>0 by decide,if_true];by_cases h:i<0
   ·simp only[h,if_true]<;>lia
   ·simp only[h,if_false]<;>lia
 ·cases hi with
  |none=>simp[sliceBounds,HT.sIx]
  |some i=>
   simp only[sliceBounds,HT.sIx,Lb,show(1:Int)>0 by decide,if_true];by_cases h:i<0
   ·simp only[h,if_true]<;>lia
   ·simp only[h,if_false]<;>lia
def aBj(its:List Value)(lo hi:Option Int):slicePick its.toArray lo hi none=((its.drop (HT.sIx its.length 0 lo)).take (HT.sIx its.length its.length hi-HT.sIx its.length 0 lo)).toArray:=by
 obtain⟨h1,h2,h3⟩:=aEk lo hi its.toArray.size;unfold slicePick;rw[h1,h2,h3];simp only[sliceRange_one,pick_run,Ak]<;>rfl
inductive aUw(K:Ac)(x:V)(lo:Option Int)(hi:Option Int)(H:Hp)(Q:VK):Prop
 |mk (a xs:_) (q0_:x=.ref a) (q1_:SqL K H a xs) (q2_:∀p,H p=none->Q (.ref p) (upd H p (.lst (aBt xs lo hi)))):aUw K x lo hi H Q
def bBk(K:Ac):V->Option Int->Option Int->Hp->VK->Prop:=λx lo hi H Q=>aUw K x lo hi H Q
def aTd:SlR X (bBk X.K):=by
 intro pins s σ H x v vl vu lo hi sl Q I rx hs pl pu h;obtain⟨a,xs,rfl,hx,q⟩:=h;cases rx;obtain⟨its,r,ht,hz⟩:=I.list hx;have hlen:=r.length;refine⟨"list",_,slot_list_getitem.lookup,ht.isList.typeIs,?_⟩;refine Qd ht.isList hs pl pu .none (by simp) ?_ (by rw[Ak]<;>lia);rw[aBj, <-hlen];refine⟨.ref s.heap.objs.size,_,I.laid (t':=s.toks) (o:=.lst (aBt xs lo hi)) (λb ob q=>Ai _ q) (Am _) ?_,rfl,q _ (I.hok.fresh (Am _))⟩;exact⟨Cc (yC xs lo hi) hz,_,0,(r.drop (HT.sIx xs.length 0 lo)).take (HT.sIx xs.length xs.length hi-HT.sIx xs.length 0 lo),Ap _ rfl⟩
def jK:V->Bool
 |.non=>true
 |.bl _=>true
 |.int _=>true
 |.str _=>true
 |_=>false
def eqV:V->V->Bool
 |.non,.non=>true
 |.bl a,.bl b=>a==b
 |.bl a,.int b=>(if a then 1 else 0)==b
 |.int a,.bl b=>a==(if b then 1 else 0)
 |.int a,.int b=>a==b
 |.str a,.str b=>a==b
 |_,_=>false
def aPk{A:Around}{y x:V}{u v:Value}(ry:RelV y u)(rx:RelV x v)(fy:jK y=true)(fx:jK x=true):Ip A s u v (eqV y x):=by
 cases y with
 |non=>
  cases ry;cases x with
  |non=>cases rx;exact Ku _
  |bl b=>cases rx;exact SeqAt.EqAt.none_bool b
  |int b=>obtain⟨t,rfl⟩:=rx;exact SeqAt.EqAt.none_int b t
  |str b=>obtain⟨t,rfl⟩:=rx;exact SeqAt.EqAt.none_str b t
  |_=>exact(Al fx).elim
 |bl a=>
  cases ry;cases x with
  |non=>cases rx;exact SeqAt.EqAt.bool_none a
  |bl b=>cases rx;exact SeqAt.EqAt.bool_bool a b
  |int b=>obtain⟨t,rfl⟩:=rx;exact SeqAt.EqAt.bool_int a b t
  |str b=>obtain⟨t,rfl⟩:=rx;exact SeqAt.EqAt.bool_str a b t
  |_=>exact(Al fx).elim
 |int a=>
  obtain⟨t',rfl⟩:=ry;cases x with
  |non=>cases rx;exact SeqAt.EqAt.int_none a t'
  |bl b=>cases rx;exact SeqAt.EqAt.int_bool a t' b
  |int b=>obtain⟨t,rfl⟩:=rx;exact SeqAt.EqAt.int_int a t' b t
  |str b=>obtain⟨t,rfl⟩:=rx;exact Oc a t' b t
  |_=>exact(Al fx).elim
 |str a=>
  obtain⟨t',rfl⟩:=ry;cases x with
  |non=>cases rx;exact SeqAt.EqAt.str_none a t'
  |bl b=>cases rx;exact SeqAt.EqAt.str_bool a t' b
  |int b=>obtain⟨t,rfl⟩:=rx;exact Oa a t' b t
  |str b=>obtain⟨t,rfl⟩:=rx;exact SeqAt.EqAt.str_str a t' b t
  |_=>exact(Al fx).elim
 |_=>exact(Al fy).elim
def eqU(x:V)(u:Value):Bool:=match u with
 |.none=>eqV .non x
 |.bool b=>eqV (.bl b) x
 |.int i _=>eqV (.int i) x
 |.str z _=>eqV (.str z) x
 |_=>false
def aP7{x y:V}{u:Value}(r:RelV y u)(f:jK y=true):eqU x u=eqV y x:=by
 cases y with
 |non=>cases r;rfl
 |bl b=>cases r;rfl
 |int i=>obtain⟨t,rfl⟩:=r;rfl
 |str z=>obtain⟨t,rfl⟩:=r;rfl
 |_=>exact(Al f).elim
theorem aEv{x:V}:∀{xs:List V}{us:List Value},Vals xs us->xs.all jK=true->us.any (eqU x)=xs.any λy=>eqV y x
 |_,_,.nil,_=>rfl
 |y::xs,u::us,.cons r t,f=>by
  rw[Kw,Ek]at f;rw[Do,Do,aP7 r f.1,aEv t f.2]
theorem aAe{A:Around}{s:Shared}{x:V}{v:Value}(rx:RelV x v)(fx:jK x=true):∀{xs:List V}{us:List Value},Vals xs us->xs.all jK=true->∀u∈us,Ip A s u v (eqU x u)
 |_,_,.nil,_=>λu hu=>by cases hu
 |y::xs,u::us,.cons r t,f=>λu' hu=>by
  rw[Kw,Ek]at f;rcases List.mem_cons.mp hu with rfl|hu
  ·rw[aP7 r f.1];exact aPk r rx f.1 fx
  ·exact aAe rx fx t f.2 u' hu
def inV(x:V)(xs:List V):Bool:=xs.any λy=>eqV y x
inductive aY2(K:Ac)(neg:Bool)(x:V)(y:V)(H:Hp)(Q:VK):Prop
 |mk (p xs:_) (q0_:y=.ref p) (q1_:(SqL K H p xs∨SqT K H p xs)) (q2_:jK x=true) (q3_:xs.all jK=true) (q4_:Q (.bl (if neg then !inV x xs else inV x xs)) H):aY2 K neg x y H Q
def rIn(K:Ac)(neg:Bool):R2:=λx y H Q=>aY2 K neg x y H Q
def aDu:OpR X (compareOp .NotIn) (rIn X.K true):=by
 intro pins s σ H x y v u Q I rx ry h;obtain⟨p,xs,rfl,hq,fx,fs,q⟩:=h;cases ry;rcases hq with hq|hq
 ·obtain⟨its,r,pl,hz⟩:=I.list hq;refine Qi (eqU x) pl.isList (λw hw=>aAe rx fx r fs w (by simpa using hw)) ⟨.bl _,H,I,rfl,?_⟩;rw[show its.toArray.any (eqU x)=its.any (eqU x) by simp,aEv r fs];exact q
 ·obtain⟨its,r,pl,hz⟩:=I.tuple hq;refine Pu (eqU x) pl (λw hw=>aAe rx fx r fs w (by simpa using hw)) ⟨.bl _,H,I,rfl,?_⟩;rw[show its.toArray.any (eqU x)=its.any (eqU x) by simp,aEv r fs];exact q
def aV:eE X (.builtin "len") (aY1 X.K):=by
 intro pins s σ H xs us Q I r h;obtain⟨p,ys,rfl,hq,q⟩:=h;obtain⟨u,rfl,rx⟩:=vals1 r;cases rx;have hn:=wY;rcases hq with hq|hq
 ·obtain⟨its,r',pl,hz⟩:=I.list hq;have hlen:=r'.length;exact Calls.call_len_list pl.isList (by simp only[Ak]<;>lia) ⟨.int ys.length,H,I.tok _,⟨s.toks+1,by rw[Ak,hlen]⟩,q⟩
 ·obtain⟨its,r',pl,hz⟩:=I.tuple hq;have hlen:=r'.length;exact len_tuple pl (by simp only[Ak]<;>lia) ⟨.int ys.length,H,I.tok _,⟨s.toks+1,by rw[Ak,hlen]⟩,q⟩
def aDb:eE X (.builtin "len") (λxs H Q=>∃z,xs=[.str z]/\z.length<=sizeLine/\Q (.int z.length) H):=by
 intro pins s σ H xs us Q I r h;obtain⟨z,rfl,hz,q⟩:=h;obtain⟨u,rfl,t,rfl⟩:=vals1 r;have hn:=wY;exact len_str ∅ ⟨.int z.length,H,I.tok _,⟨_,rfl⟩,q⟩
def aEi:eE X (.type "list") (bAz X.K):=by
 intro pins s σ H xs us Q I r h;obtain⟨p,ys,rfl,hq,q⟩:=h;obtain⟨u,rfl,rx⟩:=vals1 r;cases rx;have fin:∀(its:List Value),Vals ys its->ys.length<=sizeLine->∀(h':Heap)(c':Nat),(∀b o',s.heap.get? b=some o'->h'.get? b=some o')->
   h'.get? s.heap.objs.size=some {cls:=.type "list",dict:=none,data:=.seq its.toArray c',slots:= #[]}->EP X pins σ Q (.ref s.heap.objs.size) {s with heap:=h'}:=λits r' hz h' c' kp e=>
  ⟨.ref s.heap.objs.size,_,I.laid (t':=s.toks) kp (Am _) (show cF X.prog X.w _ h' _ (.lst ys)from⟨hz,its,c',r',e⟩),rfl,q _ (I.hok.fresh (Am _))⟩
 rcases hq with hq|hq
 ·obtain⟨its,r',pl,hz⟩:=I.list hq;have hlen:=r'.length;obtain⟨o,ho,hc,n,hd⟩:=pl.isList;exact call_list_seq p (.inl rfl) ho hc hd (λh' c' kp e=>fin its r' hz h' c' kp e) (by simp only[Ak]<;>lia)
 ·obtain⟨its,r',pl,hz⟩:=I.tuple hq;have hlen:=r'.length;obtain⟨o,ho,hc,n,hd⟩:=pl;exact call_list_seq p (.inr rfl) ho hc hd (λh' c' kp e=>fin its r' hz h' c' kp e) (by simp only[Ak]<;>lia)
def tL:eE X (.type "tuple") (λxs H Q=>∃p ys,xs=[.ref p]/\((SqL X.K H p ys/\∀l,H l=none->Q (.ref l) (upd H l (.tup ys)))∨(SqT X.K H p ys/\Q (.ref p) H))):=by
 intro pins s σ H xs us Q I r h;obtain⟨p,ys,rfl,h⟩:=h;obtain⟨u,rfl,rx⟩:=vals1 r;cases rx;rcases h with ⟨hq,q⟩|⟨hq,q⟩
 ·obtain⟨its,r',pl,hz⟩:=I.list hq;have hlen:=r'.length;refine call_tuple_list pl.isList (λh' kp=>?_) (by simp only[Ak]<;>lia);have I1:Inv X pins σ H {s with heap:=h'}:=I.kept (t':=s.toks) kp;have I2:Inv X pins σ (upd H h'.objs.size (.tup ys)) {s with heap:=h'.push {cls:=.type "tuple",data:=.seq its.toArray}}:=
   I1.laid (t':=s.toks) (λb o e=>Ai _ e) (Am _) (show cF X.prog X.w _ _ _ (.tup ys)from⟨hz,its,r',Sf _ _⟩)
  exact⟨.ref h'.objs.size,_,I2,rfl,q _ (I1.hok.fresh (Am _))⟩
 ·obtain⟨its,r',pl,hz⟩:=I.tuple hq;exact call_tuple_same pl ⟨.ref p,H,I,rfl,q⟩
def tyV(K:Ac)(T:String)(x:V)(H:Hp):Prop:=match x with
 |.str _=>T="str"
 |.int _=>T="int"
 |.ref p=>(T="list"/\∃xs,SqL K H p xs)∨(T="tuple"/\∃o,K.lookup p=some o/\o.cls=.type "tuple"/\o.dict=none)∨
   (T="dict"/\((∃kvs,H p=some (.dK kvs))∨∃kvs,H p=some (.dT kvs)))∨(T="set"/\∃S n,H p=some (.set S n))
 |_=>False
def aWa{σ:St}{H:Hp}{T:String}{x:V}{v:Value}(I:Inv X pins σ H s)(r:RelV x v)(ty:tyV X.K T x H):
  s.TypeIs v T/\∀a,v=.ref a->∃ob,s.heap.get? a=some ob/\ob.dict=none:=by
 cases x with
 |str z=>
  obtain⟨t,rfl⟩:=r;cases (show T="str" from ty);exact⟨Up s z t,λ_ e=>nomatch e⟩
 |int i=>
  obtain⟨t,rfl⟩:=r;cases (show T="int" from ty);exact⟨typeIs_int s i t,λ_ e=>nomatch e⟩
 |ref p=>
  cases r;rcases ty with ⟨rfl,xs,hq⟩|⟨rfl,o,hk,hc,hd⟩|⟨rfl,hk⟩|⟨rfl,S,n,hk⟩
  ·obtain⟨its,_,pl,_⟩:=I.list hq;refine⟨pl.isList.typeIs,λa e=>?_⟩;cases e;obtain⟨o,n,e,c,hd,_⟩:=pl;exact⟨o,e,hd⟩
  ·refine⟨⟨o,I.kIn p o hk,hc⟩,λa e=>?_⟩;cases e;exact⟨o,I.kIn _ o hk,hd⟩
  ·have z:∃o,s.heap.get? p=some o/\o.ExactDict:=by
    rcases hk with ⟨kvs,hk⟩|⟨kvs,hk⟩
    ·obtain⟨_,_,_,_,o,_,_,e,ex,_⟩:=I.hok p _ hk;exact⟨o,e,ex⟩
    ·obtain⟨_,_,_,_,o,_,_,e,ex,_⟩:=I.hok p _ hk;exact⟨o,e,ex⟩
   obtain⟨o,e,ex⟩:=z;refine⟨⟨o,e,ex.1⟩,λa e2=>?_⟩;cases e2;exact⟨o,e,ex.2.1⟩
  ·obtain⟨o,_,_,_,e,ex,_⟩:=I.hok p _ hk;refine⟨⟨o,e,ex.1⟩,λa e2=>?_⟩;cases e2;exact⟨o,e,ex.2.1⟩
 |_=>exact Et ty
def tBM(K:Ac)(T:String)(r:V->List V->Hp->VK->Prop)(to:TE)(t:TA):TE:=λσ H Q=>to σ H λx H1=>tyV K T x H1/\t σ H1 λxs H2=>r x xs H2 Q
variable {o e:Expr}{es:List Expr}{to:TE}{t:TA}{name:Str}{apos cpos:Pos}{T id:String}{r:V->List V->Hp->VK->Prop}
def vW(pa:PlainAttrs T)(slot:Slot T name id)(hty:typeOf (.builtin id)=pure (.type "method_descriptor"))(hm:MtR X id r)(ho:PE X o to)(ha:PA X (e::es) t)
  (hbase:attributeBase o name X.env (eval o X.env)=eval o X.env:=by rfl)
  (hfew:((backTo cpos (starEach (e::es) X.env)).all (λx=> !x.1) && (backToKw cpos (keywordEach [] X.env)).all (λx=>x.1.isSome)
   && decide ((e::es).length+([]:List Keyword).length+(if([]:List Keyword).isEmpty then 0 else 1)<30))=true:=by rfl)
  (hline:EL apos cpos:=by rfl) (hs:SE X e es:=by rfl) (hplain:BT X cpos es:=by rfl):
  PE X (.Call (.Attribute o name apos) (e::es) [] cpos) (tBM X.K T r to t):=by
 intro pins s σ H Q I h;refine Ra hbase hfew hline rfl (thn (ho pins s σ H _ I h) λv s1 ⟨x,H1,I1,r1,ty,q1⟩=>?_);obtain⟨h1,h2⟩:=aWa I1 r1 ty;refine⟨T,id,pa,slot,hty,h1,h2,?_⟩;have hA:=ha cpos pins s1 σ H1 _ I1 q1;rw[hs]at hA⊢;refine Jg (by show(false || (backTo cpos (starEach es X.env)).any (·.1))=false;rw[hplain]<;>rfl) (Ph ?_);exact thn hA λus s2 ⟨vs,H2,I2,r2,q2⟩=>hm pins s2 σ H2 x vs v us Q I2 r1 r2 q2
end
def MtM(X:Cx)(id:String)(r:V->List V->Hp->VK->Prop):Prop:=
 ∀(pins:List (Addr×Obj))(s:Shared)(σ:St)(H:Hp)(x:V)(xs:List V)(v:Value)(us:List Value)(Q:VK),Inv X pins σ H s->RelV x v->Vals xs us->r x xs H Q->
  wpAny (model X.prog X.w) X.A (call (.builtin id) (v::us)) (EP X pins σ Q) X.xe s
def Vals.one:∀{x:V}{us:List Value},Vals [x] us->∃u,us=[u]/\RelV x u
 |_,_,.cons r .nil=>⟨_,rfl,r⟩
def Vals.eraseIdx:∀{xs:List V}{us:List Value}(i:Nat),Vals xs us->Vals (xs.eraseIdx i) (us.eraseIdx i)
 |_,_,_,.nil=> .nil
 |_,_,0,.cons _ t=>t
 |_,_,i+1,.cons r t=> .cons r (Vals.eraseIdx i t)
def Vals.reverse{xs:List V}(h:Vals xs us):Vals xs.reverse us.reverse:=by
 induction h with
 |nil=>exact .nil
 |cons r t ih=>rw[Iv,Iv];exact Vals.append ih (.cons r .nil)
theorem iM{α:Type}:∀(l:List α)(i:Nat),(l.eraseIdx i).length<=l.length
 | [],_=>Am _
 |_::_,0=>He _
 |_::r,i+1=>Mg (iM r i)
variable {X:Cx}{pins:List (Addr×Obj)}{σ:St}{H:Hp}{s:Shared}{l b:Addr}{xs ys zs:List V}
def Inv.lset{f:Array Value->Array Value}{t':Nat}(I:Inv X pins σ H s)(hH:H l=some (.lst xs))
  (e:s.heap.get? l=some {cls:=.type "list",data:=.seq its.toArray n}) (hf:f its.toArray=its'.toArray) (hv:Vals ys its') (hz:ys.length<=sizeLine):
  Inv X pins σ (upd H l (.lst ys)) {s with heap:=s.heap.update l (Dy f),toks:=t'}:=by
 have q:=PySem.IsL.update e f;rw[hf]at q;refine I.write (x:=l) (e:=l) (by rw[hH];exact trivial) (.inl rfl) (λb' u hb hu=>(Ci s.heap (Dy f) (Cy hb)).trans hu) ⟨_,q⟩ ?_;exact⟨hz,its',_,hv,q⟩
def Inv.lnew{its:List Value}{t':Nat}(I:Inv X pins σ H s)(hv:Vals ys its)(hz:ys.length<=sizeLine):
  Inv X pins σ (upd H s.heap.objs.size (.lst ys)) {s with heap:=s.heap.push {cls:=.type "list",data:=.seq its.toArray},toks:=t'}:=
 I.laid (λ_ _ q=>Ai _ q) (Am _) ⟨hz,its,0,hv,Ap _ rfl⟩
def Inv.fresh(I:Inv X pins σ H s):H s.heap.objs.size=none:=I.hok.fresh (Am _)
def Inv.lstM(I:Inv X pins σ H s)(hH:H l=some (.lst xs)):xs.length<=sizeLine/\∃(its:List Value)(n:Nat),Vals xs its/\xs.length=its.length/\s.heap.get? l=some {cls:=.type "list",data:=.seq its.toArray n}:=by
 obtain⟨z,its,n,r,e⟩:=I.hok l _ hH;exact⟨z,its,n,r,r.length,e⟩
def aOx(h:n<=sizeLine):Hs n=false:=by
 unfold Hs;exact decide_eq_false ∅
inductive aGe(x:V)(vs:List V)(H:Hp)(Q:VK):Prop
 |mk (l xs y:_) (q0_:x=.ref l) (q1_:vs=[y]) (q2_:H l=some (.lst xs)) (q3_:xs.length<sizeLine) (q4_:Q .non (upd H l (.lst (xs++[y])))):aGe x vs H Q
def aRs:V->List V->Hp->VK->Prop:=λx vs H Q=>aGe x vs H Q
def oO:MtM X "list.append" aRs:=by
 intro pins s σ H x vs v us Q I rx rv h;obtain⟨l,xs,y,rfl,rfl,hH,hz,q⟩:=h;cases rx;obtain⟨u,rfl,ru⟩:=rv.one;obtain⟨z,its,n,r,hl,e⟩:=I.lstM hH;refine Ur F.slot_list_append ⟨_,e,rfl⟩ F.entry_list_append (F.args_list_append_2 _ _) (PySem.list_append l its.toArray n u (by rw[Ak];lia)) ⟨e,?_⟩;refine⟨.non,_,I.lset (its':=its++[u]) hH e (by simp) (r.append (.cons ru .nil)) ?_,rfl,q⟩;rw[Ag,Fq]
 lia
inductive aFp(x:V)(vs:List V)(H:Hp)(Q:VK):Prop
 |mk (l b xs zs:_) (q0_:x=.ref l) (q1_:vs=[.ref b]) (q2_:H l=some (.lst xs)) (q3_:H b=some (.lst zs)) (q4_:xs.length+zs.length<=sizeLine) (q5_:Q .non (upd H l (.lst (xs++zs)))):aFp x vs H Q
def aTn:V->List V->Hp->VK->Prop:=λx vs H Q=>aFp x vs H Q
def aMe:MtM X "list.extend" aTn:=by
 intro pins s σ H x vs v us Q I rx rv h;obtain⟨l,b,xs,zs,rfl,rfl,hH,hB,hz,q⟩:=h;cases rx;obtain⟨u,rfl,ru⟩:=rv.one;cases ru;obtain⟨z,its,n,r,hl,e⟩:=I.lstM hH;obtain⟨z2,its2,n2,r2,hl2,e2⟩:=I.lstM hB;have hsz:its.toArray.size+its2.toArray.size<=sizeLine:=by rw[Ak,Ak];lia
 have hlong:¬(!its.toArray.isEmpty && Hs (its.toArray.size+its2.toArray.size))=true:=by
  rw[aOx hsz,Gg];exact Al
 refine Ur F.slot_list_extend ⟨_,e,rfl⟩ F.entry_list_extend (F.args_list_extend_2 _ _)
  (AutoSeq1.list_extend_list_list_0 l its.toArray n b its2.toArray n2 hlong (by rw[Ak];lia) ∅) ⟨e,e2,?_⟩
 refine⟨.non,_,I.lset (its':=its++its2) hH e (by simp) (r.append r2) ?_,rfl,q⟩;rw[Ag]
 lia
inductive aJ6(x:V)(vs:List V)(H:Hp)(Q:VK):Prop
 |mk (l xs i k y:_) (q0_:x=.ref l) (q1_:vs=[.int i]) (q2_:H l=some (.lst xs)) (q3_: -(2 ^ 63)<=i) (q4_:i<2 ^ 63) (q5_:seqIndex? i xs.length=some k) (q6_:xs[k]? =some y) (q7_:Q y (upd H l (.lst (xs.eraseIdx k)))):aJ6 x vs H Q
def aWp:V->List V->Hp->VK->Prop:=λx vs H Q=>aJ6 x vs H Q
def aF0:MtM X "list.pop" aWp:=by
 intro pins s σ H x vs v us Q I rx rv h;obtain⟨l,xs,i,k,y,rfl,rfl,hH,h1,h2,hk,hy,q⟩:=h;cases rx;obtain⟨u,rfl,ru⟩:=rv.one;obtain⟨t,rfl⟩:=ru;obtain⟨z,its,n,r,hl,e⟩:=I.lstM hH;obtain⟨w,hw,rw'⟩:=r.get hy;refine Ur F.slot_list_pop ⟨_,e,rfl⟩ F.entry_list_pop (F.args_list_pop_2 _ _)
  (MeetsSeq.list_pop_at l its.toArray n i t k w (fitsIndex_both h1 h2) (by rw[Ak, <-hl];exact hk) (by rw[<-Bl];exact hw) (by rw[Ak];lia)) ⟨e,?_⟩
 refine⟨y,_,I.lset (its':=its.eraseIdx k) hH e ?_ (r.eraseIdx k) ?_,rw',q⟩
 ·show its.toArray.eraseIdxIfInBounds k=(its.eraseIdx k).toArray;rw[List.eraseIdxIfInBounds_toArray]
 ·have:=iM xs k
  lia
inductive aU3(x:V)(y:V)(H:Hp)(Q:VK):Prop
 |mk (l b xs zs:_) (q0_:x=.ref l) (q1_:y=.ref b) (q2_:H l=some (.lst xs)) (q3_:H b=some (.lst zs)) (q4_:xs.length+zs.length<=sizeLine) (q5_:∀p,H p=none->Q (.ref p) (upd H p (.lst (xs++zs)))):aU3 x y H Q
def aZh:R2:=λx y H Q=>aU3 x y H Q
def aXj:OpR X (binaryOp .Add) aZh:=by
 intro pins s σ H x y v u Q I rx ry h;obtain⟨l,b,xs,zs,rfl,rfl,hH,hB,hz,q⟩:=h;cases rx;cases ry;obtain⟨z,its,n,r,hl,e⟩:=I.lstM hH;obtain⟨z2,its2,n2,r2,hl2,e2⟩:=I.lstM hB;refine PySem.P.add_list e e2 ?_ (by rw[Ak,Ak];lia);have ea:its.toArray++its2.toArray=(its++its2).toArray:=by simp
 rw[ea];exact⟨.ref _,_,I.lnew (t':=s.toks) (r.append r2) (by rw[Ag];lia),rfl,q _ I.fresh⟩
variable {prog:Program}{w:World}{A:Around}{E:Value->Shared->Prop}
end L2
namespace Att
open PySem PySem.W PySem.Calls PyProof.Rows
def yM{P:Params}{h:Heap}:∀(ns:List Int)(vs:List Value),WellAll P h vs (ns.map Xh)->IntsAre vs ns:=by
 intro ns;induction ns with
 |nil=>
  intro vs w;rw[Dg]at w;cases w;exact .nil
 |cons n ns ih=>
  intro vs w;rw[Au]at w;cases w with
  |cons a b=>
   cases a;exact .cons _ _ (ih _ b)
def aLs{l:OpenLaw}{n:Nat}(hn:l.most=some n){P:Params}{h:Heap}{args:List WData}{vals:List Value}
  (hpre:l.row.toRowW.claim.pre args=true) (hwl:WellAll P h vals args):
  ∃a vs ns,vals=[An a]/\args=[WData.list (ns.map Xh)]/\h.get? a=some {cls:=.type "list",data:=.seq vs.toArray}/\IntsAre vs ns/\ns.length<=n:=by
 have hsh:WShape.hasAll [] args [.list .int]=true:=(pre_splitW hpre).1;have hc:l.pre.holds [] {args:=args}=true:=(pre_splitW hpre).2;obtain⟨d,r,rfl,h1,h2⟩:=hasAllW_cons hsh;obtain rfl:=hasAllW_nil h2;obtain⟨xs,rfl,h3⟩:=hasW_list h1;obtain⟨ns,rfl⟩:=items_int h3;have hlen:ns.length<=n:=by
  unfold OpenLaw.pre at hc;have h4:(WTm.not (.lt (.lit (.int (n:Int))) (.len (.arg 0)))).holds [] {args:=[.list (ns.map .int)]}=true:=by
   have h4:=(holds_andW hc).1;rw[hn]at h4;exact h4
  have h5:=condW_of h4 (w_not (w_lt w_lit (w_len_list (w_arg rfl))));rw[Ab]at h5;refine Nat.le_of_not_lt λq=>?_;have q':(n:Int)<((ns.length:Nat):Int):=by lia
  first
   |(rw[decide_eq_true q']at h5;exact absurd h5 ⋯)
   |(simp at h5;lia)
 cases hwl with
 |cons w1 w2=>
  cases w2;cases w1 with
  |list ho hall=>exact⟨_,_,ns,rfl,rfl,ho,yM ns _ hall,hlen⟩
def aLv(l:OpenLaw)(args:List WData):l.row.toRowW.claim.post args (.bool true) args=true:=
 postW_of (r:=l.row.toRowW) (X:=(true==true))
  (show Us [] (.bool true) .bool=true by first|rfl|decide|simp[Us,WShape.arms,WShape.armsAll])
  (show(WTm.eq .res (.lit (.bool true))).value [] {args:=args,res:=some (.bool true),after:=args}=some (.bool (true==true))from w_eq_bool (w_res rfl) w_lit) rfl
def aGc{l:OpenLaw}{n:Nat}{q:Program}{loose:List Str}{XP:(Str->Option Value)->Heap->Prop}{YP:World->Heap->Prop}{d:DefRec}
  (hn:l.most=some n) (hdf:d.params.defaults=[])
  (call:∀(w:World)(s₀ s₁:Shared)(mg mb:Str->Option Value)(fa:Addr)(o:Obj)(pm cd doc:Value)(a:Addr)(vs:List Value)(ns:List Int),
   Ground q loose [] XP w s₀ mg mb s₁.heap->YP w s₁.heap->
   s₁.heap.get? fa=some o->o.data=.func (docDef d.name d.params d.body d.scope pm cd doc)->s₁.heap.CodeRec cd d.name->mg d.name=some (.ref fa)->
   s₁.heap.get? a=some {cls:=.type "list",data:=.seq vs.toArray}->IntsAre vs ns->ns.length<=n->s₁.gens= #[]->
   codeAny (model l.prog w) callerA (.call (.ref fa) ⟨[.ref a],[]⟩) (λr s'=>r=.ok (.ret (.bool true))/\OldK s₁.heap s'.heap/\s'.os=s₁.os/\AllBare s'.gens) s₁):
  WalkO q loose XP YP l.row.toRowW d [] (λf vs=>Qs f vs):=by
 intro w s₀ s₁ mg mb G Y fa o pm cd doc dV kV ho hd hcd hD hmg hg args vals as hpre hlay hrd hwl hlo;obtain rfl:dV=.none:=Dflts.none hD hdf;obtain rfl:kV=.none:=Dflts.noKw hD;obtain⟨a,vs,ns,rfl,rfl,hobj,hints,hlen⟩:=aLs hn hpre hwl;refine enter_call (Hv (call w s₀ s₁ mg mb fa o pm cd doc a vs ns G Y ho (fd_plain hd) hcd hmg hobj hints hlen hg) λr s' hq=>?_);obtain⟨rfl,h2,h3,h4⟩:=hq;exact⟨.inl ⟨.bool true,.bool true,[],rfl,λ_=>rfl,.bool true,aLv l _,λ_=>⟨Vf,λ_ hm=>(nomatch hm)⟩⟩,h2,h3,h4⟩
variable {prog:Program}{w:World}{A:Around}{E:Value->Shared->Prop}{s:Shared}{K:Frag}
end Att
namespace L2
variable {fd:FuncData}{x qual:Str}{f:Addr}{k:Nat}
open PySem PySem.Spec PyProof.Rows
theorem aCv:∀{vs:List Value}{ns:List Int},IntsAre vs ns->Vals (ns.map V.int) vs
 |_,_,.nil=> .nil
 |_,_,.cons n t h=> .cons ⟨t,rfl⟩ (aCv h)
def Only(H:Hp):Prop:=∀b,H b=none∨∃o xs,H b=some (.frz o (.lst xs))
def aNl{P:Program}{w:World}{K:Ac}{mg mb:Str->Option Value}{CX:CXT}{fa a:Addr}{x:Str}{sp:Sp}{s₁:Shared}{vs:List Value}{ns:List Int}
  (KX:K.In s₁.heap) (hns:s₁.heap.Ns mainGlobals mg) (hb:s₁.heap.Ns builtinsNs mb) (hbb:∀x:Str,x≠"__name__"->mb x=bootBuiltins x) (hlim:s₁.heap.NoLimit) (hg:s₁.gens= #[])
  (ha:s₁.heap.get? a=some {cls:=.type "list",data:=.seq vs.toArray}) (hi:IntsAre vs ns) (hl:ns.length<=sizeLine) (hr:dG k callerA)
  (F:∀base:Heap,K.In base->base.Ns mainGlobals mg->bC P w K mg base CX k fa fd [x] sp) (hbind:∀(s:Shared)(u:Value),BindsTo s fd ⟨[u],[]⟩ [(x,u)])
  (hsp:∀H:Hp,Only H->SqL K H a (ns.map V.int)->sp [.ref a] H (λv _=>v=.bl true) λ_ _ _=>False)
  (hCX:∀H e s',CX [] H s₁ (λ_ _ _=>False) e s'->False):
  codeAny (model P w) callerA (.call (.ref fa) ⟨[.ref a],[]⟩) (λr s'=>r=.ok (.ret (.bool true))/\OldK s₁.heap s'.heap/\s'.os=s₁.os/\AllBare s'.gens) s₁:=by
 have rv:=aCv hi;have lenV:=hi.length;have core:∀H:Hp,Only H->SqL K H a (ns.map V.int)->HOk P w H s₁.heap->(∀b,H b≠none->b=a)->(H a≠none->K.lookup a=none)->
   codeAny (model P w) callerA (.call (.ref fa) ⟨[.ref a],[]⟩) (λr s'=>r=.ok (.ret (.bool true))/\OldK s₁.heap s'.heap/\s'.os=s₁.os/\AllBare s'.gens) s₁:=by
  intro H hO hS hok hA hK;have base_of:∀{b:Addr}{o:Obj},s₁.heap.get? b=some o->H b=none->(aDm s₁.heap H).get? b=some o:=λe n=>aNm e n;have noA:∀{b:Addr}{o:Obj}{es:Array DictEntry}{ep:Nat},s₁.heap.get? b=some o->o.data=.dict es ep->H b=none:=λ{b o es ep} e d=>by
   cases q:H b with
   |none=>rfl
   |some u=>
    have e':b=a:=hA b (by rw[q];simp);subst e';rw[ha]at e;cases e;have d':Data.seq vs.toArray _=Data.dict es ep:=d;cases d'
  have nsK:∀{b:Addr}{m:Str->Option Value},s₁.heap.Ns b m->(aDm s₁.heap H).Ns b m:=λ{b m} ⟨o,es,ep,e,d,r⟩=>⟨o,es,ep,base_of e (noA e d),d,r⟩;have hKb:K.In (aDm s₁.heap H):=λb o e=>base_of (KX b o e) (by
   cases q:H b with
   |none=>rfl
   |some u=>
    have e':b=a:=hA b (by rw[q];simp);subst e';rw[hK (by rw[q];simp)]at e;cases e)
  have hM:Mod K mg (aDm s₁.heap H):=⟨hKb,nsK hns,⟨mb,nsK hb,hbb⟩,let⟨mc,h1,h2⟩:=hlim;⟨mc,nsK h1,h2⟩⟩;have e0:aHh P w K mg (aDm s₁.heap H) callerA [] s₁ H:=⟨rfl,hM,λb o e=>aS9 e,Wr (aMc _ _),trivial,λb hb=>absurd (show b∈([]:List Addr)from hb) (by simp),hok,.of_eq hg⟩;refine Hv ((F _ hKb (nsK hns)).run callerA [] s₁ H ⟨[.ref a],[]⟩ [.ref a] [.ref a] _ _ hr e0 (hbind s₁ (.ref a)) (.cons rfl .nil) (hsp H hO hS)) λr s' h=>?_;cases r with
  |error e=>exact(hCX H e s' h).elim
  |ok fl=>
   cases fl with
   |next=>exact Et h
   |brk=>exact Et h
   |cont=>exact Et h
   |ret u=>
    obtain⟨v,H',os,bare,un,hok',r',q⟩:=h;have q':v=.bl true:=q;subst q';obtain rfl:u=Gj true:=r';refine⟨rfl,OldK.of_keep λb o e=>?_,os,bare⟩;cases q:H b with
    |none=>exact un.keep b o e q (by intro z;exact absurd (show b∈([]:List Addr)from z) (by simp)) (by simp)
    |some u=>
     rcases hO b with z|⟨ob,xs,z⟩
     ·rw[q]at z;cases z
     ·have z2:=un.frzs b ob _ z;obtain⟨e1,_⟩:=hok b _ z;obtain⟨e2,_⟩:=hok' b _ z2;rw[e]at e1;cases e1;exact e2
 cases hk:K.lookup a with
 |some o=>
  have e:=KX a o hk;rw[ha]at e;cases e;refine core (λ_=>none) (λ_=> .inl rfl) (.inr ⟨_,vs.toArray,_,hk,rfl,rfl,rfl,by rw[Ak,lenV];exact hl,by simpa using rv⟩) (λb u z=>by have z':(none:Option HO)=some u:=z;cases z') (λb z=>absurd rfl z) λz=>absurd rfl z
 |none=>
  refine core (λb=>if b=a then some (.frz {cls:=.type "list",data:=.seq vs.toArray} (.lst (ns.map V.int)))else none) (λb=>?_) (.inl (.inr ⟨{cls:=.type "list",data:=.seq vs.toArray},if_pos rfl⟩)) (λb u z=>?_) (λb z=>?_) λ_=>hk
  ·by_cases hb:b=a
   ·exact .inr ⟨_,_,if_pos hb⟩
   ·exact .inl (if_neg hb)
  ·by_cases hb:b=a
   ·have z':=(if_pos hb).symm.trans z;cases z';subst hb;exact⟨ha,by rw[Ab];exact hl,vs,_,rv,ha⟩
   ·have z':=(if_neg hb).symm.trans z;cases z'
  ·by_cases hb:b=a
   ·exact hb
   ·exact absurd (if_neg hb) z
def aTm{l:PySem.W.OpenLaw}{n k:Nat}{q:Program}{loose:List Str}{XP:(Str->Option Value)->Heap->Prop}{YP:World->Heap->Prop}{d:DefRec}{K:Params->Ac}{CX:World->CXT}{sp:World->Sp}{x:Str}
  (hn:l.most=some n) (hn2:n<=sizeLine) (hdf:d.params.defaults=[]) (hr:dG k callerA)
  (hY:∀(w:World)(h:Heap),YP w h->(K w.params).In h)
  (F:∀(w:World)(mg:Str->Option Value)(fa:Addr)(h:Heap),(K w.params).In h->h.Ns mainGlobals mg->mg d.name=some (.ref fa)->
   ∃fd:FuncData,(∀(s:Shared)(u:Value),BindsTo s fd ⟨[u],[]⟩ [(x,u)])/\
    ∀base:Heap,(K w.params).In base->base.Ns mainGlobals mg->bC l.prog w (K w.params) mg base (CX w) k fa fd [x] (sp w))
  (hsp:∀(w:World)(H:Hp)(a:Addr)(ns:List Int),ns.length<=n->Only H->SqL (K w.params) H a (ns.map V.int)->sp w [.ref a] H (λv _=>v=.bl true) λ_ _ _=>False)
  (hCX:∀(w:World)(H:Hp)(s:Shared)(e:Value)(s':Shared),CX w [] H s (λ_ _ _=>False) e s'->False):
  PySem.W.WalkO q loose XP YP l.row.toRowW d [] (λf vs=>Qs f vs):=by
 refine Att.aGc hn hdf λw s₀ s₁ mg mb fa o pm cd doc a vs ns G Y ho hd hcd hmg hobj hints hlen hg=>?_;have KX:=hY w _ Y;obtain⟨fd,hb,hF⟩:=F w mg fa _ KX G.T.g hmg;exact aNl KX G.T.g G.T.b G.T.builtins G.T.nolimit hg hobj hints (Cc hlen hn2) hr hF hb (λH hO hS=>hsp w H a ns hlen hO hS) λH e s'=>hCX w H s₁ e s'
def inClass(s:Stmt)(j:Nat):Stmt:=match s with
 |.ClassDef _ _ _ body _ _ _ _ _ _ _=>body.getD j (.Pass ⟨0,0,0,0⟩)
 |_=> .Pass ⟨0,0,0,0⟩
def jR(s:Stmt):Arguments:=match s with
 |.FunctionDef _ a _ _ _ _ _ _ _ _=>a
 |_=>{posonlyargs:=[],args:=[],vararg:=none,kwonlyargs:=[],kw_defaults:=[],kwarg:=none,defaults:=[]}
def gJ(s:Stmt):List Stmt:=match s with
 |.FunctionDef _ _ b _ _ _ _ _ _ _=>b
 |_=>[]
def aC(s:Stmt):Scope:=match s with
 |.FunctionDef _ _ _ _ _ _ sc _ _ _=>sc
 |_=>{kind:=.function,names:=[],isGenerator:=false,isCoroutine:=false}
abbrev CX0:CXT:=λ_ _ _ _ _ _=>False
abbrev E0:XK:=λ_ _ _=>False
def bH{X:Cx}:pL CX0 X E0:=λ_ _ _ _ _ _ _ h=>h.elim
structure Fun(K:Ac)(x qual:Str)(st:Stmt)(f:Addr)(fd:FuncData):Prop where
 ex:∃(oc:Value)(od:Option Addr)(kV doc pm:Value)(an:Option Addr)(cdv ct:Value)(osl:Array (Option Value)),
  fd=Eg x qual (jR st) (gJ st) (aC st) .none kV doc pm an cdv ct/\K.lookup f=some ⟨oc,od,.func fd,osl⟩/\Mf K cdv qual=true
 kp:Fz K (.ref f)=true
variable {P:Program}{w:World}{K:Ac}{mg:Str->Option Value}{base:Heap}
def Fun.ok{st:Stmt}{N ps:List Str}{sp:Sp}(F:Fun K x qual st f fd)(S:aL N ps (aC st))(len:∀vs H Q E,sp vs H Q E->vs.length=ps.length)
  (hbody:∀(cdv:Value)(A:Around)(outer:List Env)(s:Shared)(H:Hp)(vs:List V)(Q:VK)(E:XK),dG k (A.deeper (envOfC qual (aC st) s.heap.objs.size f cdv))->sp vs H Q E->
   ∃t,PSs (aF9 CX0 P w K mg base N qual (aC st) f cdv A outer s H E).nox (gJ st) t/\t {nx:=λ_ H'=>Q .non H',rt:=Q} (start N vs) H):bC P w K mg base CX0 (k+1) f fd ps sp:=by
 obtain⟨oc,od,kV,doc,pm,an,cdv,ct,osl,rfl,lk,hcd⟩:=F.ex;refine bAh lk hcd S len λA outer s H vs Q E hr hsp=>?_;obtain⟨t,h,q⟩:=hbody cdv A outer s H vs Q E hr hsp;exact⟨t,h.nox,q⟩
def Fun.binds{st:Stmt}{ps:List Str}(F:Fun K x qual st f fd)
  (h:∀(kV doc pm:Value)(an:Option Addr)(cdv ct:Value)(us:List Value),us.length=ps.length->bindArgs (Eg x qual (jR st) (gJ st) (aC st) .none kV doc pm an cdv ct) ⟨us,[]⟩=pure (ps.zip us)):Binds K fd ps []:=by
 obtain⟨oc,od,kV,doc,pm,an,cdv,ct,osl,rfl,lk,hcd⟩:=F.ex;exact .all (h kV doc pm an cdv ct)
def aN2{st:Stmt}{oc:Value}{od an:Option Addr}{osl:Array (Option Value)}{kV doc pm cdv ct:Value}(l:K.lookup f=some ⟨oc,od,.func (Eg x qual (jR st) (gJ st) (aC st) .none kV doc pm an cdv ct),osl⟩)
  (c:Mf K cdv qual=true) (k:Fz K (.ref f)=true):Fun K x qual st f (Eg x qual (jR st) (gJ st) (aC st) .none kV doc pm an cdv ct):=⟨⟨oc,od,kV,doc,pm,an,cdv,ct,osl,rfl,l,c⟩,k⟩
def qC{A:Around}(hr:dG k A):A.units+1<cLine:=Ky (Qu (by decide:1<=64) _) hr.units
variable {X:Cx}
def pv(i:Nat){x:Str}{pos:Pos}(hN:X.N[i]? =some x:=by rfl)(hv:Vis X.env.scope x:=by trivial)(hd:ND x:=by decide)
  (hcd:NC x:=by decide):PE X (.Name x pos) (bAy i):=iZ hN hv hd hcd
def qK{A B:Prop}(h:B):if false=true then A else B:=by
 rw[if_neg Al];exact h
def aGf{A B:Prop}(h:A):if true=true then A else B:=by
 rw[if_pos rfl];exact h
def bB5{c A B:Prop} [Decidable c](h1:c->A)(h2:¬c->B):if c then A else B:=by
 by_cases h:c
 ·rw[if_pos h];exact h1 h
 ·rw[if_neg h];exact h2 h
def aMs{c A B:Prop} [Decidable c](hc:c)(h:B):if(!decide c)=true then A else B:=by
 rw[decide_eq_true hc];exact qK h
def fJ(H H':Hp):Prop:=∀b o,H b=some o->H' b=some o
def fJ.refl(H:Hp):fJ H H:=λ_ _ h=>h
def fJ.trans{H H1 H2:Hp}(a:fJ H H1)(b:fJ H1 H2):fJ H H2:=λc o h=>b c o (a c o h)
end L2
set_option maxHeartbeats 4000000
namespace L2
variable {kvs:List (List Key×V)}{xs:List (List Key×Addr×Value)}{u:Value}{Q:Value->Shared->Prop}{trs:List (TE×TE)}{y:V}
open PySem PySem.Spec PyProof.Rows
section
variable {κ:Type} [DecidableEq κ]
def mL(kvs:List (κ×V))(k:κ):Option V:=(kvs.find? λkv=>decide (kv.1=k)).map (·.2)
def putK(kvs:List (κ×V))(k:κ)(v:V):List (κ×V):=
 if(kvs.any λkv=>decide (kv.1=k))=true then kvs.map (λkv=>if kv.1=k then(kv.1,v)else kv)else kvs++[(k,v)]
def oR{p:κ×V}{r:List (κ×V)}{k:κ}(e:p.1=k):mL (p::r) k=some p.2:=by simp[mL,Ew,e]
def oA{p:κ×V}{r:List (κ×V)}{k:κ}(e:¬p.1=k):mL (p::r) k=mL r k:=by simp[mL,Ew,e]
theorem aFf(k:κ):∀kvs:List (κ×V),(kvs.any λkv=>decide (kv.1=k))=(mL kvs k).isSome
 | []=>rfl
 |p::r=>by
  rw[Do];by_cases e:p.1=k
  ·simp only[oR e,decide_eq_true e,Bool.true_or,Option.isSome_some]
  ·rw[oA e,decide_eq_false e,Bool.false_or];exact aFf k r
def rA(kvs:List (κ×V))(k:κ)(v:V):(putK kvs k v).length<=kvs.length+1:=by
 unfold putK;split
 ·rw[Ab];lia
 ·rw[Ag,Ah,Be];lia
def tE.isSome_eq{o:Option V}{u:Option Value}(r:tE o u):o.isSome=u.isSome:=by
 cases o with
 |none=>cases u with
  |none=>rfl
  |some _=>exact(show False from r).elim
 |some _=>cases u with
  |none=>exact(show False from r).elim
  |some _=>rfl
def KV.val{kvs:List (κ×V)}{vs:List (κ×Value)}(r:KV kvs vs)(k:κ):tE (mL kvs k) (valueAt vs k):=by
 unfold KV at r;induction r with
 |nil=>exact Dx
 |@cons p q ps qs h t ih=>
  obtain⟨h1,h2⟩:=h;by_cases e:p.1=k
  ·have e':q.1=k:=h1.symm.trans e;have b:valueAt (q::qs) k=some q.2:=by simp[valueAt,Ew,e']
   rw[oR e,b];exact h2
  ·have e':¬q.1=k:=λz=>e (h1.trans z);have b:valueAt (q::qs) k=valueAt qs k:=by simp[valueAt,Ew,e']
   rw[oA e,b];exact ih
def KV.any{kvs:List (κ×V)}{vs:List (κ×Value)}(r:KV kvs vs)(k:κ):(kvs.any λkv=>decide (kv.1=k))=vs.any λkv=>decide (kv.1=k):=by
 unfold KV at r;induction r with
 |nil=>rfl
 |cons h t ih=>rw[Do,Do,ih,h.1]
def KV.repl{kvs:List (κ×V)}{vs:List (κ×Value)}(r:KV kvs vs)(k:κ)(ry:RelV y u):
  KV (kvs.map λkv=>if kv.1=k then(kv.1,y)else kv) (vs.map λkv=>if kv.1=k then(kv.1,u)else kv):=by
 unfold KV at r⊢;induction r with
 |nil=>exact .nil
 |@cons p q ps qs h t ih=>
  rw[Au,Au];refine .cons ?_ ih;obtain⟨h1,h2⟩:=h;by_cases e:p.1=k
  ·rw[if_pos e,if_pos (h1.symm.trans e)];exact⟨h1,ry⟩
  ·rw[if_neg e,if_neg (λz=>e (h1.trans z))];exact⟨h1,h2⟩
def KV.put{kvs:List (κ×V)}{vs:List (κ×Value)}(r:KV kvs vs)(k:κ)(ry:RelV y u):KV (putK kvs k y) (stored vs k u):=by
 unfold putK stored;rw[r.any k];by_cases e:(vs.any λkv=>decide (kv.1=k))=true
 ·rw[if_pos e,if_pos e];exact r.repl k ry
 ·rw[if_neg e,if_neg e];exact Ua r ⟨rfl,ry⟩
def KV.length{kvs:List (κ×V)}{vs:List (κ×Value)}(r:KV kvs vs):kvs.length=vs.length:=Nr r
end
def aKn{P:Program}{w:World}{k:Key}(r:RelV (kV k) u):(eZ P w).is k u=true:=by
 cases k with
 |inl i=>obtain⟨t,e⟩:=(show∃t,u=Cv i t from r);subst e;exact aGt P w i t
 |inr x=>obtain⟨t,e⟩:=(show∃t,u=Kn x t from r);subst e;exact aF1 P w x t
theorem aCh{P:Program}{w:World}:∀{ks:List Key}{us:List Value},Vals (ks.map kV) us->ItemsAre (eZ P w) ks us
 | [],_,r=>by rw[Dg]at r;cases r;exact .nil
 |k::ks,_,r=>by
  rw[Au]at r;cases r with
  |cons h t=>exact .cons (aKn h) (aCh t)
abbrev KT(H:Hp):List (List Key×V)->List (List Key×Addr×Value)->Prop:=Paired λp q=>p.1=q.1/\H q.2.1=some (.tup (p.1.map kV))/\RelV p.2 q.2.2
def KT.val{H:Hp}(r:KT H kvs xs)(k:List Key):tE (mL kvs k) ((atKey xs k).map (·.2)):=by
 induction r with
 |nil=>exact Dx
 |@cons p q ps qs h t ih=>
  obtain⟨h1,_,h2⟩:=h;by_cases e:p.1=k
  ·have e':q.1=k:=h1.symm.trans e;have b:atKey (q::qs) k=some q.2:=by simp[atKey,Ew,e']
   rw[oR e,b];exact h2
  ·have e':¬q.1=k:=λz=>e (h1.trans z);have b:atKey (q::qs) k=atKey qs k:=by simp[atKey,Ew,e']
   rw[oA e,b];exact ih
def KT.repl{H:Hp}(r:KT H kvs xs)(k:List Key)(ry:RelV y u):
  KT H (kvs.map λkv=>if kv.1=k then(kv.1,y)else kv) (xs.map (putAt k u)):=by
 induction r with
 |nil=>exact .nil
 |@cons p q ps qs h t ih=>
  rw[Au,Au];refine .cons ?_ ih;obtain⟨h1,h2,h3⟩:=h;unfold putAt;by_cases e:p.1=k
  ·rw[if_pos e,if_pos (h1.symm.trans e)];exact⟨h1,h2,ry⟩
  ·rw[if_neg e,if_neg (λz=>e (h1.trans z))];exact⟨h1,h2,h3⟩
def KT.put{H:Hp}(r:KT H kvs xs)(k:List Key){b:Addr}(hb:H b=some (.tup (k.map kV)))(ry:RelV y u):
  KT H (putK kvs k y) (storedH xs k b u):=by
 have e:(kvs.any λkv=>decide (kv.1=k))=(atKey xs k).isSome:=by
  rw[aFf,(r.val k).isSome_eq,Option.isSome_map]
 unfold putK storedH;rw[e];by_cases q:(atKey xs k).isSome=true
 ·rw[if_pos q,if_pos q];exact r.repl k ry
 ·rw[if_neg q,if_neg q];exact Ua r ⟨rfl,hb,ry⟩
def KT.keeps{H H':Hp}(r:KT H kvs xs)(ht:∀b ys,H b=some (.tup ys)->H' b=some (.tup ys)):KT H' kvs xs:=
 Paired.mapP r λ_ _ z=>⟨z.1,ht _ _ z.2.1,z.2.2⟩
variable {P:Program}{w:World}{H:Hp}{h:Heap}{a:Addr}
def aVa{u:HO}(ok:HOk P w H h)(e:Rd H a u):cF P w H h a u:=e.ok ok
def aQd{kvs:List (Key×V)}(ok:HOk P w H h)(e:Rd H a (.dK kvs)):kvs.length<=sizeLine/\(a==sysModules)=false/\∃vs,KV kvs vs/\h.DictOf (eZ P w) a vs:=
 show cF P w H h a (.dK kvs)from aVa ok e
def aVj{kvs:List (Key×V)}(ok:HOk P w H h)(e:H a=some (.dK kvs)):kvs.length<=sizeLine/\(a==sysModules)=false/\∃vs,KV kvs vs/\h.DictOf (eZ P w) a vs:=aQd ok (.inl e)
def aIs{ks:List Key}(ok:HOk P w H h)(e:H a=some (.tup (ks.map kV))):(tupleKind (eZ P w)).is h ks a:=by
 obtain⟨_,its,r,o,h1,h2,n,h3⟩:=(show cF P w H h a (.tup (ks.map kV))from ok a _ e);exact⟨o,its.toArray,n,h1,h2,h3,by simpa using aCh r⟩
def aPh(ok:HOk P w H h)(e:Rd H a (.dT kvs)):kvs.length<=sizeLine/\(a==sysModules)=false/\
  ∃xs,KT H kvs xs/\h.DictOfH (tupleKind (eZ P w)) a xs:=by
 obtain⟨z,y,xs,r,o,es,ep,h1,h2,h3,h4,h5⟩:=(show cF P w H h a (.dT kvs)from aVa ok e);refine⟨z,y,xs,r,o,es,ep,h1,h2,h3,h4,λx hx=>?_,h5⟩;have all:∀{l:List (List Key×V)}{m:List (List Key×Addr×Value)},KT H l m->∀x∈m,(tupleKind (eZ P w)).is h x.1 x.2.1:=by
  intro l m q;induction q with
  |nil=>intro x hx;exact nomatch hx
  |@cons p q ps qs hq t ih=>
   intro x hx;rcases List.mem_cons.mp hx with e|hx
   ·subst e;exact aIs ok (by rw[<-hq.1];exact hq.2.1)
   ·exact ih x hx
 exact all r x hx
def bAe(ok:HOk P w H h)(e:H a=some (.dT kvs)):kvs.length<=sizeLine/\(a==sysModules)=false/\
  ∃xs,KT H kvs xs/\h.DictOfH (tupleKind (eZ P w)) a xs:=aPh ok (.inl e)
def aBa(H:Hp)(a:Addr)(y:V)(r:Option V):Prop:=
 (∃kvs k,Rd H a (.dK kvs)/\y=kV k/\r=mL kvs k)∨∃kvs k b,Rd H a (.dT kvs)/\y=.ref b/\H b=some (.tup (k.map kV))/\r=mL kvs k
def aLa(H:Hp)(a:Addr)(y v:V)(H':Hp):Prop:=
 (∃kvs k,H a=some (.dK kvs)/\y=kV k/\kvs.length<sizeLine/\H'=upd H a (.dK (putK kvs k v)))∨
 ∃kvs k b,H a=some (.dT kvs)/\y=.ref b/\H b=some (.tup (k.map kV))/\kvs.length<sizeLine/\H'=upd H a (.dT (putK kvs k v))
theorem aBa.k{H:Hp}{a:Addr}{kvs:List (Key×V)}{k:Key}(e:H a=some (.dK kvs)):aBa H a (kV k) (mL kvs k):=.inl ⟨kvs,k,.inl e,rfl,rfl⟩
theorem aLa.k{H:Hp}{a:Addr}{kvs:List (Key×V)}{k:Key}{v:V}(e:H a=some (.dK kvs))(hl:kvs.length<sizeLine):aLa H a (kV k) v (upd H a (.dK (putK kvs k v))):=.inl ⟨kvs,k,e,rfl,hl,rfl⟩
variable {X:Cx}{pins:List (Addr×Obj)}{σ:St}{s:Shared}{y v:V}{u r:Value}{o:Option V}{A:Around}{E:Value->Shared->Prop}
def Inv.big(I:Inv X pins σ H s):sysModules<s.heap.objs.size:=by
 have h:mainGlobals<s.heap.objs.size:=(I.mod.glob.keeps I.bk).lt;exact Lx ⋯ h
def aK1(hu:A.units+1<cLine)(I:Inv X pins σ H s)(g:aBa H a y (some v))(ry:RelV y u)(h:∀w' s',Inv X pins σ H s'->RelV v w'->Q w' s'):
  wpAny (model X.prog X.w) A (getItem (.ref a) u) Q E s:=by
 rcases g with ⟨kvs,k,e,ey,l⟩|⟨kvs,k,b,e,ey,eb,l⟩
 ·subst ey;obtain⟨z,hd,vs,rel,dd⟩:=aQd I.hok e;obtain⟨w',hw,rw'⟩:=tE.some_of (v:=v) (o:=valueAt vs k) (by rw[l];exact rel.val k);exact wpAny_getItem_of (aKn ry) dd.mapOf hw (h w' _ (I.tok _) rw')
 ·subst ey;cases (show u=An b from ry);obtain⟨z,hd,xs,rel,dd⟩:=aPh I.hok e;obtain⟨w',hw,rw'⟩:=tE.some_of (v:=v) (o:=(atKey xs k).map (·.2)) (by rw[l];exact rel.val k);obtain⟨p,hp,hp2⟩:=Option.map_eq_some_iff.mp hw;refine Tu (Tv hu) (aIs I.hok eb) dd hp ?_;rw[hp2];exact h w' _ (I.tok _) rw'
def sV{h':Heap}{t':Nat}{ob:HO}(I:Inv X pins σ H s)(mu:Mut (H a))(hs:Cg a s.heap h')(he:∃q,h'.get? a=some q)(new:cF X.prog X.w (upd H a ob) h' a ob):
  Inv X pins σ (upd H a ob) {s with heap:=h',toks:=t'}:=
 I.write (x:=a) (e:=a) mu (.inl rfl) (λb q hb z=>(hs.2 b hb).trans z) he new
def aOg{P:Program}{w:World}{H':Hp}{h':Heap}{kvs:List (Key×V)}{vs:List (Key×Value)}(z:kvs.length<=sizeLine)(hd:(a==sysModules)=false)(rel:KV kvs vs)(dd:h'.DictOf (eZ P w) a vs):
  cF P w H' h' a (.dK kvs):=⟨z,hd,vs,rel,dd⟩
def aKt{H':Hp}{Q:Unit->Shared->Prop}(hu:A.units+1<cLine)(I:Inv X pins σ H s)(g:aLa H a y v H')(ry:RelV y u)(rv:RelV v r)(h:∀s',Inv X pins σ H' s'->Q () s'):
  wpAny (model X.prog X.w) A (setItem (.ref a) u r) Q E s:=by
 rcases g with ⟨kvs,k,e,ey,l,eH⟩|⟨kvs,k,b,e,ey,eb,l,eH⟩
 ·subst ey eH;obtain⟨z,hd,vs,rel,dd⟩:=aVj I.hok e;have hz:vs.length<=sizeLine:=by rw[<-rel.length];exact z
  have hl:(putK kvs k v).length<=sizeLine:=by have:=rA kvs k v;lia
  refine wpAny_setItem_pairs (hsz:=hz) (aKn ry) dd λh' dd' hs=>h _ ?_;have he:∃q,h'.get? a=some q:=let⟨q,_,_,hq,_⟩:=dd';⟨q,hq⟩;exact sV I (by rw[e];exact Dx) hs he (aOg hl hd (rel.put k rv) dd')
 ·subst ey eH;cases (show u=An b from ry);obtain⟨z,hd,xs,rel,dd⟩:=bAe I.hok e;have hz:xs.length<=sizeLine:=by rw[<-Nr rel];exact z
  have hl:(putK kvs k v).length<=sizeLine:=by have:=rA kvs k v;lia
  refine Tt (hsz:=hz) (Tv hu) (aIs I.hok eb) dd λh' dd' hs=>h _ ?_;obtain⟨q,es,ep,hq,h2,h3,h4,_,h5⟩:=dd';refine sV I (by rw[e];exact Dx) hs ⟨q,hq⟩ ⟨hl,hd,_,(rel.put k eb rv).keeps λc ys ec=>?_,q,es,ep,hq,h2,h3,h4,h5⟩;rw[aP (bA0 ec e (λz=>nomatch z))];exact ec
variable {kvs:List (Key×V)}{k:Key}
def aLf(i:Expr):Prop:=∀ov iv,subscripted i false ov iv=operate [ov,iv] (getItem ov iv)
def aIz{prog:Program}{w:World}{A:Around}{E:Value->Shared->Prop}{s:Shared}{env:Env}{value slice:Expr}{pos:Pos}{T id:String}
  (hl:typeLookup (.type T) "__getitem__"=pure (some (.builtin id))) (hs:aLf slice)
  (h:wpAny (model prog w) A (eval value env) (λo s₁=>wpAny (model prog w) A (eval slice env) (λi s₂=>s₂.TypeIs o T/\wpAny (model prog w) A (getItem o i) Q E s₂) E s₁) E s):
  wpAny (model prog w) A (eval (.Subscript value slice pos) env) Q E s:=by
 refine Qh (Du h (λo s₁ h₁=>Du h₁ (λi s₂ h₂=>?_) λ_ _ x=>x) λ_ _ x=>x);obtain⟨hT,h₂⟩:=h₂;unfold subscriptTail;refine Aa ?_;rw[getitemInPython_of_ne hT.not_modules];refine Aa (Dh hT hl ?_);have fin:wpAny (model prog w) A (subscripted slice false o i) (λr s₃=>wpAny (model prog w) A (letTemporaryGo value o r>>=λ_=>pure r) Q E s₃) E s₂:=by
  rw[hs o i];exact wpAny_operating (Du h₂ (λr s₃ h₃=>Aa (wpAny_letTemporaryGo (Ad h₃))) λ_ _ x=>x)
 first
  |exact Ad (Aa fin)
  |exact Aa (Ad (Aa fin))
  |exact Aa fin
def aEx{X:Cx}{pins:List (Addr×Obj)}{σ:St}{H:Hp}{s:Shared}{a:Addr}{y:V}{o:Option V}(I:Inv X pins σ H s)(g:aBa H a y o):s.TypeIs (.ref a) "dict":=by
 rcases g with ⟨kvs,k,e,_,_⟩|⟨kvs,k,b,e,_,_,_⟩
 ·obtain⟨_,_,vs,_,dd⟩:=aQd I.hok e;exact dd.typeIs
 ·obtain⟨_,_,xs,_,dd⟩:=aPh I.hok e;exact dd.typeIs
def bAf(td ty:TE):TE:=λσ H Q=>td σ H λx H1=>ty σ H1 λy H2=>∃a v,x=.ref a/\aBa H2 a y (some v)/\Q v H2
def aZm(td ty tv:TE):TS:=λD σ H=>tv σ H λv H1=>td σ H1 λx H2=>ty σ H2 λy H3=>∃a H4,x=.ref a/\aLa H3 a y v H4/\D.nx σ H4
section
variable {X:Cx}{o i e value:Expr}{pos pos' tpos:Pos}{td ty tv:TE}
def aD0(hu:X.A.units+1<cLine)(ho:PE X o td)(hi:PE X i ty)(hs:aLf i):PE X (.Subscript o i pos) (bAf td ty):=by
 intro pins s σ H Q I h;refine aIz PySem.F.slot_dict_getitem.lookup hs (thn (ho pins s σ H _ I h) λu s1 ⟨x,H1,I1,rx,q1⟩=>thn (hi pins s1 σ H1 _ I1 q1) λiv s2 ⟨y,H2,I2,ry,a,v,ex,g,q2⟩=>?_);subst ex;obtain rfl:u=An a:=rx;exact⟨aEx I2 g,aK1 hu I2 g ry λw' s3 I3 rw'=>⟨v,H2,I3,rw',q2⟩⟩
def aJi(hu:X.A.units+1<cLine)(ho:PE X o td)(hi:PE X i ty)(hv:PE X value tv)(hs:swapsWith value (some (.Subscript o i pos')) pos.line X.env=pure false):
  PS X (.Assign [.Subscript o i pos'] value pos) (aZm td ty tv):=by
 intro pins s σ H D I h;refine Rc (thn (hv pins s σ H _ I h) λr s1 ⟨v,H1,I1,rv,q1⟩=>thn (ho pins s1 σ H1 _ I1 q1) λu s2 ⟨x,H2,I2,rx,q2⟩=>thn (hi pins s2 σ H2 _ I2 q2) λiv s3 ⟨y,H3,I3,ry,a,H4,ex,g,q3⟩=>?_) hs;subst ex;obtain rfl:u=An a:=rx;exact aKt hu I3 g ry rv λs4 I4=>⟨σ,H4,I4,q3⟩
end
def aP3{P:Program}{w:World}{H:Hp}(h:Heap)(hb:sysModules<h.objs.size):cF P w H (h.push {cls:=.type "dict",data:=.dict #[]}) h.objs.size (.dK []):=
 ⟨Ay _,beq_eq_false_iff_ne.mpr (Cy (Az hb)),[],.nil,Xl h⟩
variable {pos:Pos}
def aDe:List (TE×TE)->St->Hp->(List (V×V)->Hp->Prop)->Prop
 | [],_,H,Q=>Q [] H
 |(tk,tv)::r,σ,H,Q=>tk σ H λx H1=>tv σ H1 λy H2=>aDe r σ H2 λps H3=>Q ((x,y)::ps) H3
abbrev VV:List (V×V)->List (Value×Value)->Prop:=Paired λp q=>RelV p.1 q.1/\RelV p.2 q.2
def PPs(X:Cx)(pos:Pos)(keys:List (Option Expr))(values:List Expr)(trs:List (TE×TE)):Prop:=
 ∀(pins:List (Addr×Obj))(s:Shared)(σ:St)(H:Hp)(Q:List (V×V)->Hp->Prop),Inv X pins σ H s->aDe trs σ H Q->
  wpAny (model X.prog X.w) X.A (evalPairs (pairTrees keys values X.env pos)) (λvs s'=>∃ps H',Inv X pins σ H' s'/\VV ps vs/\Q ps H') X.xe s
def aSu{X:Cx}{pos:Pos}:PPs X pos [] [] []:=λpins s σ H Q I h=>pairTrees_nil_walk ⟨[],H,I,.nil,h⟩
def aQa{X:Cx}{pos:Pos}{k v:Expr}{ks:List (Option Expr)}{vs:List Expr}{tk tv:TE}(hk:PE X k tk)(hv:PE X v tv)(hr:PPs X pos ks vs trs):
  PPs X pos (some k::ks) (v::vs) ((tk,tv)::trs):=λpins s σ H Q I h=>
 pairTrees_cons_walk (thn (hk pins s σ H _ I h) λu s1 ⟨x,H1,I1,rx,q1⟩=>thn (hv pins s1 σ H1 _ I1 q1) λw2 s2 ⟨y,H2,I2,ry,q2⟩=>
  thn (hr pins s2 σ H2 _ I2 q2) λws s3 ⟨ps,H3,I3,rel,q3⟩=>⟨(x,y)::ps,H3,I3,.cons ⟨rx,ry⟩ rel,q3⟩)
def rM(kvs more:List (Key×V)):List (Key×V):=more.foldl (λacc kv=>putK acc kv.1 kv.2) kvs
def KV.merge:∀{more:List (Key×V)}{rs:List (Key×Value)}{kvs:List (Key×V)}{vs:List (Key×Value)},KV more rs->KV kvs vs->KV (rM kvs more) (merged vs rs):=by
 intro more rs kvs vs r;unfold KV at r;induction r generalizing kvs vs with
 |nil=>intro q;exact q
 |@cons p q ps qs h t ih=>
  intro r0;have e:KV (putK kvs p.1 p.2) (stored vs q.1 q.2):=by
   have:=r0.put p.1 h.2;rw[<-h.1];exact this
  exact ih e
theorem tR:∀(more kvs:List (Key×V)),(rM kvs more).length<=kvs.length+more.length
 | [],kvs=>by show kvs.length<=kvs.length+0;lia
 |p::r,kvs=>by
  have h1:=tR r (putK kvs p.1 p.2);have h2:=rA kvs p.1 p.2;show(rM (putK kvs p.1 p.2) r).length<=_;rw[Ah];lia
theorem aAx{P:Program}{w:World}:∀{kvs:List (Key×V)}{ws:List (Value×Value)},VV (kvs.map λkv=>(kV kv.1,kv.2)) ws->∃rs,Carries (eZ P w) ws rs/\KV kvs rs
 | [],_,r=>by rw[Dg]at r;cases r;exact⟨[],Dx,.nil⟩
 |p::kvs,_,r=>by
  rw[Au]at r;cases r with
  |@cons a b as bs h t=>
   obtain⟨rs,c,q⟩:=aAx (P:=P) (w:=w) t;obtain⟨b1,b2⟩:=b;exact⟨(p.1,b2)::rs,⟨aKn h.1,rfl,c⟩,.cons ⟨rfl,h.2⟩ q⟩
def aZq(trs:List (TE×TE)):TE:=λσ H Q=>∀p,H p=none->aDe trs σ (upd H p (.dK [])) λps H2=>H2 p=some (.dK [])/\∃kvs:List (Key×V),ps=kvs.map (λkv=>(kV kv.1,kv.2))/\kvs.length<=15/\Q (.ref p) (upd H2 p (.dK (rM [] kvs)))
def aTt{X:Cx}{pos:Pos}{keys:List (Option Expr)}{values:List Expr}(h:PPs X pos keys values trs)(hall:keys.all (·.isSome)=true)(hl:keys.length=values.length)(h0:keys≠[])
  (h15:keys.length<=15):PE X (.Dict keys values pos) (aZq trs):=by
 intro pins s σ H Q I q;have hn:=I.hok.fresh (Am s.heap.objs.size);have I1:=I.laid (a:=s.heap.objs.size) (o:=.dK []) (h':=s.heap.push {cls:=.type "dict",data:=.dict #[]}) (t':=s.toks) (λ_ _ q=>Ai _ q) (Am _) (aP3 s.heap I.big);refine wpAny_Dict_walk (knd:=eZ X.prog X.w) hall hl h0 h15 (thn (h pins _ σ _ _ I1 (q _ hn)) λws s2 ⟨ps,H2,I2,rel,e,kvs,ep,lk,q2⟩=>?_);subst ep;obtain⟨rs,c,rk⟩:=aAx (P:=X.prog) (w:=X.w) rel;obtain⟨z,hd,vs0,r0,dd⟩:=aVj I2.hok e;cases r0;refine⟨rs,c,dd,λh' dd' hs=>⟨.ref s.heap.objs.size,_,?_,rfl,q2⟩⟩;have hz:(rM [] kvs).length<=sizeLine:=by
  have h1:=tR kvs [];rw[Be]at h1;rw[Cp];lia
 have he:∃q,h'.get? s.heap.objs.size=some q:=let⟨q,_,_,hq,_⟩:=dd';⟨q,hq⟩;exact sV I2 (by rw[e];exact Dx) hs he (aOg hz hd (rk.merge .nil) dd')
variable {y d:V}
section
variable {X:Cx}{o e f:Expr}{apos cpos:Pos}{td ty tx:TE}
end
section
variable {κ:Type} [DecidableEq κ]
end
end L2
namespace PySem
variable {Q:Bool->Shared->Prop}{owner:Array (Option Nat)}{xs:Array Nat}{a:Addr}{M:Nat}{j:Nat}{h h':Heap}{α:Type}{hs:List Int}{mask:Nat}{e:Nat}{n:Nat}{N:Nat}
open AutoSeq1 (wpAny_loadPart')
open Sem (wp)
variable {prog:Program}{w:World}{A:Around}{E:Value->Shared->Prop}{s:Shared}
section
variable {prog:Program}{w:World}{K:Type} [DecidableEq K](knd:KeyKind prog w K)
def bJ(h:Heap)(x:K×List K)(a:Addr):Prop:=∃o v b n,h.get? a=some o/\o.cls=.type "tuple"/\o.data=.seq #[v,.ref b] n/\knd.is x.1 v=true/\IsTupleKey knd h x.2 b
def rB(x:K×List K):Int:=reduceHash (Cd [knd.hash x.1,tupleKeyHash knd x.2])
variable {knd}
def bJ.typeIs{s:Shared}{x:K×List K}(h:bJ knd s.heap x a):s.TypeIs (.ref a) "tuple":=let⟨o,_,_,_,ho,hc,_⟩:=h;⟨o,ho,hc⟩
def bJ.inj{h:Heap}{x y:K×List K}(hx:bJ knd h x a)(hy:bJ knd h y a):x=y:=by
 obtain⟨o,v,b,n,ho,_,hd,h1,h2⟩:=hx;obtain⟨o',v',b',n',ho',_,hd',h1',h2'⟩:=hy;obtain rfl:o=o':=Bk (ho.symm.trans ho');rw[hd]at hd';injection hd' with e _
 have e1:v=v'/\b=b':=by simpa using e
 obtain⟨rfl,rfl⟩:=e1;exact On (knd.inj _ _ _ h1 h1') (h2.inj h2')
def bJ.keeps{x:K×List K}{a d:Addr}{o:Obj}{es ep}(hx:bJ knd h x a)(ho:h.get? d=some o)(hd:o.data=.dict es ep)(hs:Cg d h h'):bJ knd h' x a:=by
 obtain⟨o',v,b,n,ho',hc,hd',h1,h2⟩:=hx;have hne:a≠d:=by
  rintro rfl;obtain rfl:o'=o:=Bk (ho'.symm.trans ho);rw[hd]at hd';exact nomatch hd'
 exact⟨o',v,b,n,(hs.2 a hne).trans ho',hc,hd',h1,h2.keeps ho hd hs⟩
variable {A:Around}{E:Value->Shared->Prop}{s:Shared}
def uT{x:K×List K}{Q:Int->Shared->Prop}(hu:A.units+1<cLine)(hk:bJ knd s.heap x a)(h:Q (rB knd x) {s with toks:=s.toks+(x.2.length+3)}):
  wpAny (model prog w) A (pyHash (.ref a)) Q E s:=by
 have hT:=hk.typeIs
 obtain⟨o,v,b,n,ho,_,hd,h1,h2⟩:=hk
 unfold pyHash
 first|unfold pyHashByItsType|skip
 first|refine Aa (wpAny_cRoomFor_or (.inr ∅) ?_)|skip
 refine Aa (Dh hT F.slot_tuple_hash.lookup ?_)
 show wpAny _ _ (if(some (Value.builtin "tuple.__hash__")==some Ce)=true then _ else _) Q E s
 rw[if_neg (by rw[beq_builtin_none];exact Al)]
 refine Aa (Dh hT F.slot_tuple_hash.lookup ?_)
 show wpAny _ _ (callSpecialIfBoundUnlessNone? (.ref a) "__hash__" _>>=_) Q E s
 refine Aa (wpAny_callSpecialIfBoundUnlessNone?_slot hT Tp (Ca Tp hT F.entry_tuple_hash ?_ (F.args_tuple_hash_1 _)))
 show wpAny _ _ (Ki (.ref a)>>=_) _ _ s
 refine Aa (Ha ho hd ?_)
 refine Aa ?_
 rw[<-Dv]
 refine Cr _
  (λrest(r:Array Int) s'=>(rest=[v,.ref b]/\r= #[]/\s'=s)∨(rest=[.ref b]/\r= #[knd.hash x.1]/\s'={s with toks:=s.toks+1})∨(rest=[]/\r= #[knd.hash x.1,tupleKeyHash knd x.2]/\s'={s with toks:=s.toks+1+(x.2.length+1)}))
  _ ?_ ?_ _ _ (.inl ⟨rfl,rfl,rfl⟩)
 ·rintro y rest r s' (⟨e,rfl,rfl⟩|⟨e,rfl,rfl⟩|⟨e,_,_⟩)
  ·obtain⟨rfl,rfl⟩:=Bs e
   refine Aa (knd.pyHash h1 ?_)
   exact Ad (.inr (.inl ⟨rfl,rfl,rfl⟩))
  ·obtain⟨rfl,rfl⟩:=Bs e
   refine Aa (wpAny_pyHash_tuple (show A.in1.units<cLine from hu) h2 ?_)
   exact Ad (.inr (.inr ⟨rfl,rfl,rfl⟩))
  ·cases e
 ·rintro r s' (⟨e,_,_⟩|⟨e,_,_⟩|⟨_,rfl,rfl⟩)
  ·cases e
  ·cases e
  ·show wpAny _ _ (retInt (Cd [knd.hash x.1,tupleKeyHash knd x.2])) _ _ _
   refine wpAny_ret_mkInt ?_
   show wpAny _ _ (if(decide (-(2:Int) ^ 63<=Cd [knd.hash x.1,tupleKeyHash knd x.2]) && decide (Cd [knd.hash x.1,tupleKeyHash knd x.2]<2 ^ 63))=true then _ else _) Q E _
   have et:s.toks+1+(x.2.length+1)+1=s.toks+(x.2.length+3):=by lia
   unfold rB reduceHash at h
   by_cases hr:(decide (-(2:Int) ^ 63<=Cd [knd.hash x.1,tupleKeyHash knd x.2]) && decide (Cd [knd.hash x.1,tupleKeyHash knd x.2]<2 ^ 63))=true
   ·rw[if_pos hr]
    rw[if_pos hr, <-et]at h
    exact Ad h
   ·rw[if_neg hr]
    rw[if_neg hr, <-et]at h
    exact Aa (Jl (Ad h))
def aEt{x y:K×List K}{a b:Addr}{P:Fin->Shared->Prop}(hu:A.units<cLine)(hx:bJ knd s.heap x a)(hy:bJ knd s.heap y b)(h:P (.done (.ret (.bool (decide (x=y))))) s):
  wpAny (model prog w) A (Builtin.«tuple.__eq__» ⟨[.ref a,.ref b],[]⟩) P E s:=by
 have hTb:=hy.typeIs;obtain⟨oa,va,ba,na,hoa,_,hda,h1,h2⟩:=hx;obtain⟨ob,vb,bb,nb,hob,_,hdb,h1',h2'⟩:=hy;show wpAny _ _ (isInstance (.ref b) (.type "tuple")>>=_) _ _ s;refine Aa (Dm hTb Hu ?_)
 ac_rfl
 refine Aa (Ha hoa hda ?_);refine Aa (Ha hob hdb ?_);refine Aa ?_;refine Cr _
  (λrest r s'=>r.1=none/\s'=s/\((rest=[(va,vb),(.ref ba,.ref bb)])∨(rest=[(.ref ba,.ref bb)]/\x.1=y.1)∨(rest=[]/\x=y)))
  _ ?_ ?_ _ _ ⟨rfl,rfl,.inl rfl⟩
 ·rintro⟨u,v⟩ rest r s' ⟨hr,rfl,(e|⟨e,e1⟩|⟨e,_⟩)⟩
  ·obtain⟨e2,rfl⟩:=Bs e;cases e2;refine Aa (knd.eqBool (a:=x.1) (b:=y.1) h1 h1' ?_);by_cases hk:x.1=y.1
   ·rw[decide_eq_true hk]
    ac_rfl
    exact Ad ⟨by first|rfl|trivial,by first|rfl|trivial,by first|exact .inr (.inl ⟨rfl,hk⟩)|simp[hk]⟩
   ·rw[decide_eq_false hk];simp only[Hj,if_true];have hf:decide (x=y)=false:=decide_eq_false λz=>hk (by rw[z]);rw[hf]at h;exact Aa (Ad (Ad (Ad h)))
  ·obtain⟨e2,rfl⟩:=Bs e;cases e2;refine Aa (wpAny_eqBool_tuple hu h2 h2' ?_);by_cases hk:x.2=y.2
   ·rw[decide_eq_true hk]
    ac_rfl
    exact Ad ⟨by first|rfl|trivial,by first|rfl|trivial,by first|exact .inr (.inr ⟨rfl,On e1 hk⟩)|simp[e1,hk,Prod.ext_iff]⟩
   ·rw[decide_eq_false hk];simp only[Hj,if_true];have hf:decide (x=y)=false:=decide_eq_false λz=>hk (by rw[z]);rw[hf]at h;exact Aa (Ad (Ad (Ad h)))
  ·cases e
 ·rintro⟨r1,r2⟩ s' ⟨hr,rfl,(e|⟨e,_⟩|⟨_,e⟩)⟩
  ·cases e
  ·cases e
  ·simp only at hr;subst hr;refine Ad ?_;rw[decide_eq_true e]at h;exact h
def vG{x y:K×List K}{a b:Addr}(hu:A.units+1<cLine)(hx:bJ knd s.heap x a)(hy:bJ knd s.heap y b)(h:Q (decide (x=y)) s):
  wpAny (model prog w) A (eqBool (.ref a) (.ref b)) Q E s:=by
 unfold eqBool
 try with_reducible refine Bp ?_
 show wpAny _ _ (if(An a==An b)=true then _ else _) Q E s;by_cases hab:(An a==An b)=true
 ·rw[if_pos hab];have e:a=b:=by have:=eq_of_beq hab;injection this
  subst e;obtain rfl:=hx.inj hy;exact Aa (Jl (Ad (by simpa using h)))
 ·rw[if_neg hab];exact Aa (Im (op:=.Eq) hx.typeIs hy.typeIs Vg
   (Ca Vg hx.typeIs F.entry_tuple_eq (aEt (by show A.units+1<cLine;exact hu) hx hy ⟨_,rfl,(λe=>nomatch e),Ck h⟩) (F.args_tuple_eq_2 _ _)) ∅)
def oZ{ks:List K}(hk:IsTupleKey knd s.heap ks a)(h:Q true s):wpAny (model prog w) A (eqIsQuiet (n+1) (.ref a)) Q E s:=by
 have hT:=hk.typeIs;obtain⟨o,items,m,ho,_,hd,hi⟩:=hk;unfold eqIsQuiet;refine Aa (Dh hT F.slot_tuple_eq.lookup ?_);show wpAny _ _ (isInstance (.ref a) (.type "tuple")>>=_) _ _ s;refine Aa (Dm hT Hu ?_)
 ac_rfl
 refine Aa (Fm ho hd ?_);refine Aa ?_;show wpAny _ _ (forIn items _ _) _ _ s;rw[<-Dv];refine Cr _ (λrest r s'=>r.1=none/\s'=s/\∀v∈rest,carriedByValue v=true) _ ?_ ?_ _ _ ⟨rfl,rfl,hi.byValue⟩
 ·rintro v rest r s' ⟨hr,rfl,hall⟩;rw[Uq _ (hall v Af)];refine Aa (Ad ?_)
  ac_rfl
  exact Ad ⟨rfl,rfl,λu hu'=>hall u (Ae _ hu')⟩
 ·rintro⟨r1,r2⟩ s' ⟨hr,rfl,_⟩;simp only at hr;subst hr;exact Ad h
def qN{x:K×List K}(hk:bJ knd s.heap x a)(h:Q true s):wpAny (model prog w) A (eqIsQuiet 8 (.ref a)) Q E s:=by
 have hT:=hk.typeIs;obtain⟨o,v,b,m,ho,_,hd,h1,h2⟩:=hk;unfold eqIsQuiet;refine Aa (Dh hT F.slot_tuple_eq.lookup ?_);show wpAny _ _ (isInstance (.ref a) (.type "tuple")>>=_) _ _ s;refine Aa (Dm hT Hu ?_)
 ac_rfl
 refine Aa (Fm ho hd ?_);refine Aa ?_;show wpAny _ _ (forIn _ _ _) _ _ s;rw[<-Dv];refine Cr _ (λrest r s'=>r.1=none/\s'=s/\∀u∈rest,u=v∨u=.ref b) _ ?_ ?_ _ _ ⟨rfl,rfl,λu hu=>by simpa using hu⟩
 ·rintro u rest r s' ⟨hr,rfl,hall⟩;rcases hall u Af with rfl|rfl
  ·rw[Uq _ (knd.byValue _ _ h1)];refine Aa (Ad ?_)
   ac_rfl
   exact Ad ⟨rfl,rfl,λu hu'=>hall u (Ae _ hu')⟩
  ·refine Aa (oZ h2 ?_)
   ac_rfl
   exact Ad ⟨rfl,rfl,λu hu'=>hall u (Ae _ hu')⟩
 ·rintro⟨r1,r2⟩ s' ⟨hr,rfl,_⟩;simp only at hr;subst hr;exact Ad h
end
def cT{prog:Program}{w:World}{K:Type} [DecidableEq K](knd:KeyKind prog w K):HeapKind prog w (K×List K) where
 is:=bJ knd
 hash:=rB knd
 draws:=λx=>x.2.length+3
 room:=λA=>A.units+1<cLine
 inj:=λhx hy=>hx.inj hy
 keeps:=λx ho hd hs=>x.keeps ho hd hs
 pyHash:=λhu hk h=>uT hu hk h
 eqBool:=λhu hx hy h=>vG hu hx hy h
 quiet:=λhk h=>qN hk h
namespace SetTable
def gW(mask:Nat):Nat->Nat×Nat->Nat×Nat
 |0,p=>p
 |m+1,p=>gW mask m (leap mask p.1 p.2)
theorem tQ(mask:Nat):∀m p,(gW mask m p).2=p.2 / 32 ^ m
 |0,p=>by rw[gW,Nat.pow_zero,Nat.div_one]
 |m+1,p=>by
  rw[gW,tQ mask m];show p.2 / 32 / 32 ^ m=_;rw[Nat.div_div_eq_div_mul,Wp,Nat.mul_comm]
theorem aCq(mask:Nat):∀m k p,gW mask (m+k) p=gW mask k (gW mask m p)
 |0,k,p=>by rw[Ii,gW]
 |m+1,k,p=>by rw[Wn,gW,aCq mask m k,gW]
def five(mask i:Nat):Nat:=(i*5+1) % (mask+1)
def qT(mask:Nat):Nat->Nat->Nat
 |0,i=>i
 |m+1,i=>qT mask m (five mask i)
theorem aAp(mask:Nat):∀m i,(gW mask m (i,0))=(qT mask m i,0)
 |0,i=>rfl
 |m+1,i=>by
  rw[gW,qT];show gW mask m ((i*5+1+0 / 32) % (mask+1),0 / 32)=_;rw[Nat.zero_div,Nat.add_zero];exact aAp mask m (five mask i)
theorem aE3(mask:Nat):∀m p,(gW mask (m+1) p).1<=mask
 |0,p=>by
  show(p.1*5+1+p.2 / 32) % (mask+1)<=mask;have:=Lm (p.1*5+1+p.2 / 32) (show 0<mask+1 by lia)
  lia
 |m+1,p=>by rw[gW];exact aE3 mask m _
def Round(mask:Nat):Prop:=∀i,i<=mask->∀e,e<=mask->∃k,k<=mask/\qT mask (k+1) i=e
def aFv(h:∀i:_root_.Fin (mask+1),∀e:_root_.Fin (mask+1),∃k:_root_.Fin (mask+1),qT mask (k.1+1) i.1=e.1):Round mask:=λi hi e he=>by
 obtain⟨k,hk⟩:=h ⟨i,∅⟩ ⟨e,∅⟩;exact⟨k.1,∅,hk⟩
def aVs:Round 7:=aFv (by decide+kernel)
def aTr:Round 31:=aFv (by decide+kernel)
def aAf(R:Round mask)(he:e<=mask)(i perturb:Nat)(hp:perturb<2 ^ 64):∃L,1<=L/\L<=mask+14/\(gW mask L (i,perturb)).1=e:=by
 have h13:(gW mask 13 (i,perturb)).2=0:=by
  rw[tQ];exact Nat.div_eq_of_lt (Bg hp ⋯)
 have hi:=aE3 mask 12 (i,perturb);obtain⟨k,hk,e1⟩:=R _ hi e he;refine⟨13+(k+1),∅,∅,?_⟩;rw[aCq];have e2:gW mask 13 (i,perturb)=((gW mask 13 (i,perturb)).1,0):=On rfl h13;rw[e2,aAp];exact e1
variable {t:SetTable}{hashAt:Nat->Int}{h:Int}
def aM7(mask i:Nat):runEnd mask i-i<=9:=by unfold runEnd;split<;>lia
def aSs(hd:∀j,t.slot j≠.dummy)(he:t.slot e=.empty):∀(fuel:Nat)(p:Probe)(L:Nat),1<=L->(gW t.mask L (p.i,p.perturb)).1=e->p.more+2+10*(L-1)<=fuel->∃m,Ic t hashAt h fuel p=some m:=by
 intro fuel;induction fuel with
 |zero=>intro p L h1 _ h3;lia
 |succ fuel ih=>
  intro p L h1 h2 h3;have step:∃m,Ic t hashAt h fuel (t.advance p)=some m:=by
   unfold advance;by_cases hm:p.more>0
   ·rw[if_pos hm];exact ih _ L h1 h2 (by show p.more-1+2+10*(L-1)<=fuel;lia)
   ·rw[if_neg hm];match L,h1 with
    |1,_=>
     have h4:(leap t.mask p.i p.perturb).1=e:=h2;cases fuel with
     |zero=>lia
     |succ f=>
      show∃m,(match t.slot (leap t.mask p.i p.perturb).1 with|.empty=>_|.dummy=>_|.live i=>_)=some m;rw[h4,he];exact⟨_,rfl⟩
    |L+2,_=>
     have hr:=aM7 t.mask (leap t.mask p.i p.perturb).1;exact ih _ (L+1) ∅ h2 (by show runEnd t.mask (leap t.mask p.i p.perturb).1-(leap t.mask p.i p.perturb).1+2+10*(L+1-1)<=fuel;lia)
  show∃m,(match t.slot p.j with|.empty=>some (.empty p.j p.dummy)|.dummy=>Ic t hashAt h fuel (t.advance {p with dummy:=some p.j})|.live i=>if(hashAt i==h)=true then some (.candidate p.j i (t.advance p))else Ic t hashAt h fuel (t.advance p))=some m;cases hs:t.slot p.j with
  |empty=>exact⟨_,rfl⟩
  |dummy=>exact absurd hs (hd _)
  |live i=>
   by_cases hh:(hashAt i==h)=true
   ·exact⟨_,if_pos hh⟩
   ·obtain⟨m,hm⟩:=step;exact⟨m,by simp only;rw[if_neg hh];exact hm⟩
def aH2(R:Round t.mask)(he:e<=t.mask)(hd:∀j,t.slot j≠.dummy)(hs:t.slot e=.empty)(p:Probe)(hp:p.perturb<2 ^ 64)(hm:p.more<=9):∃m,t.probe hashAt h p=some m:=by
 obtain⟨L,h1,h2,h3⟩:=aAf R he p.i p.perturb hp;refine aSs hd hs _ p L h1 h3 ?_;unfold turns
 lia
def uF(xs:Array Nat):Prop:=∀i k,i<k->k<xs.size->xs.getD i 0<xs.getD k 0
def aAg{i a b:Nat}(h:i<xs.size):xs.getD i a=xs.getD i b:=by simp[Eu,h]
def aPd(R:uF xs):∀(fuel lo hi:Nat),lo<=hi->hi<=xs.size->hi-lo<=fuel->(∀i,i<lo->xs.getD i 0<j)->(∀i,hi<=i->i<xs.size->j<=xs.getD i 0)->
  Lv xs j fuel lo hi<=xs.size/\(∀i,i<Lv xs j fuel lo hi->xs.getD i 0<j)/\∀i,Lv xs j fuel lo hi<=i->i<xs.size->j<=xs.getD i 0:=by
 intro fuel;induction fuel with
 |zero=>
  intro lo hi h1 h2 h3 a b;have:lo=hi:=by lia
  subst this;exact⟨h2,a,b⟩
 |succ fuel ih=>
  intro lo hi h1 h2 h3 a b;have key:Lv xs j (fuel+1) lo hi=if lo<hi then(if xs.getD ((lo+hi) / 2) j<j then Lv xs j fuel ((lo+hi) / 2+1) hi else Lv xs j fuel lo ((lo+hi) / 2))else lo:=rfl
  rw[key];by_cases hl:lo<hi
  ·have hm:(lo+hi) / 2<xs.size:=by lia
   rw[if_pos hl];by_cases hx:xs.getD ((lo+hi) / 2) j<j
   ·rw[if_pos hx];refine ih _ _ ∅ h2 ∅ (λi hi'=>?_) b;by_cases e:i=(lo+hi) / 2
    ·subst e;rw[aAg hm (b:=j)];exact hx
    ·have:=R i ((lo+hi) / 2) ∅ hm;rw[aAg hm (b:=j)]at this
     lia
   ·rw[if_neg hx];refine ih _ _ ∅ ∅ ∅ a λi hi' hs=>?_;rw[aAg hm (b:=0)]at hx;by_cases e:i=(lo+hi) / 2
    ·subst e;lia
    ·have:=R ((lo+hi) / 2) i ∅ hs
     lia
  ·have:lo=hi:=by lia
   subst this;rw[if_neg hl];exact⟨h2,a,b⟩
def iC(R:uF xs)(j:Nat):below xs j<=xs.size/\(∀i,i<below xs j->xs.getD i 0<j)/\∀i,below xs j<=i->i<xs.size->j<=xs.getD i 0:=
 aPd R _ _ _ (Ay _) (Am _) ∅ (λi h=>absurd h (Df i)) λi h1 h2=>by lia
def below_at(R:uF xs){i:Nat}(h:i<xs.size):below xs (xs.getD i 0)=i:=by
 obtain⟨_,h2,h3⟩:=iC R (xs.getD i 0);rcases Lo (below xs (xs.getD i 0)) i with z|z|z
 ·have:=h3 (below xs (xs.getD i 0)) (Am _) ∅;have:=R _ i z h
  lia
 ·exact z
 ·have:=h2 i z
  lia
def aOh{i j:Nat}:xs[i]? =some j↔i<xs.size/\xs.getD i 0=j:=by
 by_cases h:i<xs.size
 ·simp[Eu,h]
 ·simp[h]
def aCb(R:uF t.place){i j:Nat}(h:t.place[i]? =some j):t.slot j=.live i:=by
 obtain⟨h1,rfl⟩:=aOh.mp h;unfold slot;dsimp only;rw[below_at R h1,h];simp
def aHo(hd:t.dummies= #[])(h:∀i:Nat,t.place[i]? ≠some j):t.slot j=.empty:=by
 unfold slot;dsimp only;have h1:(t.place[below t.place j]? ==some j)=false:=beq_eq_false_iff_ne.mpr (h _);rw[h1];have h2:has t.dummies j=false:=by rw[hd];unfold has;simp
 rw[h2];rfl
def tZ(hd:t.dummies= #[])(j:Nat):t.slot j=.empty∨∃i:Nat,t.slot j=.live i/\t.place[i]? =some j:=by
 have:has #[] j=false:=by simp[has]
 grind [slot]
def pB(hd:t.dummies= #[])(j:Nat):t.slot j≠.dummy:=by
 rcases tZ hd j with e|⟨i,e,_⟩<;>rw[e]<;>intro z<;>cases z
def aG5(hd:t.dummies= #[])(hs:t.place.size<=t.mask):∃e,e<=t.mask/\t.slot e=.empty:=by
 refine Hw λno=>?_;have all:∀e,e<=t.mask->∃i:Nat,t.place[i]? =some e:=λe he=>by
  rcases tZ hd e with z|⟨i,_,z⟩
  ·exact absurd ⟨e,he,z⟩ no
  ·exact⟨i,z⟩
 have sub:Br (t.mask+1) ⊆ t.place.toList:=λe he=>by
  obtain⟨i,hi⟩:=all e (by have:=List.mem_range.mp he;lia);obtain⟨h1,h2⟩:=Array.getElem?_eq_some_iff.mp hi;rw[<-h2];simp
 have:=(Jd (n:=t.mask+1)).length_le_of_subset sub;rw[Da,Ao]at this
 lia
def aGo(R:Round t.mask)(hd:t.dummies= #[])(hs:t.place.size<=t.mask)(p:Probe)(hp:p.perturb<2 ^ 64)(hm:p.more<=9):∃m,t.probe hashAt h p=some m:=by
 obtain⟨e,he,h1⟩:=aG5 hd hs;exact aH2 R he (pB hd) h1 p hp hm
def adv(mask:Nat)(p:Probe):Probe:=if p.more>0 then{p with j:=p.j+1,more:=p.more-1}else{p with j:=(leap mask p.i p.perturb).1,more:=runEnd mask (leap mask p.i p.perturb).1-(leap mask p.i p.perturb).1,i:=(leap mask p.i p.perturb).1,perturb:=(leap mask p.i p.perturb).2}
def advs(mask:Nat):Nat->Probe->Probe
 |0,p=>p
 |n+1,p=>advs mask n (adv mask p)
theorem qL(mask:Nat):∀m k p,advs mask (m+k) p=advs mask k (advs mask m p)
 |0,k,p=>by rw[Ii,advs]
 |m+1,k,p=>by rw[Wn,advs,qL mask m k,advs]
def aB5(mask:Nat)(p:Probe):(adv mask p).dummy=p.dummy:=by unfold adv;split<;>rfl
def aUg(fuel:Nat)(p:Probe):Ic t hashAt h (fuel+1) p=match t.slot p.j with|.empty=>some (.empty p.j p.dummy)|.dummy=>Ic t hashAt h fuel (t.advance {p with dummy:=some p.j})|.live i=>if(hashAt i==h)=true then some (.candidate p.j i (t.advance p))else Ic t hashAt h fuel (t.advance p):=rfl
def aSg(hd:∀j,t.slot j≠.dummy):∀(fuel:Nat)(p:Probe)(N:Nat),t.slot (advs t.mask N p).j=.empty->N<fuel->p.dummy=none->
    ∃n,n<=N/\(∀m,m<n->∃i,t.slot (advs t.mask m p).j=.live i/\hashAt i≠h)/\
      ((t.slot (advs t.mask n p).j=.empty/\Ic t hashAt h fuel p=some (.empty (advs t.mask n p).j none))∨
       ∃i,t.slot (advs t.mask n p).j=.live i/\hashAt i=h/\Ic t hashAt h fuel p=some (.candidate (advs t.mask n p).j i (advs t.mask (n+1) p))):=by
  intro fuel;induction fuel with
  |zero=>intro p N _ h2;lia
  |succ fuel ih=>
    intro p N h1 h2 h3;rw[aUg];cases hs:t.slot p.j with
    |empty=>exact⟨0,Ay _,λm hm=>absurd hm (Df m),.inl ⟨hs,by rw[h3];rfl⟩⟩
    |dummy=>exact absurd hs (hd _)
    |live i=>
      by_cases hh:hashAt i=h
      · exact⟨0,Ay _,λm hm=>absurd hm (Df m),.inr ⟨i,hs,hh,by dsimp only;rw[if_pos (beq_iff_eq.mpr hh)];rfl⟩⟩
      · cases N with
        |zero=>
          have h1':t.slot p.j=.empty:=h1;rw[hs]at h1';cases h1'
        |succ N=>
          obtain⟨n,a1,a2,a3⟩:=ih (adv t.mask p) N h1 ∅ (by rw[aB5];exact h3);have hb:¬(hashAt i==h)=true:=λz=>hh (beq_iff_eq.mp z);refine⟨n+1,∅,λm hm=>?_,?_⟩
          · cases m with
            |zero=>exact⟨i,hs,hh⟩
            |succ m=>exact a2 m ∅
          · rcases a3 with ⟨b1,b2⟩|⟨i',b1,b2,b3⟩
            · exact .inl ⟨b1,by dsimp only;rw[if_neg hb];exact b2⟩
            · exact .inr ⟨i',b1,b2,by dsimp only;rw[if_neg hb];exact b3⟩
def aO1(hn:∀i,hashAt i≠h)(hd:∀j,t.slot j≠.dummy):∀(fuel:Nat)(p:Probe)(m:Met),Ic t hashAt h fuel p=some m->∃N,N<fuel/\t.slot (advs t.mask N p).j=.empty:=by
 intro fuel;induction fuel with
 |zero=>intro p m e;cases e
 |succ fuel ih=>
  intro p m e;rw[aUg]at e;cases hs:t.slot p.j with
  |empty=>exact⟨0,Pz _,hs⟩
  |dummy=>exact absurd hs (hd _)
  |live i=>
   rw[hs]at e;dsimp only at e;rw[if_neg (λz=>hn i (beq_iff_eq.mp z))]at e;obtain⟨N,h1,h2⟩:=ih _ _ e;exact⟨N+1,∅,h2⟩
def aIr(R:Round t.mask)(hd:t.dummies= #[])(hs:t.place.size<=t.mask)(p:Probe)(hp:p.perturb<2 ^ 64)(hm:p.more<=9):∃N,N<10*turns t.mask/\t.slot (advs t.mask N p).j=.empty:=by
 obtain⟨m,e⟩:=aGo (hashAt:=λ_=>1) (h:=0) R hd hs p hp hm;exact aO1 (hashAt:=λ_=>1) (h:=0) (λ_=>by decide) (pB hd) _ p m e
def aFu(t:SetTable)(h:Int):(t.probeStart h).perturb<2 ^ 64/\(t.probeStart h).more<=9:=by
 refine⟨?_,aM7 _ _⟩;show bits h<2 ^ 64;unfold bits;have h1:=Fx h (show((2:Int) ^ 64)≠0 by decide);have h2:=Eo h (show(0:Int)<2 ^ 64 by decide)
 lia
def qP(t:SetTable)(h:Int)(j:Nat):Prop:=∃n,(advs t.mask n (t.probeStart h)).j=j/\∀m,m<n->t.slot (advs t.mask m (t.probeStart h)).j≠.empty
def qP.ahead{j N:Nat}(w:qP t h j)(hj:t.slot j≠.empty)(hN:t.slot (advs t.mask N (t.probeStart h)).j=.empty):∃n,n<N/\(advs t.mask n (t.probeStart h)).j=j:=by
 obtain⟨n,e,a⟩:=w;rcases Lo n N with z|z|z
 ·exact⟨n,z,e⟩
 ·subst z;rw[e]at hN;exact absurd hN hj
 ·exact absurd hN (a N z)
def fC(xs:Array α)(p:Nat)(x:α):(insertAt xs p x).toList=xs.toList.take p++x::xs.toList.drop p:=by
 unfold insertAt;simp[Array.toList_extract];exact Gw (by simp)
def vZ:uF xs↔xs.toList.Pairwise (·<·):=by
 rw[Nt];constructor
 ·intro R i k hi hk hik;have h2:k<xs.size:=by simpa using hk
  have:=R i k hik h2;have h1:i<xs.size:=by lia
  simpa[Eu,h1,h2]using this
 ·intro R i k hik hk;have h1:i<xs.size:=by lia
  have:=R i k (by simpa using h1) (by simpa using hk) hik;simpa[Eu,h1,hk]using this
def aLj:(∃i:Nat,t.place[i]? =some j)↔j∈t.place.toList:=by
 rw[List.mem_iff_getElem?];simp
def fV(R:uF t.place)(hd:t.dummies= #[]):t.slot j=.empty↔j∉t.place.toList:=by
 rw[<-aLj];constructor
 ·rintro e ⟨i,hi⟩;rw[aCb R hi]at e;cases e
 ·intro no;exact aHo hd λi z=>no ⟨i,z⟩
def aGr(R:uF t.place)(hj:j∉t.place.toList):uF (insertAt t.place (below t.place j) j):=by
 obtain⟨hb,h1,h2⟩:=iC R j;rw[vZ,fC];have Rl:=vZ.mp R;have lo:∀x∈t.place.toList.take (below t.place j),x<j:=λx hx=>by
  obtain⟨i,hi,e⟩:=Ia hx;rw[Bu]at hi;rw[List.getElem_take]at e;have hs:i<t.place.size:=by simp at hi;lia
  have:=h1 i ∅;rw[<-e];simpa[Eu,hs]using this
 have hi':∀x∈t.place.toList.drop (below t.place j),j<x:=λx hx=>by
  have hm:x∈t.place.toList:=Kb hx;obtain⟨i,hi,e⟩:=Ia hx;rw[Ej]at hi;rw[List.getElem_drop]at e;have hs:below t.place j+i<t.place.size:=by simp at hi;lia
  have:=h2 (below t.place j+i) ∅ hs;have h3:j<=x:=by rw[<-e];simpa[Eu,hs]using this
  have h4:j≠x:=λz=>hj (z▸hm)
  lia
 rw[List.pairwise_append];refine⟨Rl.sublist (Rj _ _),List.pairwise_cons.mpr ⟨hi',Rl.sublist (List.drop_sublist _ _)⟩,λx hx y hy=>?_⟩;have:=lo x hx;rcases List.mem_cons.mp hy with e|m
 ·lia
 ·have:=hi' y m;lia
def jN(hd:t.dummies= #[])(j:Nat):t.put j=({t with place:=insertAt t.place (below t.place j) j},below t.place j):=by
 unfold put;have h2:has t.dummies j=false:=by rw[hd];unfold has;simp
 rw[h2];rfl
def aAj{p j x:Nat}:x∈(insertAt xs p j).toList↔x=j∨x∈xs.toList:=by rw[fC];have:=Hl p xs.toList;grind
def mW(xs:Array α){p:Nat}(x:α)(h:p<=xs.size):(insertAt xs p x).size=xs.size+1:=by
 rw[<-Ao,fC,Ag,Ah,Bu,Ej,Ao]
 lia
structure Good(t:SetTable):Prop where
 dum:t.dummies= #[]
 rise:uF t.place
 low:∀j∈t.place.toList,j<=t.mask
 room:t.place.size<=t.mask
 round:Round t.mask
def Good.put(G:Good t)(hj:t.slot j=.empty)(hl:j<=t.mask)(hr:t.place.size+1<=t.mask):Good (t.put j).1:=by
 rw[jN G.dum];have nj:=(fV G.rise G.dum).mp hj;refine⟨G.dum,aGr G.rise nj,λx hx=>?_,?_,G.round⟩
 ·rcases aAj.mp hx with e|m
  ·rw[e];exact hl
  ·exact G.low x m
 ·show(insertAt t.place (below t.place j) j).size<=t.mask;rw[mW _ _ (iC G.rise j).1];exact hr
def Good.put_empty(G:Good t)(hj:t.slot j=.empty)(x:Nat):(t.put j).1.slot x=.empty↔t.slot x=.empty/\x≠j:=by
 have nj:=(fV G.rise G.dum).mp hj;rw[jN G.dum];rw[fV (t:={t with place:=insertAt t.place (below t.place j) j}) (aGr G.rise nj) G.dum,fV G.rise G.dum];show x∉(insertAt t.place (below t.place j) j).toList↔_;rw[aAj,not_or];exact⟨λz=>⟨z.2,z.1⟩,λz=>⟨z.2,z.1⟩⟩
def qP.put(G:Good t){j x:Nat}(hj:t.slot j=.empty)(w:qP t h x):qP (t.put j).1 h x:=by
 obtain⟨n,e,a⟩:=w;have em:(t.put j).1.mask=t.mask:=by rw[jN G.dum]
 have es:(t.put j).1.probeStart h=t.probeStart h:=by rw[jN G.dum];rfl
 refine⟨n,by rw[em,es];exact e,λm hm z=>?_⟩;rw[em,es]at z;exact a m hm ((G.put_empty hj _).mp z).1
def qP.new(G:Good t)(hj:t.slot (advs t.mask N (t.probeStart h)).j=.empty)(a:∀m,m<N->t.slot (advs t.mask m (t.probeStart h)).j≠.empty):qP (t.put (advs t.mask N (t.probeStart h)).j).1 h (advs t.mask N (t.probeStart h)).j:=by
 have em:(t.put (advs t.mask N (t.probeStart h)).j).1.mask=t.mask:=by rw[jN G.dum]
 have es:(t.put (advs t.mask N (t.probeStart h)).j).1.probeStart h=t.probeStart h:=by rw[jN G.dum];rfl
 refine⟨N,by rw[em,es],λm hm z=>?_⟩;rw[em,es]at z;exact a m hm ((G.put_empty hj _).mp z).1
end SetTable
section
variable {prog:Program}{w:World}{K:Type} [DecidableEq K](knd:HeapKind prog w K)
structure jJ(s:Shared)(a:Addr)(o:Obj)(es:Array (Int×Value))(ep:Nat)(t:SetTable)(xs:List (K×Addr)):Prop where
 ho:s.heap.get? a=some o
 hex:o.ExactSet
 hd:o.data=.set es ep t
 he:es.toList=xs.map λx=>(knd.hash x.1,An x.2)
 good:t.Good
 size:t.place.size=es.size
 keys:∀x∈xs,knd.is s.heap x.1 x.2
 nd:(xs.map (·.1)).Nodup
 way:∀(i j:Nat)(x:K×Addr),t.place[i]? =some j->xs[i]? =some x->SetTable.qP t (knd.hash x.1) j
variable {knd}{A:Around}{E:Value->Shared->Prop}{s:Shared}{a b:Addr}{o:Obj}{es:Array (Int×Value)}{ep:Nat}{t:SetTable}{xs:List (K×Addr)}{k:K}
structure tK(knd:HeapKind prog w K):Prop where
 mono:∀{h h':Heap}{k:K}{c:Addr},knd.is h k c->(∀b o,o.cls=.type "tuple"->h.get? b=some o->h'.get? b=some o)->knd.is h' k c
 byValue:∀{A:Around}{E:Value->Shared->Prop}{s:Shared}{k:K}{c:Addr}{Q:Bool->Shared->Prop},knd.is s.heap k c->Q true s->wpAny (model prog w) A (hashByValue 8 (.ref c)) Q E s
 plain:∀{A:Around}{E:Value->Shared->Prop}{s:Shared}{k:K}{c:Addr}{Q:Bool->Shared->Prop},knd.is s.heap k c->Q false s->wpAny (model prog w) A (ofAClassStatement 8 (.ref c)) Q E s
def tK.keep(D:tK knd){k:K}{c d:Addr}{o:Obj}(hx:knd.is h k c)(ho:h.get? d=some o)(hex:o.ExactSet)(sb:Cg d h h'):knd.is h' k c:=D.mono hx λb o' hc e=>by
 have ne:b≠d:=by
  rintro rfl;rw[ho]at e;cases e;rw[hex.1]at hc;exact absurd hc ⋯
 rw[sb.2 b ne];exact e
def yS(D:tK knd)(hkey:knd.is s.heap k b){ys:List Value}(hy:∀y∈ys,∃x c,y=An c/\knd.is s.heap x c)(h:Q false s):wpAny (model prog w) A (searchCouldBeSeen (.ref b) ys) Q E s:=by
 unfold searchCouldBeSeen;refine Aa ?_;refine Cr _ (λrest r s'=>r.1=none/\s'=s/\∀v∈rest,∃x c,v=An c/\knd.is s.heap x c) _ ?_ ?_ _ _ ⟨rfl,rfl,hy⟩
 ·rintro v rest r s' ⟨hr,rfl,hall⟩;obtain⟨x,c,rfl,hx⟩:=hall v Af;dsimp only;have nx:∀u∈rest,∃x c,u=An c/\knd.is s'.heap x c:=λu hu=>hall u (Ae _ hu);split
  ·exact Ad ⟨rfl,rfl,nx⟩
  ·refine Aa (knd.quiet hkey ?_)
   ac_rfl
   refine Aa (knd.quiet hx ?_)
   ac_rfl
   refine Aa (D.plain hkey ?_)
   ac_rfl
   refine Aa (D.plain hx ?_)
   ac_rfl
   exact Ad ⟨rfl,rfl,nx⟩
 ·rintro⟨r1,r2⟩ s' ⟨hr,rfl,_⟩;simp only at hr;subst hr;exact Ad h
def jJ.fits(S:jJ knd s a o es ep t xs):t.fits es.size=true:=by
 unfold Rf Rg;have h1:=S.size;have h2:=S.good.room;rw[S.good.dum];simp[h1]
 lia
def jJ.len(S:jJ knd s a o es ep t xs):es.size=xs.length:=by rw[<-Ao,S.he,Ab]
def jJ.entry(S:jJ knd s a o es ep t xs)(i:Nat):es[i]? =(xs[i]?).map λx=>(knd.hash x.1,An x.2):=by
 rw[<-Bl,S.he,Ax]
def jJ.even(S:jJ knd s a o es ep t xs)(hm:t.mask % 2=1):t.gaveWay=false:=by
 unfold SetTable.gaveWay;rw[hm];rfl
def vQ(S:jJ knd s a o es ep t xs)(hm:t.mask % 2=1)(D:tK knd)(hu:knd.room A)(hkey:knd.is s.heap k b)(hN:t.slot (SetTable.advs t.mask N (t.probeStart (knd.hash k))).j=.empty)(hF:N<10*Jn t.mask)
  (first:∀m,m<N->t.slot (SetTable.advs t.mask m (t.probeStart (knd.hash k))).j≠.empty) {Q:SetFound->Shared->Prop} (hold:(∃x∈xs,x.1=k)->Q (.there none) s) (hnew:(∀x∈xs,x.1≠k)->Q (.free (SetTable.advs t.mask N (t.probeStart (knd.hash k))).j false) s):
  ∀(fuel n:Nat)(stand:Option SetTable.Probe),stand.getD (t.probeStart (knd.hash k))=SetTable.advs t.mask n (t.probeStart (knd.hash k))->n<=N->N-n<fuel->(∀m,m<n->∃(i:Nat)(x:K×Addr),t.slot (SetTable.advs t.mask m (t.probeStart (knd.hash k))).j=.live i/\xs[i]? =some x/\x.1≠k)->
   wpAny (model prog w) A (setSearchFrom a (.ref b) (knd.hash k) true fuel stand) Q E s:=by
 intro fuel;induction fuel with
 |zero=>intro n stand _ _ h3;lia
 |succ fuel ih=>
  intro n stand h1 h2 h3 past;have dumA:∀m p,(SetTable.advs t.mask m p).dummy=p.dummy:=by
   intro m;induction m with
   |zero=>intro p;rfl
   |succ m ih=>intro p;rw[SetTable.advs,ih,SetTable.aB5]
  unfold setSearchFrom;refine Aa (Dt S.ho S.hd S.fits ?_);dsimp only;rw[S.even hm]
  ac_rfl
  rw[h1];have comp:∀m,SetTable.advs t.mask m (SetTable.advs t.mask n (t.probeStart (knd.hash k)))=SetTable.advs t.mask (n+m) (t.probeStart (knd.hash k)):=λm=>(SetTable.qL t.mask n m _).symm;have ent:∀i:Nat,(es[i]?.map (·.1)).getD 0=((xs[i]?).map λx=>knd.hash x.1).getD 0:=λi=>by
   rw[S.entry i,Option.map_map];rfl
  have inx:∀(i j:Nat),t.slot j=.live i->∃x,xs[i]? =some x/\t.place[i]? =some j:=λi j hs=>by
   rcases SetTable.tZ S.good.dum j with z|⟨i',z1,z2⟩
   ·rw[hs]at z;cases z
   ·rw[hs]at z1;cases z1;have hi:i<t.place.size:=(Array.getElem?_eq_some_iff.mp z2).1;rw[S.size,S.len]at hi;exact⟨xs[i],Aj hi,z2⟩
  obtain⟨n',a1,a2,a3⟩:=SetTable.aSg (t:=t) (hashAt:=λi:Nat=>(es[i]?.map (·.1)).getD 0) (h:=knd.hash k) (SetTable.pB S.good.dum) (10*Jn t.mask) (SetTable.advs t.mask n (t.probeStart (knd.hash k))) (N-n) (by rw[comp,show n+(N-n)=N by lia];exact hN) ∅ (by rw[dumA];rfl);rw[comp]at a3;rcases a3 with ⟨b1,b2⟩|⟨i,b1,b2,b3⟩
  ·have eN:n+n'=N:=by
    rcases Gm (n+n') N with z|z
    ·exact absurd b1 (first _ z)
    ·lia
   have e:t.probe (λi:Nat=>(es[i]?.map (·.1)).getD 0) (knd.hash k) (SetTable.advs t.mask n (t.probeStart (knd.hash k)))=some (.empty (SetTable.advs t.mask (n+n') (t.probeStart (knd.hash k))).j none):=b2
   erw[e]
   dsimp only;rw[eN];refine Ad (hnew λx hx ek=>?_);obtain⟨i,hi⟩:=List.mem_iff_getElem?.mp hx;have his:i<t.place.size:=by rw[S.size,S.len];exact(List.getElem?_eq_some_iff.mp hi).1
   have hpl:t.place[i]? =some t.place[i]:=Bc his;have hsl:=SetTable.aCb S.good.rise hpl;have wy:=S.way i _ x hpl hi;rw[ek]at wy;obtain⟨m,hm1,hm2⟩:=wy.ahead (by rw[hsl];intro z;cases z) hN;rcases Gm m n with z|z
   ·obtain⟨i',x',c1,c2,c3⟩:=past m z;rw[hm2,hsl]at c1;cases c1;rw[hi]at c2;cases c2;exact c3 ek
   ·obtain⟨i',c1,c2⟩:=a2 (m-n) ∅;rw[comp,show n+(m-n)=m by lia,hm2,hsl]at c1;cases c1;rw[ent,hi]at c2;exact c2 (by rw[<-ek];rfl)
  ·obtain⟨x,hx,hpl⟩:=inx i _ b1;have hxm:=Ba hx;have e:t.probe (λi:Nat=>(es[i]?.map (·.1)).getD 0) (knd.hash k) (SetTable.advs t.mask n (t.probeStart (knd.hash k)))=some (.candidate (SetTable.advs t.mask (n+n') (t.probeStart (knd.hash k))).j i (SetTable.advs t.mask (n'+1) (SetTable.advs t.mask n (t.probeStart (knd.hash k))))):=b3
   erw[e]
   dsimp only;cases hl:t.led
   focus
    simp only[Hj,if_true];refine Aa (yS D hkey (λy hy=>?_) ?_);obtain⟨e,he,rfl⟩:=List.mem_map.mp hy;have he2:=(Array.mem_filter.mp (Array.mem_toList_iff.mp he)).1;rw[<-Array.mem_toList_iff,S.he]at he2;obtain⟨x',hx',rfl⟩:=List.mem_map.mp he2;exact⟨_,_,rfl,S.keys x' hx'⟩
    ac_rfl
   rotate_left
   focus
    ac_rfl
   all_goals
    rw[S.entry i,hx];dsimp only[Ri];refine Aa (Bp (knd.eqBool hu (S.keys x hxm) hkey ?_));refine Aa (Dt S.ho S.hd S.fits ?_);by_cases ek:x.1=k
    ·rw[decide_eq_true ek];simp only[Uj,if_true];exact Ad (hold ⟨x,hxm,ek⟩)
    ·rw[decide_eq_false ek];simp only[Gg,Cu,if_false];have sm:t.sameMemory t.moves t.mask=some true:=by unfold SetTable.sameMemory;simp
     rw[sm];simp only[if_true];rw[b1];dsimp only;rw[S.entry i,hx];dsimp only[Ri];refine Aa (wpAny_isSame_ref_self ?_);simp only[if_true];refine Aa (Ad ?_);dsimp only;have lt:n+n'<N:=by
      rcases Gm (n+n') N with z|z
      ·exact z
      ·have z2:n+n'=N:=by lia
       rw[z2,hN]at b1;cases b1
     refine ih (n+(n'+1)) _ (by show SetTable.advs t.mask (n'+1) _=_;rw[comp]) ∅ ∅ λm hm'=>?_;rcases Gm m n with z|z
     ·exact past m z
     ·by_cases z2:m=n+n'
      ·subst z2;exact⟨i,x,b1,hx,ek⟩
      ·obtain⟨i',c1,c2⟩:=a2 (m-n) ∅;rw[comp,show n+(m-n)=m by lia]at c1;obtain⟨x',hx',_⟩:=inx i' _ c1;refine⟨i',x',c1,hx',λek'=>c2 ?_⟩;rw[ent,hx', <-ek'];rfl
def vR{o:Obj}(es':Array (Int×Value))(t':SetTable)(hd:o.data=.set es ep t)(h:o.ExactSet):(Hd es' t' o).ExactSet:=by
 rw[Km es' t' hd];exact h
def get_ins{l:List α}{p i:Nat}{y x:α}(hp:p<=l.length)(h:(l.take p++x::l.drop p)[i]? =some y):(i<p/\l[i]? =some y)∨(i=p/\y=x)∨(p<i/\l[i-1]? =some y):=by grind
def jJ.add(S:jJ knd s a o es ep t xs)(hkey:knd.is s.heap k b)(hn:∀x∈xs,x.1≠k)(hkeep:∀h',Cg a s.heap h'->∀x c,knd.is s.heap x c->knd.is h' x c)(hN:t.slot (SetTable.advs t.mask N (t.probeStart (knd.hash k))).j=.empty)
  (first:∀m,m<N->t.slot (SetTable.advs t.mask m (t.probeStart (knd.hash k))).j≠.empty) (hl:(SetTable.advs t.mask N (t.probeStart (knd.hash k))).j<=t.mask) (hroom:t.place.size+1<=t.mask) {j p:Nat} (ej:j=(SetTable.advs t.mask N (t.probeStart (knd.hash k))).j) (epp:p=By t.place j):
  jJ knd {s with heap:=s.heap.update a (Hd (Gq es p (knd.hash k,.ref b)) (t.put j).1)} a (Hd (Gq es p (knd.hash k,.ref b)) (t.put j).1 o) (Gq es p (knd.hash k,.ref b)) (ep+1) (t.put j).1 (xs.take p++(k,b)::xs.drop p):=by
 subst ej epp;have hb:=(SetTable.iC S.good.rise (SetTable.advs t.mask N (t.probeStart (knd.hash k))).j).1;have hbx:By t.place (SetTable.advs t.mask N (t.probeStart (knd.hash k))).j<=xs.length:=by rw[<-S.len, <-S.size];exact hb
 have hnf:(Hd (Gq es (By t.place (SetTable.advs t.mask N (t.probeStart (knd.hash k))).j) (knd.hash k,.ref b)) (t.put (SetTable.advs t.mask N (t.probeStart (knd.hash k))).j).1 o).isFreed=false:=by
  rw[Km _ _ S.hd];rfl
 refine⟨Bn _ S.ho hnf,vR _ _ S.hd S.hex,by rw[Km _ _ S.hd],?_,S.good.put hN hl hroom,?_,λx hx=>?_,?_,λi j x h1 h2=>?_⟩
 ·rw[SetTable.fC,S.he, <-List.map_take, <-List.map_drop,Bb,Au]
 ·rw[SetTable.jN S.good.dum];show(Gq t.place _ _).size=_;rw[SetTable.mW _ _ hb,SetTable.mW _ _ (by rw[<-S.size];exact hb),S.size]
 ·rcases List.mem_append.mp hx with m|m
  ·exact hkeep _ (Bo ..) _ _ (S.keys x (Ka m))
  ·rcases List.mem_cons.mp m with e|m
   ·rw[e];exact hkeep _ (Bo ..) _ _ hkey
   ·exact hkeep _ (Bo ..) _ _ (S.keys x (Kb m))
 ·have pm:((xs.take (By t.place (SetTable.advs t.mask N (t.probeStart (knd.hash k))).j)++(k,b)::xs.drop (By t.place (SetTable.advs t.mask N (t.probeStart (knd.hash k))).j)).map (·.1)).Perm (k::xs.map (·.1)):=by
   have:=(Sa (a:=(k,b)) (l₁:=xs.take (By t.place (SetTable.advs t.mask N (t.probeStart (knd.hash k))).j)) (l₂:=xs.drop (By t.place (SetTable.advs t.mask N (t.probeStart (knd.hash k))).j))).map (·.1);rw[Hl]at this;exact this
  rw[pm.nodup_iff,Mn];refine⟨λm=>?_,S.nd⟩;obtain⟨x,hx,e⟩:=List.mem_map.mp m;exact hn x hx e
 ·rw[SetTable.jN S.good.dum]at h1;have h1':(t.place.toList.take (By t.place (SetTable.advs t.mask N (t.probeStart (knd.hash k))).j)++(SetTable.advs t.mask N (t.probeStart (knd.hash k))).j::t.place.toList.drop (By t.place (SetTable.advs t.mask N (t.probeStart (knd.hash k))).j))[i]? =some j:=by
   rw[<-SetTable.fC,Bl];exact h1
  have gp:=get_ins (by rw[Ao];exact hb) h1';have gx:=get_ins hbx h2;rcases gp with ⟨z1,z2⟩|⟨z1,z2⟩|⟨z1,z2⟩
  ·rcases gx with ⟨y1,y2⟩|⟨y1,y2⟩|⟨y1,y2⟩
   ·exact(S.way i j x (by rw[<-Bl];exact z2) y2).put S.good hN
   ·lia
   ·lia
  ·rcases gx with ⟨y1,y2⟩|⟨y1,y2⟩|⟨y1,y2⟩
   ·lia
   ·rw[z2,y2];exact SetTable.qP.new S.good hN first
   ·lia
  ·rcases gx with ⟨y1,y2⟩|⟨y1,y2⟩|⟨y1,y2⟩
   ·lia
   ·lia
   ·exact(S.way (i-1) j x (by rw[<-Bl];exact z2) y2).put S.good hN
end
namespace SetTable
def stP(M:Nat)(i perturb:Nat):Probe:={j:=i,more:=runEnd M i-i,i,perturb,dummy:=none}
def st(M:Nat)(h:Int):Probe:=stP M (bits h % (M+1)) (bits h)
def zJ(M i perturb:Nat):∀k,k<=runEnd M i-i->(advs M k (stP M i perturb))={stP M i perturb with j:=i+k,more:=runEnd M i-i-k}:=by
 have gen:∀(k:Nat)(p:Probe),k<=p.more->advs M k p={p with j:=p.j+k,more:=p.more-k}:=by
  intro k;induction k with
  |zero=>intro p _;rfl
  |succ k ih=>
   intro p hk;rw[advs];have e:adv M p={p with j:=p.j+1,more:=p.more-1}:=by unfold adv;rw[if_pos ∅]
   rw[e,ih _ (by show k<=p.more-1;lia)];have e1:p.j+1+k=p.j+(k+1):=by lia
   have e2:p.more-1-k=p.more-(k+1):=by lia
   show({p with j:=p.j+1+k,more:=p.more-1-k}:Probe)=_;rw[e1,e2]
 intro k hk;exact gen k _ hk
def aGp(M i perturb:Nat):advs M (runEnd M i-i+1) (stP M i perturb)=stP M (leap M i perturb).1 (leap M i perturb).2:=by
 rw[qL,zJ M i perturb _ (Am _),Wo,advs,advs];unfold adv;rw[if_neg (by show¬(0>0);lia)];rfl
def aQg(hsz:owner.size=M+1):∀(fuel i perturb:Nat)(j:Nat),Ef M owner fuel i perturb=some j->
  owner[j]? =some none/\∃n,(advs M n (stP M i perturb)).j=j/\∀m,m<n->owner[(advs M m (stP M i perturb)).j]? ≠some none:=by
 intro fuel;induction fuel with
 |zero=>intro i perturb j e;cases e
 |succ fuel ih=>
  intro i perturb j e;have key:Ef M owner (fuel+1) i perturb=match (Br (runEnd M i+1-i)).find? λk=>(owner.getD (i+k) (some 0)).isNone with|some k=>some (i+k)|none=>Ef M owner fuel (leap M i perturb).1 (leap M i perturb).2:=rfl
  rw[key]at e;have none_of:∀x,(owner.getD x (some 0)).isNone=true↔owner[x]? =some none:=λx=>by
   by_cases hx:x<owner.size
   ·simp[Eu,hx]
   ·simp[Eu,hx]
  have hre:runEnd M i+1-i=runEnd M i-i+1:=by unfold runEnd;split<;>lia
  cases hf:(Br (runEnd M i+1-i)).find? λk=>(owner.getD (i+k) (some 0)).isNone with
  |some k=>
   rw[hf]at e;cases e;have h1:=Sq hf;have h2:=List.mem_range.mp (Nu hf);refine⟨(none_of _).mp h1,k,by rw[zJ M i perturb k ∅],λm hm=>?_⟩;rw[zJ M i perturb m ∅];intro z;have z':owner[i+m]? =some none:=z;rw[List.find?_eq_some_iff_append]at hf;obtain⟨_,as,bs,e1,e2⟩:=hf;have hk:as.length=k:=by
    have h3:(Br (runEnd M i+1-i))[as.length]? =some k:=by rw[e1];simp
    rw[Kh (by have:=congrArg Bj e1;simp at this;lia)]at h3;exact Bk h3
   have h4:m∈as:=by
    have h5:(Br (runEnd M i+1-i))[m]? =some m:=Kh ∅;rw[e1,Ep ∅]at h5;exact Ba h5
   have:=e2 m h4;rw[(none_of _).mpr z']at this;exact absurd this ⋯
  |none=>
   rw[hf]at e;obtain⟨b1,n,b2,b3⟩:=ih _ _ _ e;refine⟨b1,runEnd M i-i+1+n,by rw[qL,aGp];exact b2,λm hm=>?_⟩;rcases Gm m (runEnd M i-i+1)with z|z
   ·rw[zJ M i perturb m ∅];intro y;have y':owner[i+m]? =some none:=y;have:=List.find?_eq_none.mp hf m (List.mem_range.mpr ∅);exact this ((none_of _).mpr y')
   ·obtain⟨d,rfl⟩:∃d,m=runEnd M i-i+1+d:=⟨m-(runEnd M i-i+1),∅⟩;rw[qL,aGp];exact b3 d ∅
def aMg(he:owner[e]? =some none):∀(fuel i perturb L:Nat),(gW M L (i,perturb)).1=e->L<fuel->∃j,Ef M owner fuel i perturb=some j:=by
 intro fuel;induction fuel with
 |zero=>intro i perturb L _ h;lia
 |succ fuel ih=>
  intro i perturb L h1 h2;have key:Ef M owner (fuel+1) i perturb=match (Br (runEnd M i+1-i)).find? λk=>(owner.getD (i+k) (some 0)).isNone with|some k=>some (i+k)|none=>Ef M owner fuel (leap M i perturb).1 (leap M i perturb).2:=rfl
  rw[key];cases hf:(Br (runEnd M i+1-i)).find? λk=>(owner.getD (i+k) (some 0)).isNone with
  |some k=>exact⟨_,rfl⟩
  |none=>
   cases L with
   |zero=>
    have h1':i=e:=h1;subst h1';have hr:0<runEnd M i+1-i:=by unfold runEnd;split<;>lia
    have:=List.find?_eq_none.mp hf 0 (List.mem_range.mpr hr);have hs:i<owner.size:=(Array.getElem?_eq_some_iff.mp he).1;have h3:owner[i]=none:=(Array.getElem?_eq_some_iff.mp he).2;exact absurd (by simp[Eu,hs,h3]) this
   |succ L=>exact ih _ _ L h1 ∅
structure Lay(M:Nat)(hs:List Int)(owner:Array (Option Nat)):Prop where
 size:owner.size=M+1
 has:∀i,i<hs.length->∃j:Nat,owner[j]? =some (some i)
 low:∀(j i:Nat),owner[j]? =some (some i)->i<hs.length
 uniq:∀(j j' i:Nat),owner[j]? =some (some i)->owner[j']? =some (some i)->j=j'
 way:∀(j i:Nat)(h:Int),owner[j]? =some (some i)->hs[i]? =some h->∃n,(advs M n (st M h)).j=j/\∀m,m<n->owner[(advs M m (st M h)).j]? ≠some none
def Lay.start(M:Nat):Lay M [] (Sk (M+1) none):=by
 have no:∀(j i:Nat),(Sk (M+1) (none:Option Nat))[j]? ≠some (some i):=λj i e=>by
  rw[Array.getElem?_replicate]at e;split at e<;>cases e
 exact⟨by simp,λi h=>absurd h (Df i),λj i e=>absurd e (no j i),λj j' i e=>absurd e (no j i),λj i h e=>absurd e (no j i)⟩
def Lay.empty(L:Lay M hs owner)(hl:hs.length<=M):∃e,e<=M/\owner[e]? =some none:=by
 refine Hw λno=>?_;have all:∀j,j<=M->∃i,owner[j]? =some (some i):=λj hj=>by
  have hs:j<owner.size:=by rw[L.size];lia
  cases g:owner[j]with
  |none=>exact absurd ⟨j,hj,by rw[Bc hs,g]⟩ no
  |some i=>exact⟨i,by rw[Bc hs,g]⟩
 have f:∀j,∃i,j<=M->owner[j]? =some (some i):=λj=>by
  by_cases hj:j<=M
  ·obtain⟨i,hi⟩:=all j hj;exact⟨i,λ_=>hi⟩
  ·exact⟨0,λz=>absurd z hj⟩
 obtain⟨F,hF⟩:=Classical.axiomOfChoice f;have nd:((Br (M+1)).map F).Nodup:=by
  rw[Rn,Dn];refine(Jd (n:=M+1)).imp_of_mem λ{a b} ha hb hab z=>hab ?_;have h1:=hF a (by have:=List.mem_range.mp ha;lia);have h2:=hF b (by have:=List.mem_range.mp hb;lia);rw[z]at h1;exact L.uniq a b _ h1 h2
 have sub:(Br (M+1)).map F ⊆ Br hs.length:=λx hx=>by
  obtain⟨j,hj,rfl⟩:=List.mem_map.mp hx;exact List.mem_range.mpr (L.low j _ (hF j (by have:=List.mem_range.mp hj;lia)))
 have:=nd.length_le_of_subset sub;rw[Ab,Da,Da]at this
 lia
def Lay.step(R:Round M)(L:Lay M hs owner)(hl:hs.length<=M)(h:Int):∃j,Ef M owner (turns M) (bits h % (M+1)) (bits h)=some j/\Lay M (hs++[h]) (owner.setIfInBounds j (some hs.length)):=by
 obtain⟨e,he,e1⟩:=L.empty hl;have hb:bits h<2 ^ 64:=by
  unfold bits;have h1:=Fx h (show((2:Int) ^ 64)≠0 by decide);have h2:=Eo h (show(0:Int)<2 ^ 64 by decide)
  lia
 obtain⟨Lp,_,l2,l3⟩:=aAf R he (bits h % (M+1)) (bits h) hb;obtain⟨j,hj⟩:=aMg e1 (turns M) _ _ Lp l3 (by unfold turns;lia);obtain⟨w1,n,w2,w3⟩:=aQg L.size _ _ _ _ hj;have hjs:j<owner.size:=(Array.getElem?_eq_some_iff.mp w1).1;have at_:∀x,(owner.setIfInBounds j (some hs.length))[x]? =if x=j then some (some hs.length)else owner[x]? :=λx=>by
  rw[Array.getElem?_setIfInBounds];by_cases z:j=x
  ·subst z;simp[hjs]
  ·rw[if_neg z,if_neg (λy=>z y.symm)]
 have occ:∀x,owner[x]? ≠some none->(owner.setIfInBounds j (some hs.length))[x]? ≠some none:=λx z=>by
  rw[at_];split
  ·intro y;cases y
  ·exact z
 refine⟨j,hj,⟨by simp[L.size],λi hi=>?_,λx i g=>?_,λx y i g1 g2=>?_,λx i h' g g'=>?_⟩⟩
 ·rw[Ag,Fq]at hi;by_cases z:i<hs.length
  ·obtain⟨x,hx⟩:=L.has i z;refine⟨x,?_⟩;rw[at_,if_neg (λy=>by subst y;rw[w1]at hx;cases hx)];exact hx
  ·exact⟨j,by rw[at_,if_pos rfl,show i=hs.length by lia]⟩
 ·rw[at_]at g;rw[Ag,Fq];split at g
  ·cases g;lia
  ·have:=L.low x i g;lia
 ·rw[at_]at g1;rw[at_]at g2;split at g1
  ·split at g2
   ·lia
   ·cases g1;exact absurd (L.low y _ g2) (Ds _)
  ·split at g2
   ·cases g2;exact absurd (L.low x _ g1) (Ds _)
   ·exact L.uniq x y i g1 g2
 ·rw[at_]at g;split at g
  ·cases g;rw[Eh (Am _),Wo]at g';cases g';subst x;exact⟨n,w2,λm hm=>occ _ (w3 m hm)⟩
  ·have:=L.low x i g;rw[Ep this]at g';obtain⟨n',a1,a2⟩:=L.way x i h' g g';exact⟨n',a1,λm hm=>occ _ (a2 m hm)⟩
theorem aJv{M:Nat}(R:Round M):∀(l hs:List Int)(owner:Array (Option Nat)),Lay M hs owner->hs.length+l.length<=M+1->∃owner',(l.foldl (init:=some (owner,hs.length)) λacc h=>do
   let(owner,k)<-acc
   let j<-Ef M owner (turns M) (bits h % (M+1)) (bits h)
   pure (owner.setIfInBounds j (some k),k+1))=some (owner',(hs++l).length)/\Lay M (hs++l) owner'
 | [],hs,owner,L,_=>⟨owner,by simp,by simpa using L⟩
 |h::l,hs,owner,L,hl=>by
  rw[Ah]at hl
  obtain⟨j,hj,L'⟩:=L.step R ∅ h
  obtain⟨o',e1,e2⟩:=aJv R l (hs++[h]) _ L' (by rw[Ag,Fq];lia)
  refine⟨o',?_,by simpa using e2⟩
  rw[Ed]
  have:(do
   let(owner,k)<-some (owner,hs.length)
   let j<-Ef M owner (turns M) (bits h % (M+1)) (bits h)
   pure (owner.setIfInBounds j (some k),k+1):Option (Array (Option Nat)×Nat))=some (owner.setIfInBounds j (some hs.length),hs.length+1):=by
   show(Ef M owner (turns M) (bits h % (M+1)) (bits h)).bind _=_
   rw[hj]
   rfl
  rw[this]
  rw[Ag,Fq]at e1
  rw[e1]
  simp
def aBu(R:Round M)(hashes:Array Int)(hl:hashes.size<=M+1):∃owner,layClean M hashes=some owner/\Lay M hashes.toList owner:=by
 obtain⟨o',e1,e2⟩:=aJv R hashes.toList [] _ (Lay.start M) (by simpa using hl);refine⟨o',?_,by simpa using e2⟩;unfold layClean;rw[<-Array.foldl_toList];have e1':=e1;rw[Be]at e1';rw[e1'];rfl
def iI(M:Nat)(owner:Array (Option Nat)):List (Nat×Nat):=(Br (M+1)).filterMap λj=>(owner.getD j none).map (j,·)
def mF(hsz:owner.size=M+1){j i:Nat}:(j,i)∈iI M owner↔owner[j]? =some (some i):=by
 unfold iI;rw[List.mem_filterMap];constructor
 ·rintro⟨x,hx,e⟩;obtain⟨y,hy,e2⟩:=Option.map_eq_some_iff.mp e;cases e2;have hs:j<owner.size:=by rw[hsz];exact List.mem_range.mp hx
  have hy':owner[j]=some i:=by simpa[Eu,hs]using hy
  rw[Bc hs,hy']
 ·intro e;obtain⟨hs,e2⟩:=Array.getElem?_eq_some_iff.mp e;refine⟨j,List.mem_range.mpr ∅,?_⟩;have:owner.getD j none=some i:=by simp[Eu,hs,e2]
  rw[this];rfl
def wX(M:Nat)(owner:Array (Option Nat)):((iI M owner).map (·.1)).Pairwise (·<·):=by
 unfold iI;rw[Dn,List.pairwise_filterMap];refine(Jk (n:=M+1)).imp λ{a b} hab x hx y hy=>?_;obtain⟨_,_,rfl⟩:=Option.map_eq_some_iff.mp hx;obtain⟨_,_,rfl⟩:=Option.map_eq_some_iff.mp hy;exact hab
def aIh(L:Lay M hs owner):((iI M owner).map (·.2)).Perm (Br hs.length):=by
 have nd:((iI M owner).map (·.2)).Nodup:=by
  rw[Rn,Dn];have h1:=wX M owner;rw[Dn]at h1;refine h1.imp_of_mem λ{a b} ha hb hab z=>?_;have g1:=(mF L.size).mp (show(a.1,a.2)∈_ from ha);have g2:=(mF L.size).mp (show(b.1,b.2)∈_ from hb);rw[z]at g1;have:=L.uniq _ _ _ g1 g2
  lia
 refine(List.perm_ext_iff_of_nodup nd Jd).mpr λi=>?_;rw[List.mem_range,List.mem_map];constructor
 ·rintro⟨⟨j,i'⟩,hm,rfl⟩;exact L.low j _ ((mF L.size).mp hm)
 ·intro hi;obtain⟨j,hj⟩:=L.has i hi;exact⟨(j,i),(mF L.size).mpr hj,rfl⟩
def aSr(M:Nat){p:Probe}(h:p.j+p.more<=M):(adv M p).j+(adv M p).more<=M:=by
 unfold adv;split
 ·show p.j+1+(p.more-1)<=M;lia
 ·show(leap M p.i p.perturb).1+(runEnd M (leap M p.i p.perturb).1-(leap M p.i p.perturb).1)<=M;have:(leap M p.i p.perturb).1<=M:=by
   show(p.i*5+1+p.perturb / 32) % (M+1)<=M;have:=Lm (p.i*5+1+p.perturb / 32) (show 0<M+1 by lia)
   lia
  unfold runEnd;split<;>lia
theorem aA1(M:Nat):∀(n:Nat){p:Probe},p.j+p.more<=M->(advs M n p).j<=M
 |0,_,h=>by rw[advs];lia
 |n+1,_,h=>by rw[advs];exact aA1 M n (aSr M h)
def aPc(M:Nat)(h:Int):(st M h).j+(st M h).more<=M:=by
 show bits h % (M+1)+(runEnd M (bits h % (M+1))-bits h % (M+1))<=M;have:=Lm (bits h) (show 0<M+1 by lia);unfold runEnd;split<;>lia
def aK6(R:Round M)(finger moves:Nat)(led plain:Bool)(hashes:Array Int)(hl:hashes.size<=M):
  ∃t order,laid M finger moves led plain hashes=some (t,order)/\t.mask=M/\t.led=led/\t.plain=plain/\t.moves=moves/\t.Good/\t.place.size=hashes.size/\order.toList.Perm (Br hashes.size)/\
   ∀(r j i:Nat)(h:Int),t.place[r]? =some j->order[r]? =some i->hashes[i]? =some h->qP t h j:=by
 obtain⟨owner,e1,L⟩:=aBu R hashes ∅;have Pm:=aIh L;have Ps:(iI M owner).length=hashes.size:=by
  have:=Pm.length_eq;rw[Ab,Da,Ao]at this;exact this
 refine⟨{mask:=M,place:=((iI M owner).map (·.1)).toArray,dummies:= #[],finger,led,moves,plain},((iI M owner).map (·.2)).toArray,?_,rfl,rfl,rfl,rfl,?_,?_,?_,?_⟩
 ·unfold laid;rw[e1];rfl
 ·refine⟨rfl,vZ.mpr (wX M owner),λj hj=>?_,?_,R⟩
  ·obtain⟨⟨j',i⟩,hm,rfl⟩:=List.mem_map.mp hj;have:=(Array.getElem?_eq_some_iff.mp ((mF L.size).mp hm)).1;show j'<=M;rw[L.size]at this
   lia
  ·show((iI M owner).map (·.1)).toArray.size<=M;rw[Ak,Ab,Ps];exact hl
 ·show((iI M owner).map (·.1)).toArray.size=_;rw[Ak,Ab,Ps]
 ·show((iI M owner).map (·.2)).Perm _;rw[Ao]at Pm;exact Pm
 ·intro r j i h h1 h2 h3;have g1:((iI M owner).map (·.1))[r]? =some j:=by simpa using h1
  have g2:((iI M owner).map (·.2))[r]? =some i:=by simpa using h2
  rw[Ax]at g1 g2;obtain⟨x,hx,rfl⟩:=Option.map_eq_some_iff.mp g1;rw[hx]at g2;cases g2;have hm:=(mF L.size).mp (show(x.1,x.2)∈_ from Ba hx);obtain⟨n,w1,w2⟩:=L.way x.1 x.2 h hm (by rw[Bl];exact h3);refine⟨n,w1,λm hm' z=>w2 m hm' ?_⟩;have z1:=(fV (t:={mask:=M,place:=((iI M owner).map (·.1)).toArray,dummies:= #[],finger,led,moves,plain}) (vZ.mpr (wX M owner)) rfl).mp z;have low:(advs M m (st M h)).j<=M:=aA1 M m (aPc M h);have hs:(advs M m (st M h)).j<owner.size:=by rw[L.size];lia
  cases g:owner[(advs M m (st M h)).j]with
  |none=>rw[Bc hs,g]
  |some i'=>
   have g':owner[(advs M m (st M h)).j]? =some (some i'):=by rw[Bc hs,g]
   exact absurd (List.mem_map.mpr ⟨((advs M m (st M h)).j,i'),(mF L.size).mpr g',rfl⟩) z1
end SetTable
def filterMap_get{α β:Type}{f:α->Option β}{l:List α}(h:∀i∈l,∃y,f i=some y)(r:Nat):(l.filterMap f)[r]? =l[r]?.bind f:=by
 induction l generalizing r with
 |nil=>simp
 |cons a l ih=>obtain⟨y,hy⟩:=h a Af;cases r<;>grind
def qG(l:List α):(Br l.length).filterMap (λi:Nat=>l[i]?)=l:=by
 apply Lf;intro r;rw[filterMap_get (λi hi=>⟨l[i]'(List.mem_range.mp hi),Aj (List.mem_range.mp hi)⟩)];by_cases h:r<l.length
 ·rw[Kh h];rfl
 ·rw[Co (by rw[Da];lia),Co ∅];rfl
section
variable {prog:Program}{w:World}{K:Type} [DecidableEq K]{knd:HeapKind prog w K}{A:Around}{E:Value->Shared->Prop}{s:Shared}{a b:Addr}{o:Obj}{es:Array (Int×Value)}{ep:Nat}{t:SetTable}{xs:List (K×Addr)}{k:K}
def jJ.relaid(S:jJ knd s a o es ep t xs)(hkeep:∀h',Cg a s.heap h'->∀x c,knd.is s.heap x c->knd.is h' x c){wanted:Nat}(R:SetTable.Round (Dc wanted-1))(hl:es.size<=Dc wanted-1):
  ∃t' order,t.relaid (es.map (·.1)) wanted=some (t',order)/\(order.filterMap (es[·]?)).size=es.size/\t'.mask=Dc wanted-1/\t'.led=t.led/\t'.plain=t.plain/\∃xs':List (K×Addr),xs'.Perm xs/\
   jJ knd {s with heap:=s.heap.update a (Hd (order.filterMap (es[·]?)) t')} a (Hd (order.filterMap (es[·]?)) t' o) (order.filterMap (es[·]?)) (ep+1) t' xs':=by
 obtain⟨t',order,e1,e2,e3,e4,e5,G,sz,pm,wy⟩:=SetTable.aK6 R t.finger (t.movedTo (Dc wanted-1)) t.led t.plain (es.map (·.1)) (by rw[Sr];exact hl);rw[Sr]at sz pm;have hin:∀i∈order.toList,∃y,xs[i]? =some y:=λi hi=>by
  have:=List.mem_range.mp (pm.mem_iff.mp hi);rw[S.len]at this;exact⟨xs[i],Aj this⟩
 have el:(order.filterMap (es[·]?)).toList=(order.toList.filterMap λi:Nat=>xs[i]?).map λx=>(knd.hash x.1,An x.2):=by
  rw[Array.toList_filterMap,Qv];congr 1;funext i;exact S.entry i
 have px:(order.toList.filterMap λi:Nat=>xs[i]?).Perm xs:=by
  have:=pm.filterMap λi:Nat=>xs[i]?;rw[S.len,qG]at this;exact this
 have esz:(order.filterMap (es[·]?)).size=es.size:=by rw[<-Ao,el,Ab,px.length_eq,S.len]
 have hnf:(Hd (order.filterMap (es[·]?)) t' o).isFreed=false:=by
  rw[Km _ _ S.hd];rfl
 refine⟨t',order,e1,esz,e2,e3,e4,_,px,⟨Bn _ S.ho hnf,vR _ _ S.hd S.hex,by rw[Km _ _ S.hd],el,G,by rw[sz,esz],λx hx=>hkeep _ (Bo ..) _ _ (S.keys x (px.mem_iff.mp hx)),?_,λr j x h1 h2=>?_⟩⟩
 ·rw[(px.map (·.1)).nodup_iff];exact S.nd
 ·rw[filterMap_get hin]at h2;obtain⟨i,hi,hx⟩:=Option.bind_eq_some_iff.mp h2;refine wy r j i _ h1 (by rw[<-Bl];exact hi) ?_;rw[Array.getElem?_map,S.entry i,hx];rfl
def xT(S:jJ knd s a o es ep t xs)(hkeep:∀h',Cg a s.heap h'->∀x c,knd.is s.heap x c->knd.is h' x c){wanted:Nat}(R:SetTable.Round (Dc wanted-1))(hl:es.size<=Dc wanted-1)(hsz:Dc wanted<=sizeLine){Q:Unit->Shared->Prop}
  (h:∀(h':Heap)(o':Obj)(es':Array (Int×Value))(t':SetTable)(xs':List (K×Addr)),Cg a s.heap h'->xs'.Perm xs->t'.mask=Dc wanted-1->t'.led=t.led->t'.plain=t.plain->jJ knd {s with heap:=h'} a o' es' (ep+1) t' xs'->Q () {s with heap:=h'}):
  wpAny (model prog w) A (setRelay a wanted) Q E s:=by
 obtain⟨t',order,e1,e2,e3,e4,e5,xs',px,S'⟩:=S.relaid hkeep R hl;unfold setRelay;refine Aa (Dt S.ho S.hd S.fits ?_);dsimp only;rw[if_neg ∅];refine Aa ?_;rw[e1];show wpAny _ _ (if(order.filterMap (es[·]?)).size != es.size then _ else pure (order.filterMap (es[·]?),t')) _ _ _;rw[if_neg (by rw[e2];simp)];refine Ad ?_;refine Mv S.ho S.hd (h _ _ _ _ xs' (Bo ..) px e3 e4 e5 S') ?_;rw[e2]
 lia
end
namespace SetTable
variable {t:SetTable}
def aE5(G:t.Good)(h:Int):∃N,N<10*turns t.mask/\t.slot (advs t.mask N (t.probeStart h)).j=.empty/\∀m,m<N->t.slot (advs t.mask m (t.probeStart h)).j≠.empty:=by
 obtain⟨N,h1,h2⟩:=aIr G.round G.dum G.room (t.probeStart h) (aFu t h).1 (aFu t h).2;induction N using Nh with
 |_ N ih=>
  by_cases hx:∃m,m<N/\t.slot (advs t.mask m (t.probeStart h)).j=.empty
  ·obtain⟨m,hm,e⟩:=hx;exact ih m hm ∅ e
  ·exact⟨N,h1,h2,λm hm e=>hx ⟨m,hm,e⟩⟩
theorem sS(mask:Nat):∀m k i,qT mask (m+k) i=qT mask k (qT mask m i)
 |0,k,i=>by rw[Ii];rfl
 |m+1,k,i=>by
  rw[Nat.add_right_comm];exact sS mask m k (five mask i)
def seen(mask:Nat):Nat->Nat->Nat->Nat
 |0,_,u=>u
 |m+1,i,u=>seen mask m (five mask i) (u |||1<<<i)
theorem aFn{mask e:Nat}:∀m i u,(seen mask m i u).testBit e=true->u.testBit e=true∨∃k,k<m/\qT mask k i=e
 |0,_,_,h=> .inl h
 |m+1,i,u,h=>by
  rcases aFn m _ _ h with h|⟨k,h1,h2⟩
  ·rw[Ub,Rz,Qt,Bool.or_eq_true,decide_eq_true_eq]at h;exact h.imp id λh=>⟨0,∅,h⟩
  ·exact .inr ⟨k+1,∅,h2⟩
def aF6(h0:qT mask (mask+1) 0=0)(h:seen mask (mask+1) 0 0=2 ^ (mask+1)-1):Round mask:=by
 have key:∀e,e<=mask->∃k,k<mask+1/\qT mask k 0=e:=λe he=>by
  refine(aFn (mask+1) 0 0 ?_).resolve_left λh=>by simp at h
  rw[h,Nat.testBit_two_pow_sub_one];exact decide_eq_true ∅
 intro i hi e he;obtain⟨a,ha,rfl⟩:=key i hi;obtain⟨b,hb,rfl⟩:=key e he;by_cases c:a<b
 ·refine⟨b-a-1,∅,?_⟩;rw[<-sS];congr 1
  lia
 ·refine⟨mask-a+b,∅,?_⟩;rw[<-sS,show a+(mask-a+b+1)=mask+1+b by lia,sS,h0]
def aQ0:Round 127:=aF6 (by decide+kernel) (by decide+kernel)
def aOn:Round 511:=aF6 (by decide+kernel) (by decide+kernel)
def Small(t:SetTable):Prop:=(t.mask=7/\t.place.size<=4)∨(t.mask=31/\t.place.size<=18)∨(t.mask=127/\t.place.size<=76)∨(t.mask=511/\t.place.size<=306)
def Small.odd(S:t.Small):t.mask % 2=1:=by rcases S with ⟨e,_⟩|⟨e,_⟩|⟨e,_⟩|⟨e,_⟩<;>rw[e]
end SetTable
section
variable {prog:Program}{w:World}{K:Type} [DecidableEq K](knd:HeapKind prog w K)
def lB(s:Shared)(a:Addr)(l:Bool)(xs:List (K×Addr)):Prop:=∃o es ep t,jJ knd s a o es ep t xs/\t.Small/\t.plain=true/\t.led=l
variable {knd}{A:Around}{E:Value->Shared->Prop}{s:Shared}{a b:Addr}{o:Obj}{es:Array (Int×Value)}{ep:Nat}{t:SetTable}{xs:List (K×Addr)}{k:K}{l:Bool}
def lB.at(D:tK knd){s':Shared}(S:lB knd s a l xs)(h1:∀o,s.heap.get? a=some o->s'.heap.get? a=some o)(h2:∀b o,o.cls=.type "tuple"->s.heap.get? b=some o->s'.heap.get? b=some o):lB knd s' a l xs:=by
 obtain⟨o,es,ep,t,S,r⟩:=S;exact⟨o,es,ep,t,⟨h1 o S.ho,S.hex,S.hd,S.he,S.good,S.size,λx hx=>D.mono (S.keys x hx) h2,S.nd,S.way⟩,r⟩
def aIv(x:Addr)(es:Array (Int×Value)):byScan (.ref x) es=false:=rfl
def oN(D:tK knd)(S:lB knd s a l xs)(hn:xs.length<300)(hu:knd.room A)(hkey:knd.is s.heap k b)
  (hold:(∃x∈xs,x.1=k)->Q false s)
  (hnew:(∀x∈xs,x.1≠k)->∀h' xs',Cg a s.heap h'->xs'.Perm ((k,b)::xs)->lB knd {s with heap:=h'} a l xs'->Q true {s with heap:=h'}):
  wpAny (model prog w) A (setAddHashed a (.ref b) (knd.hash k)) Q E s:=by
 obtain⟨o,es,ep,t,S,sm,pl,rfl⟩:=S;unfold setAddHashed;refine Bp ?_;unfold setAddHashedIn;refine Aa (Dt S.ho S.hd S.fits ?_);dsimp only;rw[aIv]
 ac_rfl
 obtain⟨N,n1,n2,n3⟩:=SetTable.aE5 S.good (knd.hash k);have bigm:10*Jn t.mask<=100000:=by
  unfold Jn;rcases sm with ⟨e,_⟩|⟨e,_⟩|⟨e,_⟩|⟨e,_⟩<;>rw[e]<;>decide
 refine Aa (vQ S sm.odd D hu hkey n2 n1 n3 (λh=>?_) (λh=>?_) 100000 0 none rfl (Ay _) ∅ λm hm=>absurd hm (Df m))
 ·exact Ad (hold h)
 ·dsimp only;refine Aa (Dt S.ho S.hd S.fits ?_);dsimp only;have lowj:(SetTable.advs t.mask N (t.probeStart (knd.hash k))).j<=t.mask:=SetTable.aA1 _ _ (SetTable.aPc _ _);have hsz:t.place.size+1<=t.mask:=by rcases sm with ⟨e,h⟩|⟨e,h⟩|⟨e,h⟩|⟨e,h⟩<;>lia
  have S':=S.add hkey h (λh' sb x c hx=>D.keep hx S.ho S.hex sb) n2 n3 lowj hsz rfl rfl;have hb:=(SetTable.iC S.good.rise (SetTable.advs t.mask N (t.probeStart (knd.hash k))).j).1;have psz:(t.put (SetTable.advs t.mask N (t.probeStart (knd.hash k))).j).1.place.size=t.place.size+1:=by
   rw[SetTable.jN S.good.dum];exact SetTable.mW _ _ hb
  have pmk:(t.put (SetTable.advs t.mask N (t.probeStart (knd.hash k))).j).1.mask=t.mask:=by rw[SetTable.jN S.good.dum]
  have ppl:(t.put (SetTable.advs t.mask N (t.probeStart (knd.hash k))).j).1.plain=true:=by rw[SetTable.jN S.good.dum];exact pl
  have pld:(t.put (SetTable.advs t.mask N (t.probeStart (knd.hash k))).j).1.led=t.led:=by rw[SetTable.jN S.good.dum]
  have p2:(t.put (SetTable.advs t.mask N (t.probeStart (knd.hash k))).j).2=By t.place (SetTable.advs t.mask N (t.probeStart (knd.hash k))).j:=by rw[SetTable.jN S.good.dum]
  have pm:=(Sa (a:=(k,b)) (l₁:=xs.take (By t.place (SetTable.advs t.mask N (t.probeStart (knd.hash k))).j)) (l₂:=xs.drop (By t.place (SetTable.advs t.mask N (t.probeStart (knd.hash k))).j)));rw[Hl]at pm;have fl:(t.put (SetTable.advs t.mask N (t.probeStart (knd.hash k))).j).1.fill=t.place.size+1:=by
   unfold Rg;rw[psz,S'.good.dum];rfl
  rw[ppl];simp only[if_true];refine Aa (D.byValue hkey ?_);simp only[if_true,p2];have els:=S'.len;have eln:=S.len;have hxl:=pm.length_eq;rw[Ah]at hxl;refine Aa (Mv S.ho S.hd ?_ (by rw[els,hxl];unfold sizeLine;lia));by_cases full:(t.put (SetTable.advs t.mask N (t.probeStart (knd.hash k))).j).1.tooFull=true
  ·rw[full];simp only[Hj,Uj,if_true];have fd:∃g,Dc (SetTable.grown (es.size+1))=g+1/\SetTable.Round g/\es.size+1<=g/\g<=511/\(g=31/\es.size+1<=18∨g=127/\es.size+1<=76∨g=511/\es.size+1<=306):=by
    unfold Pt at full;rw[fl,pmk]at full;have full:=of_decide_eq_true full;have sz:=S.size;rcases sm with ⟨e,h⟩|⟨e,h⟩|⟨e,h⟩|⟨e,h⟩<;>rw[e]at full
    ·rw[show es.size=4 by lia];exact⟨31,⋯,SetTable.aTr,⋯,⋯,⋯⟩
    ·rw[show es.size=18 by lia];exact⟨127,⋯,SetTable.aQ0,⋯,⋯,⋯⟩
    ·rw[show es.size=76 by lia];exact⟨511,⋯,SetTable.aOn,⋯,⋯,⋯⟩
    ·lia
   obtain⟨g,eg,rg,g1,g2,g3⟩:=fd;refine Aa (xT S' (λh' sb x c hx=>D.keep hx S'.ho S'.hex sb) (by rw[eg];exact rg) (by rw[els,hxl,eg, <-eln];exact g1) (by rw[eg];unfold sizeLine;lia) λh' o' es' t' xs' sb px e1 e2 e3 S2=>?_);refine Ad ?_;refine hnew h h' xs' (Nk (Bo ..) sb) (px.trans pm) ⟨o',es',_,t',S2,.inr ?_,by rw[e3];exact ppl,by rw[e2];exact pld⟩;rw[e1,eg,S2.size,S2.len,px.length_eq,hxl, <-eln];exact g3
  ·have full:=Bool.eq_false_iff.mpr full;rw[full];simp only[Gg,Cu,if_false];refine Ad (hnew h _ _ (Bo ..) pm ⟨_,_,_,_,S',?_,ppl,pld⟩);unfold Pt at full;rw[fl,pmk]at full;have full:=of_decide_eq_false full;have sz:=S.size;unfold SetTable.Small;rw[pmk,psz];rcases sm with ⟨e,h⟩|⟨e,h⟩|⟨e,h⟩|⟨e,h⟩<;>rw[e]at full⊢ <;>lia
end
def qD(n:Nat)(i:Int)(tk):hashByValue n (.int i tk)=pure true:=by cases n<;>rfl
def uV(n:Nat){v:Value}(h:carriedByValue v=true):ofAClassStatement n v=pure false:=by
 cases v with
 |ref a=>cases h
 |_=>first|rfl|(unfold ofAClassStatement;rfl)
section
variable {prog:Program}{w:World}{K:Type} [DecidableEq K]{knd:KeyKind prog w K}{A:Around}{E:Value->Shared->Prop}{s:Shared}
def ItemsAre.ints(hv:∀k v,knd.is k v=true->∃i tk,v=Cv i tk){x:List K}{vs:List Value}(hx:ItemsAre knd x vs):∀v∈vs,∃i tk,v=Cv i tk:=by
 induction hx with
 |nil=>intro v hv;simp at hv
 |@cons k v' ks vs h1 _ ih=>
  intro v hm;rcases List.mem_cons.mp hm with rfl|hm
  ·exact hv _ _ h1
  ·exact ih v hm
def oG(hv:∀k v,knd.is k v=true->∃i tk,v=Cv i tk){ks:List K}(hk:IsTupleKey knd s.heap ks a)(h:Q true s):wpAny (model prog w) A (hashByValue (n+1) (.ref a)) Q E s:=by
 have hT:=hk.typeIs;obtain⟨o,items,m,ho,_,hd,hi⟩:=hk;unfold hashByValue;refine Aa (Dh hT F.slot_tuple_hash.lookup ?_);show wpAny _ _ (seqItems? (.ref a)>>=_) _ _ s;refine Aa (Fm ho hd ?_);refine Aa ?_;show wpAny _ _ (forIn items _ _) _ _ s;rw[<-Dv];refine Cr _ (λrest r s'=>r.1=none/\s'=s/\∀v∈rest,∃i tk,v=Cv i tk) _ ?_ ?_ _ _ ⟨rfl,rfl,hi.ints hv⟩
 ·rintro v rest r s' ⟨hr,rfl,hall⟩;obtain⟨i,tk,rfl⟩:=hall v Af;rw[qD];refine Aa (Ad ?_)
  ac_rfl
  exact Ad ⟨rfl,rfl,λu hu'=>hall u (Ae _ hu')⟩
 ·rintro⟨r1,r2⟩ s' ⟨hr,rfl,_⟩;simp only at hr;subst hr;exact Ad h
def oW(hv:∀k v,knd.is k v=true->∃i tk,v=Cv i tk){x:K×List K}(hk:bJ knd s.heap x a)(h:Q true s):wpAny (model prog w) A (hashByValue 8 (.ref a)) Q E s:=by
 have hT:=hk.typeIs;obtain⟨o,v,b,m,ho,_,hd,h1,h2⟩:=hk;unfold hashByValue;refine Aa (Dh hT F.slot_tuple_hash.lookup ?_);show wpAny _ _ (seqItems? (.ref a)>>=_) _ _ s;refine Aa (Fm ho hd ?_);refine Aa ?_;show wpAny _ _ (forIn _ _ _) _ _ s;rw[<-Dv];refine Cr _ (λrest r s'=>r.1=none/\s'=s/\∀u∈rest,u=v∨u=.ref b) _ ?_ ?_ _ _ ⟨rfl,rfl,λu hu=>by simpa using hu⟩
 ·rintro u rest r s' ⟨hr,rfl,hall⟩;rcases hall u Af with rfl|rfl
  ·obtain⟨i,tk,rfl⟩:=hv _ _ h1;rw[qD];refine Aa (Ad ?_)
   ac_rfl
   exact Ad ⟨rfl,rfl,λu hu'=>hall u (Ae _ hu')⟩
  ·refine Aa (oG hv h2 ?_)
   ac_rfl
   exact Ad ⟨rfl,rfl,λu hu'=>hall u (Ae _ hu')⟩
 ·rintro⟨r1,r2⟩ s' ⟨hr,rfl,_⟩;simp only at hr;subst hr;exact Ad h
def rR{ks:List K}(hk:IsTupleKey knd s.heap ks a)(h:Q false s):wpAny (model prog w) A (ofAClassStatement (n+1) (.ref a)) Q E s:=by
 have hT:=hk.typeIs;obtain⟨o,items,m,ho,_,hd,hi⟩:=hk;unfold ofAClassStatement;refine Aa (Ht hT ?_);dsimp only;simp only[beq_self_eq_true,if_true];refine Aa (Ad ?_)
 ac_rfl
 refine Aa (Fm ho hd ?_);dsimp only;refine Aa ?_;rw[<-Dv];refine Cr _ (λrest r s'=>r.1=none/\s'=s/\∀v∈rest,carriedByValue v=true) _ ?_ ?_ _ _ ⟨rfl,rfl,hi.byValue⟩
 ·rintro v rest r s' ⟨hr,rfl,hall⟩;rw[uV _ (hall v Af)];refine Aa (Ad ?_)
  ac_rfl
  exact Ad ⟨rfl,rfl,λu hu'=>hall u (Ae _ hu')⟩
 ·rintro⟨r1,r2⟩ s' ⟨hr,rfl,_⟩;simp only at hr;subst hr;exact Ad h
def tD{x:K×List K}(hk:bJ knd s.heap x a)(h:Q false s):wpAny (model prog w) A (ofAClassStatement 8 (.ref a)) Q E s:=by
 have hT:=hk.typeIs;obtain⟨o,v,b,m,ho,_,hd,h1,h2⟩:=hk;unfold ofAClassStatement;refine Aa (Ht hT ?_);dsimp only;simp only[beq_self_eq_true,if_true];refine Aa (Ad ?_)
 ac_rfl
 refine Aa (Fm ho hd ?_);dsimp only;refine Aa ?_;rw[<-Dv];refine Cr _ (λrest r s'=>r.1=none/\s'=s/\∀u∈rest,u=v∨u=.ref b) _ ?_ ?_ _ _ ⟨rfl,rfl,λu hu=>by simpa using hu⟩
 ·rintro u rest r s' ⟨hr,rfl,hall⟩;rcases hall u Af with rfl|rfl
  ·rw[uV _ (knd.byValue _ _ h1)];refine Aa (Ad ?_)
   ac_rfl
   exact Ad ⟨rfl,rfl,λu hu'=>hall u (Ae _ hu')⟩
  ·refine Aa (rR h2 ?_)
   ac_rfl
   exact Ad ⟨rfl,rfl,λu hu'=>hall u (Ae _ hu')⟩
 ·rintro⟨r1,r2⟩ s' ⟨hr,rfl,_⟩;simp only at hr;subst hr;exact Ad h
def IsTupleKey.monoS{ks:List K}(x:IsTupleKey knd h ks a)(hs:∀b o,o.cls=.type "tuple"->h.get? b=some o->h'.get? b=some o):IsTupleKey knd h' ks a:=by
 obtain⟨o',items,n,ho',hc,hd',hi⟩:=x;exact⟨o',items,n,hs _ _ hc ho',hc,hd',hi⟩
def bJ.monoS{x:K×List K}(hx:bJ knd h x a)(hs:∀b o,o.cls=.type "tuple"->h.get? b=some o->h'.get? b=some o):bJ knd h' x a:=by
 obtain⟨o',v,b,n,ho',hc,hd',h1,h2⟩:=hx;exact⟨o',v,b,n,hs _ _ hc ho',hc,hd',h1,h2.monoS hs⟩
def aMr(hv:∀k v,knd.is k v=true->∃i tk,v=Cv i tk):tK (cT knd) where
 mono:=λx hs=>bJ.monoS x hs
 byValue:=λx h=>oW hv x h
 plain:=λx h=>tD x h
end
namespace F
def dB:Slot "set_iterator" "__next__" "set_iterator.__next__":=
 .of (owner:="set_iterator") (n:="__next__") (by rw[Xf,Rw];kernel_rfl) (by decide+kernel) (by decide+kernel) (by decide+kernel)
  (by first|exact .inl (by decide+kernel)|exact .inr (by decide+kernel)) (by rw[Pp];kernel_rfl)
def jB:Slot "set_iterator" "__iter__" "set_iterator.__iter__":=
 .of (owner:="set_iterator") (n:="__iter__") (by rw[Xf,Rw];kernel_rfl) (by decide+kernel) (by decide+kernel) (by decide+kernel)
  (by first|exact .inl (by decide+kernel)|exact .inr (by decide+kernel)) (by rw[Pp];kernel_rfl)
def oV:entryFor table "set_iterator.__next__"=some Builtin.«set_iterator.__next__»:=entryFor_of_tree (by kernel_rfl)
def oE:entryFor table "set_iterator.__iter__"=some Builtin.«dict_keyiterator.__iter__»:=
 entryFor_alias (id':="dict_keyiterator.__iter__") (by kernel_rfl) (by first|rfl|decide+kernel) (by decide+kernel) (by kernel_rfl)
def aAu:entryFor table "set.__iter__"=some Builtin.«frozenset.__iter__»:=
 entryFor_alias (id':="frozenset.__iter__") (by kernel_rfl) (by first|rfl|decide+kernel) (by decide+kernel) (by kernel_rfl)
def lX:Manifest.owners.lookup (String.ofList ['r','o','t','a','r','e','t','i','_','t','e','s'].reverse)=some Manifest.sig_set_iterator:=by kernel_rfl
def nQ(a:Value):argsOk "set_iterator.__next__" ⟨[a],[]⟩:=by
 unfold argsOk;rw[signature?_of (id:="set_iterator.__next__") (n:=['_','_','t','x','e','n','_','_']) (o:=['r','o','t','a','r','e','t','i','_','t','e','s']) (by kernel_rfl) lX];kernel_rfl
def nG(a:Value):argsOk "set_iterator.__iter__" ⟨[a],[]⟩:=by
 unfold argsOk;rw[signature?_of (id:="set_iterator.__iter__") (n:=['_','_','r','e','t','i','_','_']) (o:=['r','o','t','a','r','e','t','i','_','t','e','s']) (by kernel_rfl) lX];kernel_rfl
end F
theorem fL{α:Type}:∀{l:List α}{n:Nat}(h:n<l.length),(l[n]::l.eraseIdx n).Perm l
 | [],_,h=>absurd h (Df _)
 |a::l,0,_=>Fu _
 |a::l,n+1,h=>by
  have h':n<l.length:=Pd h;show(l[n]::a::l.eraseIdx n).Perm (a::l);exact(Lq _ _ _).trans ((fL (Pd h)).cons a)
def aBf(next:Nat->Nat)(xs:Array α):(pickOrder next xs).toList.Perm xs.toList:=by
 have go:∀(fuel k:Nat)(left:List α)(out:Array α),left.length=fuel->(My next fuel k left out).toList.Perm (out.toList++left):=by
  intro fuel;induction fuel with
  |zero=>
   intro k left out h;have:left=[]:=List.length_eq_zero_iff.mp h;subst this;simp[My]
  |succ fuel ih=>
   intro k left out h;have hlt:next k % left.length<left.length:=Lm _ ∅;rw[My,Aj hlt];dsimp only;refine(ih _ _ _ (by rw[List.length_eraseIdx_of_lt hlt];lia)).trans ?_;rw[Array.toList_push,Bi];refine Ni _ ?_;exact fL hlt
 exact go xs.size 0 xs.toList #[] (by simp)
section
variable {prog:Program}{w:World}{A:Around}{E:Value->Shared->Prop}{s:Shared}
def gU(w:World)(S:Addr)(es:Array (Int×Value))(ep:Nat):List Value:=if w.params.followText "set-order"=true then(pickOrder (w.params.setOrder S ep) es).toList.map (·.2)else es.toList.map (·.2)
def jX(w:World)(S:Addr)(es:Array (Int×Value))(ep:Nat):(gU w S es ep).Perm (es.toList.map (·.2)):=by
 unfold gU;split
 ·exact(aBf _ _).map _
 ·exact Fu _
def aAd(w:World)(t:SetTable)(slot i:Nat):Prop:=w.params.followText "set-order"=true∨By t.place slot=i
def aIc(R:SetTable.uF xs){i:Nat}(h:i<xs.size):By xs (xs.getD i 0+1)=i+1:=by
 obtain⟨h1,h2,h3⟩:=SetTable.iC R (xs.getD i 0+1);rcases Lo (By xs (xs.getD i 0+1)) (i+1)with z|z|z
 ·have:=h3 i ∅ h
  lia
 ·exact z
 ·have:=h2 (i+1) z;have:=R i (i+1) ∅ ∅
  lia
def aBp{S:Addr}{o:Obj}{es:Array (Int×Value)}{ep:Nat}{t:SetTable}{slot i:Nat}{Q:Option (Value×Nat)->Shared->Prop}(ho:s.heap.get? S=some o)(hd:o.data=.set es ep t)(hf:t.fits es.size=true)(hr:SetTable.uF t.place)(hpl:t.plain=true)(hl:t.led= !w.params.followText "set-order")
  (hs:aAd w t slot i) (h1:∀v slot',(gU w S es ep)[i]? =some v->aAd w t slot' (i+1)->Q (some (v,slot')) s) (h2:es.size<=i->Q none s):wpAny (model prog w) A (setNext S slot i ep) Q E s:=by
 have psz:t.place.size=es.size:=by
  simp only[Rf,Ek,beq_iff_eq,decide_eq_true_eq]at hf;exact hf.1
 unfold setNext setsByText;refine Aa (Dt ho hd hf ?_);dsimp only;refine Aa (Aa (Ib (Ad ?_)));dsimp only[model];have olen:(gU w S es ep).length=es.size:=by rw[(jX w S es ep).length_eq,Ab,Ao]
 cases hb:w.params.followText "set-order"
 ·ac_rfl
  have hs:By t.place slot=i:=by
   rcases hs with z|z
   ·rw[hb]at z;cases z
   ·exact z
  show wpAny _ _ (if(!t.plain && decide (es.size>1))=true then _ else _) _ _ _;rw[hpl];simp only[Kx,Ik,Cu,if_false];show wpAny _ _ ((if(!t.led && !es.isEmpty)=true then _ else _)>>=_) _ _ _;rw[hl,hb];simp only[Hj,Kx,Ik,Cu,if_false];refine Aa (Ad ?_);rw[hs];have eo:(gU w S es ep)[i]? =(es[i]?).map (·.2):=by
   unfold gU;rw[hb];simp
  by_cases hi:i<es.size
  ·have hp:i<t.place.size:=by lia
   rw[Bc hi,Bc hp];refine Ad (h1 _ _ (by rw[eo,Bc hi];rfl) (.inr ?_));have:=aIc hr hp;simpa[Eu,hp]using this
  ·rw[Oq ∅];exact Ad (h2 ∅)
 ·simp only[if_true];rw[if_neg (by simp)];unfold setWalk setsByText;refine Aa (Aa (Dt ho hd hf ?_));dsimp only;refine Aa (Aa (Ib (Ad ?_)));dsimp only[model];rw[hb];simp only[if_true];refine Aa (Ib ?_);refine Ad ?_;dsimp only[model];have eo:(gU w S es ep)[i]? =((pickOrder (w.params.setOrder S ep) es)[i]?).map (·.2):=by
   unfold gU;rw[hb];simp
  cases hg:(pickOrder (w.params.setOrder S ep) es)[i]? with
  |none=>
   rw[hg]at eo;have:=List.getElem?_eq_none_iff.mp eo;exact Ad (h2 ∅)
  |some e=>
   rw[hg]at eo;exact Ad (h1 _ _ eo (.inl hb))
def oK(h:Heap)(I S:Addr)(slot i n ep:Nat):Prop:=∃o,h.get? I=some o/\o.cls=.type "set_iterator"/\o.data=.fields #[.int slot 0,.int i 0,.ref S,.int n 0,.int ep 0]
def oK.typeIs{I S:Addr}{slot i n ep:Nat}(h:oK s.heap I S slot i n ep):s.TypeIs (.ref I) "set_iterator":=let⟨o,ho,hc,_⟩:=h;⟨o,ho,hc⟩
variable {I S:Addr}{o:Obj}{es:Array (Int×Value)}{ep:Nat}{t:SetTable}{slot i:Nat}
def oJ{Q:Option Value->Shared->Prop}(hh:A.handled=none)(hit:oK s.heap I S slot i es.size ep)(ho:s.heap.get? S=some o)(hd:o.data=.set es ep t)(hf:t.fits es.size=true)(hr:SetTable.uF t.place)(hpl:t.plain=true)(hl:t.led= !w.params.followText "set-order")
  (hs:aAd w t slot i) (h1:∀v slot' h',(gU w S es ep)[i]? =some v->aAd w t slot' (i+1)->oK h' I S slot' (i+1) es.size ep->Cg I s.heap h'->Q (some v) {s with heap:=h'}) (h2:es.size<=i->∀h',Wt I s.heap h'->Q none {s with heap:=h'}):
  wpAny (model prog w) A (pyNext (.ref I)) Q E s:=by
 obtain⟨oi,hoi,hci,hdi⟩:=id hit;unfold pyNext;refine Aa (Ql (Hb (name:=As "__next__") hit.typeIs F.dB
  (Ca F.dB hit.typeIs F.oV ?_ (F.nQ _))))
 unfold Builtin.«set_iterator.__next__»;refine Aa (m:=slotArgs "__next__" 0 _) (Ad ?_);refine Aa (Pl hoi hdi ?_);dsimp only;refine Aa (Ss ho hd hf ?_);rw[if_neg (by simp)];simp only[Hi];refine Aa (aBp ho hd hf hr hpl hl hs (λv slot' e ok=>?_) λhge=>?_)
 ·dsimp only;refine Aa (Jb hoi hdi (by simp) ?_);have hoi2:=Bn (Oy (·.setIfInBounds 0 (rawInt slot'))) hoi (Jv (Fg hdi _));have hdi2:=Fg hdi (·.setIfInBounds 0 (rawInt slot'));refine Aa (Jb hoi2 hdi2 (by simp) ?_);refine Ad ⟨_,rfl,Ad (h1 v slot' _ e ok ⟨_,Bn _ hoi2 (Jv (Fg hdi2 _)),(Lk ..).trans ((Lk ..).trans hci),by rw[Fg hdi2];simp[rawInt]⟩ (Nk (Bo ..) (Bo ..)))⟩
 ·dsimp only;refine Aa (Jb hoi hdi (by simp) ?_);show wpAny _ _ (newExc (.type "StopIteration") []>>=_) _ _ _;refine Aa ?_;simp only[newExc,newTuple];refine Aa (Bz ?_ (by size_fits));refine Aa (m:=firstArgMember _ _) (Ot (a:=Ce) (by first|rfl|(simp only[firstArgMember];rfl)) ?_);refine Bz ?_ (by size_fits);simp only[raiseNew];refine Aa (wpAny_handled ?_);rw[show A.in1.handled=none from hh];refine Aa (Ad (wpAny_throw ?_));refine Aa (Dm (T:="StopIteration") (b:=true) ⟨_,Ap _ rfl,rfl⟩ isSubtype_stop ?_);exact Ad (h2 hge _ (((Bo ..).extBut.push _).push _))
def Walks.set(hh:A.handled=none)(hne:S≠I)(o:Obj)(hd:o.data=.set es ep t)(hf:t.fits es.size=true)(hr:SetTable.uF t.place)(hpl:t.plain=true)(hl:t.led= !w.params.followText "set-order"):
  Walks prog w A I [I,S] [I] es.size (λi v=>(gU w S es ep)[i]? =some v) (λi h=>(∃slot,oK h I S slot i es.size ep/\aAd w t slot i)/\h.get? S=some o) where
 sub:=λb hb=>by simp at hb;simp[hb]
 frame:=λ_ _ _ st hk=>by
  obtain⟨⟨slot,⟨oi,h1,h2⟩,h3⟩,h4⟩:=st;exact⟨⟨slot,⟨oi,hk I (by simp) _ h1,h2⟩,h3⟩,hk S (by simp) _ h4⟩
 item:=λi s Q E hi st hQ=>by
  obtain⟨⟨slot,h1,h3⟩,h4⟩:=st;refine oJ hh h1 h4 hd hf hr hpl hl h3 (λv slot' h' e ok it' sb=>?_) λhge=>absurd hi ∅;exact hQ _ h' s.toks e ⟨⟨slot',it',ok⟩,(sb.2 S hne).trans h4⟩ λb o hb e=>sb.extBut b o (λh=>hb (by simp[h])) e
 done:=λs Q E st hQ=>by
  obtain⟨⟨slot,h1,h3⟩,h4⟩:=st;refine oJ hh h1 h4 hd hf hr hpl hl h3 (λv slot' h' e ok it' sb=>?_) λhge h' he'=>hQ h' s.toks λb o hb e=>he' b o (λh=>hb (by simp[h])) e;have olen:(gU w S es ep).length=es.size:=by rw[(jX w S es ep).length_eq,Ab,Ao]
  rw[Co ∅]at e;cases e
 self:=λ_ _ _ _ st hQ=>by
  obtain⟨⟨slot,h1,h3⟩,h4⟩:=st;refine Mw h1.typeIs F.jB (Ca F.jB h1.typeIs F.oE ?_ (F.nG _));show wpAny _ _ (ret (.ref I)) _ _ _;exact Ad ⟨_,rfl,"set_iterator",_,h1.typeIs,F.dB.lookup,hQ⟩
end
namespace F
def aEg:isSubtype (.type "set") (.type "set")=pure true:=by rw[Pp];kernel_rfl
end F
section
variable {prog:Program}{w:World}{A:Around}{E:Value->Shared->Prop}{s:Shared}{I S:Addr}{o:Obj}{es:Array (Int×Value)}{ep:Nat}{t:SetTable}
def xP{Q:Value->Shared->Prop}(ho:s.heap.get? S=some o)(hex:o.ExactSet)(hd:o.data=.set es ep t)(hf:t.fits es.size=true)(hpl:t.plain=true)
  (hQ:Q (.ref s.heap.objs.size) {s with heap:=s.heap.push {cls:=.type "set_iterator",data:=.fields #[.int 0 0,.int 0 0,.ref S,.int es.size 0,.int ep 0]}}):wpAny (model prog w) A (pyIter (.ref S)) Q E s:=by
 have hT:s.TypeIs (.ref S) "set":=⟨o,ho,hex.1⟩;refine Mw hT Vh (Ca Vh hT F.aAu ?_ (F.args_set_iter_1 _));unfold Builtin.«frozenset.__iter__»;refine Aa (m:=Sh "__iter__" _) (Ad ?_);unfold Si;refine Aa (Aa (Ss ho hd hf (Ad ?_)));unfold setDrawn setsByText;refine Aa (Aa (Dt ho hd hf ?_));dsimp only;refine Aa (Aa (Ib (Ad ?_)));show wpAny _ _ (pure (!(model prog w).w.params.followText "set-order" && (!t.plain && decide (es.size>1)))) _ _ _;rw[hpl];simp only[Kx,Ik,Gg];refine Ad ?_
 ac_rfl
 refine Aa (Ad ?_);refine Aa (wpAny_setEpoch_of ho hd hf ?_);unfold newFields;refine Aa (Bz (Ad ⟨_,rfl,"set_iterator",_,⟨_,Ap _ rfl,rfl⟩,F.dB.lookup,?_⟩));simpa[rawInt]using hQ
def mO{Q:List Value->Shared->Prop}(hh:A.handled=none)(ho:s.heap.get? S=some o)(hex:o.ExactSet)(hd:o.data=.set es ep t)(hf:t.fits es.size=true)(hr:SetTable.uF t.place)(hpl:t.plain=true)(hl:t.led= !w.params.followText "set-order")(hn:es.size<=sizeLine)
  (hQ:∀h' tk,s.heap.objs.size<h'.objs.size->(∀b o,s.heap.get? b=some o->h'.get? b=some o)->Q (gU w S es ep) {s with heap:=h',toks:=tk}):wpAny (model prog w) A (collect (.ref S)) Q E s:=by
 have hSlt:S<s.heap.objs.size:=Ar ho;unfold collect;refine Aa (Pk (Cz F.entry_proto_collect ?_));rw[Cb F.plain_proto_collect _];show wpAny _ A.in1 (newList []>>=λl=>again (.builtin "list.__iadd__" ⟨[l,.ref S],[]⟩)) _ _ s;refine Aa (Bz ?_);refine Ad ⟨Ee Tq _,Cz F.entry_list_iadd ?_⟩;rw[Cb Tq _];have ho1:(s.heap.push {cls:=.type "list",data:=.seq ([]:List Value).toArray}).get? S=some o:=Ai _ ho;have hT1:Kg {s with heap:=s.heap.push {cls:=.type "list",data:=.seq ([]:List Value).toArray}} (.ref S) "set":=⟨o,ho1,hex.1⟩;have hS₁:(s.heap.push {cls:=.type "list",data:=.seq ([]:List Value).toArray}).get? s.heap.objs.size=some {cls:=.type "list",data:=.seq ([]:List Value).toArray}:=Ap _ rfl;have hne:s.heap.objs.size≠S:=Ij hSlt;have h1:La (.ref s.heap.objs.size) (.ref S)=false:=by simp[La,hne]
 show wpAny _ A.in1 (Gz (.ref s.heap.objs.size) (.ref S) (.ref s.heap.objs.size)) _ _ _;unfold Gz;refine Aa (Ht hT1 ?_);rw[if_neg (by rw[h1];decide)];refine Aa (xP ho1 hex hd hf hpl ?_);have esz:(s.heap.push {cls:=.type "list",data:=.seq ([]:List Value).toArray}).objs.size=s.heap.objs.size+1:=Dp ..;rw[esz];generalize hH2:(s.heap.push {cls:=.type "list",data:=.seq ([]:List Value).toArray}).push {cls:=.type "set_iterator",data:=.fields #[.int 0 0,.int 0 0,.ref S,.int es.size 0,.int ep 0]}=H2;have keep2:∀b o,s.heap.get? b=some o->H2.get? b=some o:=λb o e=>by rw[<-hH2];exact Ai _ (Ai _ e)
 have ho2:H2.get? S=some o:=keep2 _ _ ho;have hL2:H2.get? s.heap.objs.size=some {cls:=.type "list",data:=.seq ([]:List Value).toArray}:=by rw[<-hH2];exact Ai _ hS₁
 have hI2:H2.get? (s.heap.objs.size+1)=some {cls:=.type "set_iterator",data:=.fields #[.int 0 0,.int 0 0,.ref S,.int es.size 0,.int ep 0]}:=by rw[<-hH2, <-esz];exact Ap _ rfl
 have hT2:Kg {s with heap:=H2} (.ref S) "set":=⟨o,ho2,hex.1⟩;refine Aa (Bp ?_);unfold Wy;refine Aa (Dh hT2 F.slot_set_len.lookup ?_)
 (generalize hid:("set.__len__":String)=id0;(fail_if_success (clear hid id0));wp_delta;rw[show splitId id0=some ("set","__len__")from by subst hid;decide+kernel];subst hid)
 refine Aa (Dm (b:=true) hT2 F.aEg ?_)
 ac_rfl
 rw[if_pos (by decide+kernel)];refine Aa (Ht hT2 ?_);refine Ad ?_;rw[if_pos (by decide+kernel)];show wpAny _ A.in1 (rule "list.extend.makes-room">>=λ_=>Wx (.ref s.heap.objs.size)>>=λ_=>
  again (.builtin "list.extend.loop" ⟨[.ref s.heap.objs.size,.ref (s.heap.objs.size+1),.ref s.heap.objs.size],[]⟩)) _ _ _
 refine Aa (Jl ?_);refine Aa ?_;show wpAny _ A.in1 (updateSeq s.heap.objs.size (·.push .none)>>=λ_=>updateSeq s.heap.objs.size (·.pop)) _ _ _;refine Aa (Il hL2 rfl ?_);have hS₂:=Bn (Dy (·.push Ce)) hL2 rfl;refine Il hS₂ rfl ?_;have hS₃:=Bn (Dy (·.pop)) hS₂ rfl;have oth:∀b o,b≠s.heap.objs.size->H2.get? b=some o->((H2.update s.heap.objs.size (Dy (·.push Ce))).update s.heap.objs.size (Dy (·.pop))).get? b=some o:=
  λb o hb e=>(Ci _ _ (Cy hb)).trans ((Ci _ _ (Cy hb)).trans e)
 have hneI:S≠s.heap.objs.size+1:=Az (Ey hSlt);have W:=(Walks.set (prog:=prog) (A:=A.in1) (I:=s.heap.objs.size+1) (S:=S) (by simp[hh]) hneI o hd hf hr hpl hl).toS;have hSf:s.heap.objs.size∉[s.heap.objs.size+1,S]:=by
  simp only[Fc,Gs,Ei,or_false,not_or];exact⟨Az (El _),hne⟩
 refine Ad ⟨Ee F.plain_extend_loop _,codeAny_extend_loopS W hn _ hSf _ es.size 0 _ _ _ rfl (Ay _)
  ⟨⟨0,⟨_,oth _ _ (Ij (El _)) hI2,rfl,rfl⟩,.inr ?_⟩,oth _ _ hne.symm ho2⟩ hS₃ (ItemsOf.nil _) λs' acc' c' hm hS' hacc=>?_⟩
 ·have:=(SetTable.iC hr 0).2.1;rcases Fh (By t.place 0)with z|z
  ·exact z
  ·exact absurd (this 0 z) (Df _)
 ·show wpAny _ A (load s.heap.objs.size>>=_) _ _ s';refine Aa (Mx hS' ?_);obtain⟨h',g',d',tk',os'⟩:=s';have eg:g'=s.gens:=hm.gens;have ed:d'=s.drawn:=hm.drawn;have eo:os'=s.os:=hm.os;subst eg;subst ed;subst eo;have ea:acc'.toList=gU w S es ep:=by
   apply Lf;intro j;have olen:(gU w S es ep).length=es.size:=by rw[(jX w S es ep).length_eq,Ab,Ao]
   by_cases hj:j<acc'.size
   ·rw[Bl,Bc hj];exact(hacc.2 j _ (Bc hj)).symm
   ·rw[Co (by rw[Ao];lia),Co (by rw[olen, <-hacc.1];lia)]
  refine Ad ?_;rw[ea];refine hQ h' tk' (Ar hS') λb o e=>?_;have hb:b<s.heap.objs.size:=Ar e;exact hm.heap b o (by simp only[Fc,Gs,Ei,or_false,not_or];exact⟨Az hb,Az (Ey hb)⟩) (oth b o (Az hb) (keep2 b o e))
end
end PySem
namespace PySem.W
open PyProof.Rows
def KasT.Way{α:Type}(lt:Nat->Nat->Bool)(P:Nat->Prop):KasT α->(α->Prop)->Prop
 |.ret a,Q=>Q a
 |.ask i j k,Q=>P i/\P j/\(k (lt i j)).Way lt P Q
variable {lt:Nat->Nat->Bool}{P:Nat->Prop}
def KasT.way_bind{α β:Type}{f:α->KasT β}{Q:β->Prop}:∀(t:KasT α),t.Way lt P (λa=>(f a).Way lt P Q)->(t.bind f).Way lt P Q
 |.ret _,h=>h
 |.ask i j k,h=>⟨h.1,h.2.1,KasT.way_bind (k (lt i j)) h.2.2⟩
def KasT.way_mono{α:Type}{Q Q':α->Prop}(hq:∀a,Q a->Q' a):∀(t:KasT α),t.Way lt P Q->t.Way lt P Q'
 |.ret _,h=>hq _ h
 |.ask i j k,h=>⟨h.1,h.2.1,KasT.way_mono hq (k (lt i j)) h.2.2⟩
def KasT.way_wp{α:Type}{cmp:Nat->Nat->(Bool->Shared->Prop)->Shared->Prop}{s:Shared}(hc:∀i j C,P i->P j->C (lt i j) s->cmp i j C s){Q:α->Prop}{G:α->Shared->Prop}(hg:∀a,Q a->G a s):∀(t:KasT α),t.Way lt P Q->t.kasWp cmp G s
 |.ret _,h=>hg _ h
 |.ask i j k,h=>hc i j _ h.1 h.2.1 (KasT.way_wp hc hg (k (lt i j)) h.2.2)
structure pC(n:Nat)(lt:Nat->Nat->Bool):Prop where
 tot:∀i j,i<n->j<n->i≠j->lt i j=true∨lt j i=true
 asym:∀i j,lt i j=true->lt j i=false
 trans:∀i j k,lt i j=true->lt j k=true->lt i k=true
def vAt(p:Array Nat)(i:Nat):Nat:=p.getD i 0
def mG(n:Nat)(p:Array Nat):Prop:=p.toList.Perm (Br n)
variable {n:Nat}{p:Array Nat}
def mG.size(h:mG n p):p.size=n:=by have:=h.length_eq;rw[Da,Ao]at this;exact this
def jW{p:Array Nat}{i:Nat}:vAt p i=(p[i]?).getD 0:=by
 unfold vAt Eu;by_cases h:i<p.size
 ·simp[h]
 ·simp[h]
def mG.low(h:mG n p)(hn:0<n)(i:Nat):vAt p i<n:=by
 rw[jW];cases e:p[i]? with
 |none=>exact hn
 |some x=>
  have:x∈p.toList:=Ba (by rw[Bl];exact e);exact List.mem_range.mp (h.mem_iff.mp this)
def mG.inj(h:mG n p){i j:Nat}(hi:i<n)(hj:j<n)(e:i≠j):vAt p i≠vAt p j:=by
 have nd:p.toList.Nodup:=h.nodup_iff.mpr Jd;have si:i<p.toList.length:=by rw[Ao,h.size];exact hi
 have sj:j<p.toList.length:=by rw[Ao,h.size];exact hj
 intro z;have h1:vAt p i=p.toList[i]:=by rw[jW, <-Bl,Aj si];rfl
 have h2:vAt p j=p.toList[j]:=by rw[jW, <-Bl,Aj sj];rfl
 rw[h1,h2]at z;exact e ((Je nd).mp z)
def mG.perm{q:Array Nat}(h:mG n p)(e:q.Perm p):mG n q:=(Array.perm_iff_toList_perm.mp e).trans h
def mZ(lt:Nat->Nat->Bool)(p:Array Nat)(k:Nat):Prop:=∀i j,i<j->j<k->lt (vAt p i) (vAt p j)=true
def aCc(lt:Nat->Nat->Bool)(p:Array Nat)(k:Nat):Prop:=∀i j,i<j->j<k->lt (vAt p j) (vAt p i)=true
def mZ.more(S:pC n lt){k:Nat}(h:mZ lt p k)(hk:1<=k)(e:lt (vAt p (k-1)) (vAt p k)=true):mZ lt p (k+1):=λi j hi hj=>by
 by_cases z:j<k
 ·exact h i j hi z
 ·obtain rfl:j=k:=by lia
  by_cases y:i=j-1
  ·subst y;exact e
  ·exact S.trans _ _ _ (h i (j-1) ∅ ∅) e
def aCc.more(S:pC n lt){k:Nat}(h:aCc lt p k)(hk:1<=k)(e:lt (vAt p k) (vAt p (k-1))=true):aCc lt p (k+1):=λi j hi hj=>by
 by_cases z:j<k
 ·exact h i j hi z
 ·obtain rfl:j=k:=by lia
  by_cases y:i=j-1
  ·subst y;exact e
  ·exact S.trans _ _ _ e (h i (j-1) ∅ ∅)
theorem aDg(S:pC n lt)(hn:0<n)(T:mG n p):∀(f k:Nat),1<=k->k+f=n->mZ lt p k->(kas_asc p f k).Way lt (·<n) λm=>mZ lt p m/\k<=m/\m<=n/\(m=n∨lt (vAt p m) (vAt p (m-1))=true)
 |0,k,h1,h2,h3=>⟨h3,Am _,∅,.inl ∅⟩
 |f+1,k,h1,h2,h3=>by
  refine⟨T.low hn k,T.low hn (k-1),?_⟩;show KasT.Way lt (·<n) (if lt (vAt p k) (vAt p (k-1))=true then _ else _) _;by_cases c:lt (vAt p k) (vAt p (k-1))=true
  ·rw[if_pos c];exact⟨h3,Am _,∅,.inr c⟩
  ·rw[if_neg c];have c':=(S.tot _ _ (T.low hn k) (T.low hn (k-1)) (T.inj ∅ ∅ ∅)).resolve_left c;exact KasT.way_mono (λm z=>⟨z.1,∅,z.2.2⟩) _ (aDg S hn T f (k+1) ∅ ∅ (h3.more S h1 c'))
theorem aFd(S:pC n lt)(hn:0<n)(T:mG n p):∀(f k:Nat),1<=k->k+f=n->aCc lt p k->(kas_desc f p k 0).Way lt (·<n) λr=>r.1=p/\r.2.2=0/\aCc lt p r.2.1/\k<=r.2.1/\r.2.1<=n
 |0,k,h1,h2,h3=>⟨rfl,rfl,h3,Am _,by show k<=n;lia⟩
 |f+1,k,h1,h2,h3=>by
  refine⟨T.low hn k,T.low hn (k-1),?_⟩;show KasT.Way lt (·<n) (if lt (vAt p k) (vAt p (k-1))=true then _ else _) _;by_cases c:lt (vAt p k) (vAt p (k-1))=true
  ·rw[if_pos c,if_neg ∅];exact KasT.way_mono (λm z=>⟨z.1,z.2.1,z.2.2.1,∅,z.2.2.2.2⟩) _ (aFd S hn T f (k+1) ∅ ∅ (h3.more S h1 c))
  ·rw[if_neg c];refine⟨T.low hn (k-1),T.low hn k,?_⟩;have c':=(S.tot _ _ (T.low hn k) (T.low hn (k-1)) (T.inj ∅ ∅ ∅)).resolve_left c;show KasT.Way lt (·<n) (if lt (vAt p (k-1)) (vAt p k)=true then _ else _) _;rw[if_pos c'];exact⟨rfl,rfl,h3,Am _,by show k<=n;lia⟩
def aNz{m:Nat}(hm:m<=p.size)(i:Nat):vAt (kas_rev p 0 m) i=if i<m then vAt p (m-1-i)else vAt p i:=by
 rw[jW,kas_rev,getElem?_mirror_all hm];by_cases h:i<m
 ·rw[if_pos ⟨Ay _,h⟩,if_pos h,jW,Ii]
 ·rw[if_neg (λz=>h z.2),if_neg h,jW]
def aK0(S:pC n lt)(hn:0<n)(T:mG n p):(kas_count n p).Way lt (·<n) λr=>mG n r.2/\mZ lt r.2 r.1/\1<=r.1/\r.1<=n:=by
 refine KasT.way_bind _ (KasT.way_mono (λm z=>?_) _ (aDg S hn T (n-1) 1 (Am _) ∅ λi j h1 h2=>by lia));obtain⟨z1,z2,z3,z4⟩:=z;by_cases e:m=n
 ·rw[if_pos (beq_iff_eq.mpr e)];exact⟨T,z1,z2,z3⟩
 ·rw[if_neg (λy=>e (beq_iff_eq.mp y))];have z4:=z4.resolve_left e;by_cases g:m>1
  ·rw[if_pos g];refine⟨T.low hn 0,T.low hn (m-1),?_⟩;have c:lt (p.getD 0 0) (p.getD (m-1) 0)=true:=z1 0 (m-1) ∅ ∅;rw[c];dsimp only;rw[if_pos rfl];exact⟨T,z1,z2,z3⟩
  ·rw[if_neg g];obtain rfl:m=1:=by lia
   refine KasT.way_bind _ (KasT.way_mono (λr y=>?_) _ (aFd S hn T (n-(1+1)) (1+1) ∅ ∅ λi j h1 h2=>?_))
   ·obtain⟨q,k,w⟩:=r;obtain⟨y1,y2,y3,y4,y5⟩:=y;have y1:q=p:=y1;have y2:w=0:=y2;subst y1 y2;show KasT.Way lt (·<n) (if 0>0 then _ else _) _;rw[if_neg ∅];have y3:aCc lt q k:=y3;have y4:2<=k:=y4;have y5:k<=n:=y5;have T':mG n (kas_rev q 0 k):=T.perm (mirror_perm ..);have hs:k<=q.size:=by rw[T.size];exact y5
    refine KasT.way_bind _ (KasT.way_mono (λm' x=>?_) _ (aDg S hn T' (n-k) k ∅ ∅ λi j h1 h2=>?_))
    ·exact⟨T',x.1,by have:=x.2.1;show 1<=m';lia,x.2.2.1⟩
    ·rw[aNz hs,aNz hs,if_pos ∅,if_pos h2];exact y3 _ _ ∅ ∅
   ·obtain rfl:i=0:=by lia
    obtain rfl:j=1:=by lia
    exact z4
theorem xG(S:pC n lt)(hn:0<n)(T:mG n p){k:Nat}(hk:k<n)(R:mZ lt p k):∀(f l r:Nat),l<=r->r<=k->r-l<=f->(∀i,i<l->lt (vAt p i) (vAt p k)=true)->(∀i,r<=i->i<k->lt (vAt p k) (vAt p i)=true)->
  (kas_place p k f l r).Way lt (·<n) λm=>m<=k/\(∀i,i<m->lt (vAt p i) (vAt p k)=true)/\∀i,m<=i->i<k->lt (vAt p k) (vAt p i)=true
 |0,l,r,h1,h2,h3,a,b=>by
  obtain rfl:l=r:=by lia
  exact⟨h2,a,b⟩
 |f+1,l,r,h1,h2,h3,a,b=>by
  show KasT.Way lt (·<n) (if l≥r then _ else _) _;by_cases e:l≥r
  ·rw[if_pos e];obtain rfl:l=r:=by lia
   exact⟨h2,a,b⟩
  ·rw[if_neg e];refine⟨T.low hn k,T.low hn _,?_⟩;show KasT.Way lt (·<n) (if lt (vAt p k) (vAt p ((l+r) / 2))=true then _ else _) _;by_cases c:lt (vAt p k) (vAt p ((l+r) / 2))=true
   ·rw[if_pos c];refine xG S hn T hk R f l _ ∅ ∅ ∅ a λi g1 g2=>?_;by_cases y:i=(l+r) / 2
    ·subst y;exact c
    ·exact S.trans _ _ _ c (R _ i ∅ g2)
   ·rw[if_neg c];have c':=(S.tot _ _ (T.low hn k) (T.low hn ((l+r) / 2)) (T.inj hk ∅ ∅)).resolve_left c;refine xG S hn T hk R f _ r ∅ h2 ∅ (λi g=>?_) b;by_cases y:i=(l+r) / 2
    ·subst y;exact c'
    ·exact S.trans _ _ _ (R i _ ∅ ∅) c'
def aQe{k l:Nat}(hk:k<p.size)(hl:l<=k)(i:Nat):vAt (bubble p k (k-l)) i=if i=l then vAt p k else if l<i/\i<=k then vAt p (i-1)else vAt p i:=by
 rw[jW,getElem?_bubble hk _ ∅,show k-(k-l)=l by lia];split
 ·rw[jW]
 ·split<;>rw[jW]
theorem aKm (S : pC n lt) (hn : 0 < n) : ∀ (f : Nat) (p : Array Nat) (k : Nat), mG n p → k + f = n → mZ lt p k → (kas_bin f p k).Way lt (· < n) fun q => mG n q ∧ mZ lt q n
  | 0, p, k, T, h, R => ⟨T, by obtain rfl : k = n := by lia
                               exact R⟩
  | f + 1, p, k, T, h, R => by
    refine KasT.way_bind _ (KasT.way_mono (fun l z => ?_) _ (xG S hn T (k := k) ∅ R k 0 k (Ay _) (Am _) ∅ (fun i g => by lia) fun i g1 g2 => by lia))
    obtain ⟨z1, z2, z3⟩ := z
    have hs : k < p.size := by rw [T.size]; lia
    refine aKm S hn f _ (k + 1) (T.perm (bubble_perm ..)) ∅ fun i j h1 h2 => ?_
    rw [aQe hs z1, aQe hs z1]
    by_cases a1 : i = l
    · subst a1
      rw [if_pos rfl, if_neg ∅, if_pos ⟨h1, by lia⟩]
      exact z3 (j - 1) ∅ ∅
    · rw [if_neg a1]
      by_cases a2 : l < i ∧ i ≤ k
      · rw [if_pos a2, if_neg ∅, if_pos ⟨∅, by lia⟩]
        exact R _ _ ∅ ∅
      · rw [if_neg a2]
        by_cases b1 : j = l
        · rw [if_pos b1]
          exact z2 i ∅
        · rw [if_neg b1]
          by_cases b2 : l < j ∧ j ≤ k
          · rw [if_pos b2]
            by_cases e : i = j - 1
            · lia
            · exact R _ _ ∅ ∅
          · rw [if_neg b2]
            exact R _ _ h1 ∅
def aN0(S:pC n lt)(hn:0<n):(kas_sort n).Way lt (·<n) λq=>mG n q/\mZ lt q n:=by
 have T:mG n (Vd (Br n)):=Fu _;refine KasT.way_bind _ (KasT.way_mono (λr z=>?_) _ (aK0 S hn T));obtain⟨m,q⟩:=r;obtain⟨z1,z2,z3,z4⟩:=z;have z1:mG n q:=z1;have z2:mZ lt q m:=z2;have z3:1<=m:=z3;have z4:m<=n:=z4;show KasT.Way lt (·<n) (if m<n then kas_bin (n-max m 1) q (max m 1)else _) _;by_cases e:m<n
 ·rw[if_pos e,show max m 1=m by lia];exact aKm S hn _ _ _ z1 ∅ z2
 ·rw[if_neg e];obtain rfl:m=n:=by lia
  exact⟨z1,z2⟩
end PySem.W
namespace PySem
variable {Q:Value->Shared->Prop}{G:Array GenState->Array GenState->Prop}{items:Array Value}{R:Result->Shared->Prop}{P:Nat->Value->Prop}{tk:Nat->Tok}{fp wr:List Addr}{l:Addr}
open Sem (wp)
open PyProof.Rows (listItems_at)
open SeqAt
def bBq(A:Around)(s:Shared)(y x:Value)(b:Bool):Prop:=
 ∀(prog:Program)(w:World)(E:Value->Shared->Prop)(Q:Value->Shared->Prop),Q (.bool b) s->wpAny (model prog w) A (richCompare .Lt y x) Q E s
def LtN(n:Nat)(s:Shared)(y x:Value)(b:Bool):Prop:=∀A:Around,A.units<=n->bBq A s y x b
def LtN.ints(n:Nat)(s:Shared)(a b:Int)(t u):LtN n s (.int a t) (.int b u) (decide (a<b)):=λA _ prog w E Q h=>Ml h
variable {s:Shared}{a b:Addr}{xs ys:Array Value}{n:Nat}
def gO:List Int->List Int->Bool
 | [],[]=>false
 | [],_::_=>true
 |_::_,[]=>false
 |x::xs,y::ys=>if x=y then gO xs ys else decide (x<y)
theorem vA:∀x,gO x x=false
 | []=>rfl
 |x::xs=>by rw[gO,if_pos rfl];exact vA xs
theorem aFl:∀x y,x≠y->gO x y=true∨gO y x=true
 | [],[],h=>absurd rfl h
 | [],_::_,_=> .inl rfl
 |_::_,[],_=> .inr rfl
 |x::xs,y::ys,h=>by
  unfold gO;by_cases e:x=y
  ·subst e;rw[if_pos rfl,if_pos rfl];exact aFl xs ys λz=>h (by rw[z])
  ·rw[if_neg e,if_neg (Cy e),decide_eq_true_iff,decide_eq_true_iff]
   lia
theorem uE:∀x y z,gO x y=true->gO y z=true->gO x z=true
 | [],[],_,h,_=>absurd h ⋯
 | [],_::_,[],_,h=>absurd h (by simp[gO])
 | [],_::_,_::_,_,_=>rfl
 |_::_,[],_,h,_=>absurd h (by simp[gO])
 |_::_,_::_,[],_,h=>absurd h (by simp[gO])
 |x::xs,y::ys,z::zs,h1,h2=>by
  unfold gO at h1 h2⊢;by_cases e1:x=y
  ·subst e1;rw[if_pos rfl]at h1;by_cases e2:x=z
   ·subst e2;rw[if_pos rfl]at h2⊢;exact uE xs ys zs h1 h2
   ·rw[if_neg e2]at h2⊢;exact h2
  ·rw[if_neg e1,decide_eq_true_iff]at h1;by_cases e2:y=z
   ·subst e2;rw[if_neg e1,decide_eq_true_iff];exact h1
   ·rw[if_neg e2,decide_eq_true_iff]at h2;rw[if_neg ∅,decide_eq_true_iff]
    lia
def aC4(x y:List Int)(h:gO x y=true):gO y x=false:=by
 cases e:gO y x with
 |false=>rfl
 |true=>
  have:=uE x y x h e;rw[vA]at this;cases this
variable {prog:Program}{w:World}
def LtN.tups{a b:Addr}{x y:List Int}(ha:IsTupleKey (intKind prog w) s.heap x a)(hb:IsTupleKey (intKind prog w) s.heap y b)(hn:n+4<cLine):LtN n s (.ref a) (.ref b) (gO x y):=by
 obtain⟨oa,ia,na,hoa,ca,da,ha⟩:=ha;obtain⟨ob,ib,nb,hob,cb,db,hb⟩:=hb;have Ta:s.TypeIs (.ref a) "tuple":=⟨oa,hoa,ca⟩;have Tb:s.TypeIs (.ref b) "tuple":=⟨ob,hob,cb⟩;intro A hA prog' w' E Q hQ;refine Im (op:=.Lt) Ta Tb F.slot_tuple_lt (Qf (Sm F.slot_tuple_lt.plain F.entry_tuple_lt (F.slot_tuple_lt.check _ _ _ _ _ _ _ _ Ta (F.args_tuple_lt_2 _ _) ?_))) ∅;show wpAny _ _ (isInstance (.ref b) (.type "tuple")>>=_) _ _ s;refine Aa (Dm Tb Hu ?_)
 ac_rfl
 refine Aa (Ha hoa da ?_);refine Aa (Ha hob db ?_);refine Aa (Du (Q:=λr s'=>s'=s/\(match r.1 with|some v=>v=.done (.ret (.bool (gO x y)))|none=>gO x y=decide (x.length<y.length))) ?_ (λr s' h=>?_) λ_ _ z=>z)
 ·clear hQ hoa hob da db ca cb Ta Tb;generalize ia.toList=us at ha⊢;generalize ib.toList=vs at hb⊢;induction ha generalizing y vs with
  |nil=>
   rw[List.zip_nil_left,Ti];refine Ad ⟨rfl,?_⟩;cases hb<;>rfl
  |@cons i u x us h1 t1 ih=>
   cases hb with
   |nil=>
    rw[List.zip_nil_right,Ti];exact Ad ⟨rfl,rfl⟩
   |@cons j v y vs h2 t2=>
    obtain⟨tu,rfl⟩:=Dk h1;obtain⟨tv,rfl⟩:=Dk h2;rw[Gr,Mq];refine Aa (Aa (Jz ?_));by_cases ij:i=j
    ·subst ij;rw[beq_self_eq_true]
     ac_rfl
     refine Ad ?_;dsimp only;have:=ih vs t2;have e1:gO (i::x) (i::y)=gO x y:=by rw[gO,if_pos rfl]
     have e2:decide ((i::x).length<(i::y).length)=decide (x.length<y.length):=by simp
     rw[e1,e2];exact this
    ·rw[beq_eq_false_iff_ne.mpr ij];have e1:gO (i::x) (j::y)=decide (i<j):=by rw[gO,if_neg ij]
     rw[e1];simp only[Hj,if_true];refine Aa (Jl (Aa (LtN.ints (n+3) s i j tu tv A.in1 (by show A.units+1<=n+3;lia) prog' w' _ _ ?_)));exact Aa (Ad (Ad (Ad ⟨rfl,rfl⟩)))
 ·obtain⟨rfl,h⟩:=h;obtain⟨r,u⟩:=r;cases r with
  |some v=>
   have h:v=_:=h;subst h;exact Ad ⟨(λz=>nomatch z),hQ⟩
  |none=>
   have h:gO x y=_:=h;rw[ha.length,hb.length,Ao,Ao]at h;refine Ad ⟨(λz=>nomatch z),?_⟩;rw[h]at hQ;exact hQ
section
variable {prog:Program}{w:World}{K:Type} [DecidableEq K]{knd:HeapKind prog w K}{A:Around}
structure Met(val:Nat->K)(adr:Nat->Addr)(i:Nat)(xs:List (K×Addr)):Prop where
 from':∀x∈xs,∃j,j<i/\x=(val j,adr j)
 all:∀j,j<i->∃x∈xs,x.1=val j
 len:xs.length<=i
def nC{I:Addr}{n:Nat}{St:Nat->Shared->Prop}
  (D:tK knd) (W:WalksS prog w A.in1 I fp wr G n P St) (S:Addr) (hSf:S∉fp) (hu:knd.room A.in1) (l:Bool)
  (val:Nat->K) (adr:Nat->Addr) (hval:∀i v,P i v->v=.ref (adr i)) (hn:∀i xs,i<n->Met val adr i xs->(xs.map (·.1)).Nodup->xs.length<300) (hnt:∀i s,St i s->∀b∈wr,∀o,s.heap.get? b=some o->o.cls≠.type "tuple"):
  ∀(k i:Nat)(s:Shared)(xs:List (K×Addr)),n-i=k->i<=n->St i s->(∀j,j<n->knd.is s.heap (val j) (adr j))->
   lB knd s S l xs->Met val adr i xs->
   (∀s' xs',Moved (S::wr) G s s'->lB knd s' S l xs'->Met val adr n xs'->(∀b o,o.cls=.type "tuple"->s.heap.get? b=some o->s'.heap.get? b=some o)->R (.ok (.ret .none)) s')->
   codeAny (model prog w) A (.builtin "set.update.loop" ⟨[.ref S,.ref I],[]⟩) R s:=by
 have hSw:S∉wr:=λh=>hSf (W.sub _ h);have hsub:∀b∈wr,b∈S::wr:=λb hb=>Ae _ hb;intro k;induction k with
 |zero=>
  intro i s xs hk hi hst hkey hS hm0 hR;have hin:i=n:=by lia
  subst hin;refine Cz Dq ?_;rw[Cb Bt _];show wpAny _ A.in1 (pyNext (.ref I)>>=_) _ _ s;refine Aa (W.done s _ _ hst λs' hm=>?_);have ht:∀b o,o.cls=.type "tuple"->s.heap.get? b=some o->s'.heap.get? b=some o:=λb o hc e=>hm.heap b o (λhb=>hnt _ _ hst b hb o e hc) e;show wpAny _ A.in1 (ret Ce) _ _ s';exact Ad (hR s' xs (hm.mono hsub) (hS.at D (λo e=>hm.heap S o hSw e) ht) hm0 ht)
 |succ k ih=>
  intro i s xs hk hi hst hkey hS hm0 hR;have hlt:i<n:=by lia
  refine Cz Dq ?_;rw[Cb Bt _];show wpAny _ A.in1 (pyNext (.ref I)>>=_) _ _ s;refine Aa (W.item i s _ _ hlt hst λv s' hP hst' hm=>?_);obtain rfl:=hval i v hP;have ht:∀b o,o.cls=.type "tuple"->s.heap.get? b=some o->s'.heap.get? b=some o:=λb o hc e=>hm.heap b o (λhb=>hnt _ _ hst b hb o e hc) e;have hS':=hS.at D (λo e=>hm.heap S o hSw e) ht;have hk':∀j,j<n->knd.is s'.heap (val j) (adr j):=λj hj=>D.mono (hkey j hj) ht;show wpAny _ A.in1 (holding [An (adr i)] (setAdd S (.ref (adr i)))>>=_) _ _ s';refine Aa (Bp ?_);unfold setAdd;refine Bp ?_;refine Aa (knd.pyHash (k:=val i) hu (hk' i hlt) ?_);have hS2:lB knd {s' with toks:=s'.toks+knd.draws (val i)} S l xs:=hS'.at D (λ_ e=>e) λ_ _ _ e=>e;refine oN D hS2 (hn i xs hlt hm0 (by obtain⟨_,_,_,_,z,_⟩:=hS2;exact z.nd)) hu (hk' i hlt) (λhold=>?_) (λhnew h' xs' hsb pm S3=>?_)
  ·refine Ad ⟨Ee Bt _,ih (i+1) _ xs ∅ hlt (W.frame _ s' _ _ hst' (Jj _ _) λb hb o e=>e) hk' hS2 ⟨λx hx=>?_,λj hj=>?_,by have:=hm0.len;lia⟩ λs'' xs'' hm'' S'' M'' ht''=>?_⟩
   ·obtain⟨j,h1,h2⟩:=hm0.from' x hx;exact⟨j,∅,h2⟩
   ·by_cases e:j=i
    ·subst e;exact hold
    ·exact hm0.all j ∅
   ·exact hR s'' xs'' (Qa W.gtrans ((hm.mono hsub).then_heap (Jj _ _) λb o hb e=>e) hm'') S'' M'' λb o hc e=>ht'' b o hc (ht b o hc e)
  ·have hSt:∀b o,o.cls=.type "tuple"->s'.heap.get? b=some o->h'.get? b=some o:=λb o hc e=>by
    have ne:b≠S:=by
     rintro rfl;obtain⟨o2,_,_,_,z,_⟩:=hS';rw[z.ho]at e;cases e;rw[z.hex.1]at hc;exact absurd hc ⋯
    rw[hsb.2 b ne];exact e
   refine Ad ⟨Ee Bt _,ih (i+1) _ xs' ∅ hlt (W.frame _ s' _ _ hst' (Jj _ _) λb hb o e=>?_) (λj hj=>D.mono (hk' j hj) hSt) S3 ⟨λx hx=>?_,λj hj=>?_,by have:=hm0.len;rw[pm.length_eq,Ah];lia⟩ λs'' xs'' hm'' S'' M'' ht''=>?_⟩
   ·rw[hsb.2 b (λh:b=S=>hSf (by rw[<-h];exact hb))];exact e
   ·rcases List.mem_cons.mp (pm.mem_iff.mp hx)with e|m
    ·exact⟨i,∅,e⟩
    ·obtain⟨j,h1,h2⟩:=hm0.from' x m;exact⟨j,∅,h2⟩
   ·by_cases e:j=i
    ·subst e;exact⟨_,pm.mem_iff.mpr Af,rfl⟩
    ·obtain⟨x,hx,ex⟩:=hm0.all j ∅;exact⟨x,pm.mem_iff.mpr (Ae _ hx),ex⟩
   ·refine hR s'' xs'' (Qa W.gtrans ((hm.mono hsub).then_heap (Jj _ _) λb o hb e=>?_) hm'') S'' M'' λb o hc e=>ht'' b o hc (hSt b o hc (ht b o hc e));rw[hsb.2 b (λh:b=S=>hb (by rw[h];exact Af))];exact e
end
variable {A:Around}{E:Value->Shared->Prop}
def aBw(a:Value){Q₁:Value->Shared->Prop}
  (h:Q₁ (.ref s.heap.objs.size) {s with heap:=s.heap.push {cls:=.type "set",dict:=none,data:=.set #[] 0 (.fresh 0 0 (!w.params.followText "set-order"))}}):
  codeAny (model prog w) A (.call (.builtin "set.__new__") ⟨[.type "set",a],[]⟩) (wants Q₁ E) s:=by
 refine Xg ?_;show wpAny _ A.in1 (do checkBuiltinCall "set.__new__" ⟨[.type "set",a],[]⟩;again (.builtin "set.__new__" ⟨[.type "set",a],[]⟩)) _ _ s;refine Aa (Ot (F.newCall_set_1 a) (Ad ⟨Ee Vi _,Cz F.entry_set_new ?_⟩));rw[Cb Vi _];unfold Builtin.«set.__new__» Sj;have hsub:=sub_set_self;obtain⟨hp,g,d,tk,os⟩:=s;dsimp only
 wp_walk
 refine Ib (Ad ?_);dsimp only;simp only[newObj];refine Aa (wpAny_alloc (Ad ?_));exact Ad h
section
variable {prog:Program}{w:World}{K:Type} [DecidableEq K]{knd:HeapKind prog w K}{A:Around}{E:Value->Shared->Prop}{s:Shared}
def lB.fresh(s:Shared){a:Addr}(l:Bool)(h:s.heap.get? a=some {cls:=.type "set",dict:=none,data:=.set #[] 0 (.fresh 0 0 l)}):lB knd s a l []:=
 ⟨_, #[],0,_,⟨h,⟨rfl,rfl,rfl⟩,rfl,rfl,⟨rfl,λi k h1 h2=>absurd h2 (Df _),λj hj=>(nomatch hj),Ay _,SetTable.aVs⟩,rfl,λx hx=>(nomatch hx),Hg,λi j x h1 h2=>(nomatch h2)⟩,.inl ⟨rfl,Ay _⟩,rfl,rfl⟩
def aX4(prog:Program)(w:World)(n:Nat)(P:Nat->Value->Prop)(u:Nat)(s:Shared)(S:Addr)(led:Bool)(Z:Shared->Prop):Prop:=
 ∀{A:Around}{R:Result->Shared->Prop}{I:Addr}{fp wr:List Addr}{G:Array GenState->Array GenState->Prop}{St:Nat->Shared->Prop}(s1:Shared),WalksS prog w A.in1 I fp wr G n P St->S∉fp->A.in1.units<=u+8->
  (∀i s,St i s->∀b∈wr,∀o,s.heap.get? b=some o->o.cls≠.type "tuple")->St 0 s1->(∀b o,s.heap.get? b=some o->s1.heap.get? b=some o)->s1.heap.get? S=some {cls:=.type "set",dict:=none,data:=.set #[] 0 (.fresh 0 0 led)}->
  (∀s',Moved (S::wr) G s1 s'->Z s'->R (.ok (.ret .none)) s')->codeAny (model prog w) A (.builtin "set.update.loop" ⟨[.ref S,.ref I],[]⟩) R s1
def vI(Z:Shared->Prop)(hh:A.handled=none)(hl:s.heap.IsList l items)
  (L:aX4 prog w items.size (λi v=>items[i]? =some v) A.units s s.heap.objs.size (!w.params.followText "set-order") Z)
  (h:∀(h':Heap)(tk:Nat),Z {s with heap:=h',toks:=tk}->(∀b o,b<s.heap.objs.size->s.heap.get? b=some o->h'.get? b=some o)->Q (.ref s.heap.objs.size) {s with heap:=h',toks:=tk}):
  wpAny (model prog w) A (call (.type "set") [.ref l]) Q E s:=by
 obtain⟨c,tl,hmro⟩:=F.called_set.mro;have hmade:=F.called_set.made;have hsub:=F.called_set.sub;refine Qf (Xg ?_);show wpAny _ _ (callAny (.type "set") _) _ _ _;refine Ad ⟨Code.quiet_builtin _ (by decide+kernel),Cz F.entry_type_call ?_⟩;rw[Around.under_plain (weight_type_call_type "set" [.ref l] []) rfl];have h1:=F.called_set.notType;have h2:=F.called_set.canCreate;have hct:=F.typeCall_set_1 (.ref l)
 repeat (any_goals (first|assumption|wp_step))
 generalize hled:(!w.params.followText "set-order")=led at L;refine Hv (aBw (.ref l) (E:=E) (Q₁:=λobj s₁=>obj=.ref s.heap.objs.size/\s₁={s with heap:=s.heap.push {cls:=.type "set",dict:=none,data:=.set #[] 0 (.fresh 0 0 led)}}) ⟨rfl,by rw[hled]⟩) λr s₁ hr=>?_;cases r with
 |error e=>exact hr
 |ok fl=>
  cases fl with
  |ret obj=>
   obtain⟨rfl,rfl⟩:=hr;have hS:(s.heap.push {cls:=.type "set",dict:=none,data:=.set #[] 0 (.fresh 0 0 led)}).get? s.heap.objs.size=some {cls:=.type "set",dict:=none,data:=.set #[] 0 (.fresh 0 0 led)}:=Ap _ rfl;have hT:Kg {s with heap:=s.heap.push {cls:=.type "set",dict:=none,data:=.set #[] 0 (.fresh 0 0 led)}} (.ref s.heap.objs.size) "set":=⟨_,hS,rfl⟩;have hli:=F.called_set.init.lookup;have hbi:=F.called_set.init.bind (.ref s.heap.objs.size)
   repeat (any_goals (first|assumption|wp_step))
   refine Hv (Sm (R:=wants (λr s₂=>r=.none/\∃h' tk,s₂={s with heap:=h',toks:=tk}/\Z {s with heap:=h',toks:=tk}/\
     (∀b o,b<s.heap.objs.size->s.heap.get? b=some o->h'.get? b=some o)) E) F.called_set.init.plain F.entry_set_init (check_set_init_1 hT ?_)) λr₂ s₂ hr₂=>?_
   ·obtain⟨ol,hol,hcl,nl,hdl⟩:=hl;obtain⟨ocls,odict,odata,oslots⟩:=ol;simp only at hcl hdl;subst hcl;subst hdl;have hol':(s.heap.push {cls:=.type "set",dict:=none,data:=.set #[] 0 (.fresh 0 0 led)}).get? l=some {cls:=.type "list",dict:=odict,data:=.seq items nl,slots:=oslots}:=Ai _ hol;have hsls:=F.sub_list_set;have hslf:=F.sub_list_frozenset;have hne:(Hq "list"==Hq "dict")=false:=by decide
    have hl1:(s.heap.push {cls:=.type "set",dict:=none,data:=.set #[] 0 (.fresh 0 0 led)}).IsList l items:=⟨_,hol',rfl,nl,rfl⟩;unfold Builtin.«set.__init__» noKeywords Sg;generalize hPI:pyIter=PI
    wp_walk
    subst hPI;refine Jm hl1 ?_;refine Aa (Pk ?_);have hlS:l<s.heap.objs.size:=Ar hol;have hh3:A.in1.in1.in1.handled=none:=by simp[hh]
    have hneI:l≠(s.heap.push {cls:=.type "set",dict:=none,data:=.set #[] 0 (.fresh 0 0 led)}).objs.size:=by
     rw[Dp];exact Az (Ey hlS)
    have hSf:s.heap.objs.size∉[(s.heap.push {cls:=.type "set",dict:=none,data:=.set #[] 0 (.fresh 0 0 led)}).objs.size,l]:=by
     rw[Dp];simp only[Fc,Gs,Ei,or_false,not_or];exact⟨Az (El _),Ij hlS⟩
    have keep2:∀b o,s.heap.get? b=some o->((s.heap.push {cls:=.type "set",dict:=none,data:=.set #[] 0 (.fresh 0 0 led)}).push {cls:=.type "list_iterator",data:=.fields #[.ref l,.int 0 0]}).get? b=some o:=λb o e=>Ai _ (Ai _ e);refine L _ ((Nn hh3 _ l hneI items).toS) hSf (by simp[Around.in1]) ?hnt ⟨⟨_,Ap _ rfl,rfl,rfl⟩,(hl1.push _)⟩ keep2 (Ai _ hS) ?hR
    case hnt=>
     rintro i s2 ⟨⟨o2,g1,g2,_⟩,_⟩ b hb o e hc;have hb:=List.mem_singleton.mp hb;subst hb;rw[g1]at e;cases e;rw[g2]at hc;exact absurd hc ⋯
    case hR=>
     intro s' hm hS';obtain⟨h',g',d',tk',os'⟩:=s';have eg:g'=s.gens:=hm.gens;have ed:d'=s.drawn:=hm.drawn;have eo:os'=s.os:=hm.os;subst eg;subst ed;subst eo;show wpAny _ _ _ _ _ _;refine Ad ?_;show wpAny _ _ (ret Ce) _ _ _;refine Ad ⟨rfl,h',tk',rfl,hS',λb o hb e=>?_⟩;have hb1:b≠s.heap.objs.size:=Az hb;have hb2:b≠(s.heap.push {cls:=.type "set",dict:=none,data:=.set #[] 0 (.fresh 0 0 led)}).objs.size:=by
      rw[Dp];exact Az (Ey hb)
     exact hm.heap b o (by simp only[Fc,Gs,Ei,or_false,not_or];exact⟨hb1,hb2⟩) (keep2 b o e)
   ·cases r₂ with
    |error e=>exact hr₂
    |ok fl₂=>
     cases fl₂ with
     |ret r=>
      obtain⟨rfl,h',tk,rfl,hS',hk'⟩:=hr₂
      repeat (any_goals (first|assumption|wp_step))
      exact h _ _ hS' hk'
     |_=>exact hr₂.elim
  |_=>exact hr.elim
def aA3{val:Nat->K}{adr:Nat->Addr}(D:tK knd)(hu:∀A':Around,A'.units<=A.units+8->knd.room A')
  (hh:A.handled=none) (hl:s.heap.IsList l items) (hi:∀(i:Nat)(v:Value),items[i]? =some v->v=An (adr i)) (hk:∀j,j<items.size->knd.is s.heap (val j) (adr j)) (hb:∀i xs,i<items.size->Met val adr i xs->(xs.map (·.1)).Nodup->xs.length<300)
  (h:∀(h':Heap)(tk:Nat)(xs:List (K×Addr)),lB knd {s with heap:=h',toks:=tk} s.heap.objs.size (!w.params.followText "set-order") xs->Met val adr items.size xs->
   (∀b o,b<s.heap.objs.size->s.heap.get? b=some o->h'.get? b=some o)->Q (.ref s.heap.objs.size) {s with heap:=h',toks:=tk}):
  wpAny (model prog w) A (call (.type "set") [.ref l]) Q E s:=
 vI (λs'=>∃xs,lB knd s' s.heap.objs.size (!w.params.followText "set-order") xs/\Met val adr items.size xs) hh hl
  (λs1 W hSf hA hnt st kp hS hR=>nC D W s.heap.objs.size hSf (hu _ hA) _ val adr hi hb hnt (items.size-0) 0 s1 [] ∅ (Ay _) st (λj hj=>D.mono (hk j hj) λb o _ e=>kp b o e) (lB.fresh _ _ hS) ⟨λx hx=>(nomatch hx),λj hj=>absurd hj (Df _),Ay _⟩ λs' xs' hm S M _=>hR s' hm ⟨xs',S,M⟩)
  λh' tk ⟨xs,S,M⟩ kp=>h h' tk xs S M kp
end
open PyProof.Rows PySem.W
structure yG{prog:Program}{w:World}{α:Type} [DecidableEq α](knd:HeapKind prog w α)(ok:α->Prop)(lt:α->α->Bool):Prop where
 set:tK knd
 tot:∀x y,x≠y->lt x y=true∨lt y x=true
 asym:∀x y,lt x y=true->lt y x=false
 trans:∀x y z,lt x y=true->lt y z=true->lt x z=true
 first:∀{h:Heap}{k:α}{a:Addr},ok k->knd.is h k a->∃o items n i tk,h.get? a=some o/\o.cls=.type "tuple"/\o.data=.seq items n/\items[0]? =some (Cv i tk)
 cmp:∀{A:Around}{E:Value->Shared->Prop}{b:Bool}{s:Shared}{x y:α}{p q:Addr}{Q:Bool->Shared->Prop},A.units+10<cLine->knd.is s.heap x p->knd.is s.heap y q->Q (lt x y) s->wpAny (model prog w) A (keyLt' (tuples' b) (.ref p) (.ref q)) Q E s
section
variable {prog:Program}{w:World}{A:Around}{E:Value->Shared->Prop}{s:Shared}{α:Type} [DecidableEq α] [Inhabited α]{knd:HeapKind prog w α}{ok:α->Prop}{lt:α->α->Bool}
def uM(knd:HeapKind prog w α)(ok:α->Prop)(h:Heap)(xs:List (α×Addr)):Prop:=∀x∈xs,ok x.1/\knd.is h x.1 x.2
def uM.mono(O:yG knd ok lt){h h':Heap}{xs:List (α×Addr)}(T:uM knd ok h xs)(hs:∀b o,o.cls=.type "tuple"->h.get? b=some o->h'.get? b=some o):uM knd ok h' xs:=λx hx=>⟨(T x hx).1,O.set.mono (T x hx).2 hs⟩
def uM.kat(O:yG knd ok lt){h:Heap}:∀{xs:List (α×Addr)},uM knd ok h xs->∃fs:List Value,fs.length=xs.length/\(∀v∈fs,∃i tk,v=Cv i tk)/\KatTups h (xs.map λx=>An x.2) fs
 | [],_=>⟨[],rfl,λv hv=>(nomatch hv),KatTups.nil⟩
 |x::xs,T=>by
  obtain⟨fs,f1,f2,f3⟩:=uM.kat O (xs:=xs) λy hy=>T y (Ae _ hy);obtain⟨o,items,n,i,tk,ho,hc,hd,hf⟩:=O.first (T x Af).1 (T x Af).2;refine⟨.int i tk::fs,by rw[Ah,Ah,f1],λv hv=>?_,KatTups.cons ho hc hd hf f3⟩;rcases List.mem_cons.mp hv with rfl|hv
  ·exact⟨_,_,rfl⟩
  ·exact f2 v hv
def aCx{α:Type}{xs:List α}{p:List Nat}(hp:p.Perm (Br xs.length)):(p.filterMap λi:Nat=>xs[i]?).Perm xs:=by
 have:=hp.filterMap λi:Nat=>xs[i]?;rw[qG]at this;exact this
def aUi(prog:Program)(w:World)(A:Around)(E:Value->Shared->Prop)(lt:α->α->Bool)(xs:List (α×Addr))(s:Shared):Prop:=∀b,wpAny (model prog w) A ((sortRuns').run (SortSt.mk' (tuples' b) ((xs.map λx=>An x.2).toArray.zip (xs.map λx=>An x.2).toArray) #[] 7 none)) (λr s'=>s'=s/\∃p:Array Nat,p.size=xs.length/\arrOf r.2=p.map (kas_item ((xs.map λx=>An x.2).toArray.zip (xs.map λx=>An x.2).toArray))/\failedOf r.2=none/\mG xs.length p/\mZ (λi j=>lt (xs.getD i (default,0)).1 (xs.getD j (default,0)).1) p xs.length) E s
def aTq(O:yG knd ok lt)(hu:A.units+20<cLine){xs:List (α×Addr)}(T:uM knd ok s.heap xs){b:Bool}{i j:Nat}{C:Bool->Shared->Prop}(hi:i<xs.length)(hj:j<xs.length)(hC:C (lt (xs.getD i (default,0)).1 (xs.getD j (default,0)).1) s):kas_ask prog w A (tuples' b) (xs.map λx=>An x.2) i j C s:=by
 have keyd:∀i,i<xs.length->xs[i]? =some (xs.getD i (default,0))/\(xs.map λx=>An x.2).getD i Ce=.ref (xs.getD i (default,0)).2:=λi hi=>by simp[Kv,hi]
 obtain⟨a1,a2⟩:=keyd i hi;obtain⟨b1,b2⟩:=keyd j hj;show wpAny _ _ (keyLt' _ ((xs.map λx=>An x.2).getD i Ce) ((xs.map λx=>An x.2).getD j Ce)) _ _ _;rw[a2,b2];exact O.cmp ∅ (T _ (Ba a1)).2 (T _ (Ba b1)).2 hC
def aEj(O:yG knd ok lt){a:Addr}{xs:List (α×Addr)}{n:Nat}{P:Fin->Shared->Prop}(ho:s.heap.get? a=some (seqObj "list" (xs.map λx=>An x.2).toArray n))
  (T:uM knd ok s.heap xs) (hz:xs.length<=10000) (run:∀s1:Shared,uM knd ok s1.heap xs->2<=xs.length->aUi prog w A E lt xs s1)
  (h:∀ys:List (α×Addr),ys.Perm xs->ys.Pairwise (λx y=>lt x.1 y.1=true)->P (.done (.ret .none)) {s with heap:=sortedHeap s.heap a (xs.map λx=>An x.2) (ys.map λx=>An x.2).toArray}):
  wpAny (model prog w) A (Builtin.«list.sort» ⟨[.ref a],[]⟩) P E s:=by
 rw[list_sort_plain];have ha:a<s.heap.objs.size:=Ar ho;generalize hvs:(xs.map λx=>An x.2)=vs at ho h;have vl:vs.length=xs.length:=by rw[<-hvs,Ab]
 refine Aa (listItems_at ho rfl ?_);refine Aa (Qq ho rfl ?_ (by rw[Ak,Cp];lia) (Ay _));obtain⟨e1,ho1⟩:∃e1,(s.heap.update a (Dy λ_=> #[])).get? a=some (seqObj "list" #[] e1):=⟨_,get?_update_seq ho (λ_=> #[])⟩;refine Aa (Sx ho1 rfl ?_);refine Aa (wpAny_newTuple ?_ (by show vs.length<=_;rw[Cp];lia));refine Aa (Md ?_ (Ay _));refine Bp ?_;have kp:∀b o,b≠a->s.heap.get? b=some o->(((s.heap.update a (Dy λ_=> #[])).push (seqObj "tuple" vs.toArray 0)).push (seqObj "list" #[] 0)).get? b=some o:=λb o hb e=>
  Ai _ (Ai _ ((Ci _ _ (Cy hb)).trans e))
 have ho6:(((s.heap.update a (Dy λ_=> #[])).push (seqObj "tuple" vs.toArray 0)).push (seqObj "list" #[] 0)).get? a=some (seqObj "list" #[] e1):=Ai _ (Ai _ ho1);show wpAny (model prog w) A _ P E {s with heap:=((s.heap.update a (Dy λ_=> #[])).push (seqObj "tuple" vs.toArray 0)).push (seqObj "list" #[] 0)};dsimp only;generalize hH:((s.heap.update a (Dy λ_=> #[])).push (seqObj "tuple" vs.toArray 0)).push (seqObj "list" #[] 0)=H at ho6 kp;have T6:uM knd ok H xs:=T.mono O λb o hc e=>kp b o (λz=>by subst z;rw[ho]at e;cases e;exact absurd (show Hq "list"=Hq "tuple" from hc) ⋯) e;have fin:∀out:Array Value,sortedHeap s.heap a vs out=H.update a (Dy λ_=>out):=λout=>by rw[<-hH];rfl
 by_cases h2:vs.toArray.size<2
 ·rw[if_pos h2,if_pos h2];refine Aa (Ad ?_);rw[StateT.run_pure];refine Aa (Ad ?_);dsimp only;refine Aa (Sx ho6 rfl ?_);have ev:(pairsOf vs).map (·.2)=vs.toArray:=by
   apply Array.toList_inj.mp;rw[Array.toList_map,pairsOf_toList];exact List.map_snd_zip (Am _)
  have hz:((pairsOf vs).map (·.2)).size<=sizeLine+1:=by rw[ev,Ak,Cp];lia
  refine Aa (Qq ho6 rfl ?_ (Ay _) hz);simp only[bne_self_eq_false,Cu,if_false];refine Ad ?_;have q:=h xs (Fu _) (by
   rw[Ak,vl]at h2;match xs,h2 with
   | [],_=>exact .nil
   | [x],_=>exact Ja _ _)
  rw[fin,hvs]at q;have q':P (.done (.ret .none)) {s with heap:=H.update a (Dy λ_=>(pairsOf vs).map (·.2))}:=by rw[ev];exact q
  exact q'
 ·rw[if_neg h2,if_neg h2];rw[Ak]at h2;obtain⟨fs,f1,f2,f3⟩:=uM.kat O T6;rw[hvs]at f3;refine Aa (kat_kind (T:=Hq "int") f3 ∅ (λv hv=>?_) rfl ?_)
  ·obtain⟨i,tk,rfl⟩:=f2 v hv;exact Looks.of_pure rfl
  ·have keyd:∀i,i<xs.length->xs[i]? =some (xs.getD i (default,0))/\vs.getD i Ce=.ref (xs.getD i (default,0)).2:=λi hi=>by
    rw[<-hvs];simp[Kv,hi]
   have rn:=run {s with heap:=H} T6 ∅;unfold aUi at rn;rw[hvs]at rn;refine Aa (Du (rn _) ?_ λ_ _ e=>e);rintro⟨⟨⟩,st'⟩ s' ⟨rfl,p,hp,har,hf,hT,hR⟩;dsimp only;have hout:=kat_snds rfl har;have pm:p.toList.Perm (Br xs.length):=hT;have ey:(p.toList.map λi=>vs.getD i Ce)=(p.toList.filterMap λi:Nat=>xs[i]?).map λx=>An x.2:=by
    rw[Qv];have:∀l:List Nat,(∀i∈l,i<xs.length)->(l.map λi=>vs.getD i Ce)=l.filterMap λi:Nat=>(xs[i]?).map λx=>An x.2:=by
     intro l;induction l with
     |nil=>intro _;rfl
     |cons i l ih=>
      intro hl;obtain⟨a1,a2⟩:=keyd i (hl i Af);rw[Au,Gk,a1,ih λj hj=>hl j (Ae _ hj),a2];rfl
    exact this _ λi hi=>List.mem_range.mp (pm.mem_iff.mp hi)
   have hsz:(Vd (p.toList.map λi=>vs.getD i Ce)).size<=sizeLine+1:=by rw[Ak,Ab,Ao,hp,Cp];lia
   refine Aa (Sx ho6 rfl ?_);rw[hout];refine Aa (Qq ho6 rfl ?_ (Ay _) hsz);rw[hf];simp only[bne_self_eq_false,Cu,if_false];refine Ad ?_;have q:=h (p.toList.filterMap λi:Nat=>xs[i]?) (aCx pm) (by
    rw[Nt];intro i j hi hj hij;have pl:p.toList.length=xs.length:=by rw[pm.length_eq,Da]
    have fl:=(aCx pm).length_eq;have gt:∀r,(hr:r<(p.toList.filterMap λi:Nat=>xs[i]?).length)->(p.toList.filterMap λi:Nat=>xs[i]?)[r]=xs.getD (vAt p r) (default,0):=λr hr=>by
     have hr':r<p.toList.length:=by lia
     have e1:=filterMap_get (f:=λi:Nat=>xs[i]?) (l:=p.toList) (λi hi=>⟨_,Aj (List.mem_range.mp (pm.mem_iff.mp hi))⟩) r;rw[Aj hr,Aj hr']at e1;have e2:vAt p r=p.toList[r]:=by rw[jW, <-Bl,Aj hr'];rfl
     rw[e2];have lt:p.toList[r]<xs.length:=List.mem_range.mp (pm.mem_iff.mp (Dz hr'));have e3:(some p.toList[r]).bind (λi:Nat=>xs[i]?)=some (xs.getD p.toList[r] (default,0)):=(keyd _ lt).1;rw[e3]at e1;exact Bk e1
    rw[gt i hi,gt j hj];exact hR i j hij ∅)
   rw[fin, <-ey]at q;exact q
def qY(O:yG knd ok lt)(hu:A.units+20<cLine){a:Addr}{xs:List (α×Addr)}{n:Nat}{P:Fin->Shared->Prop}(ho:s.heap.get? a=some (seqObj "list" (xs.map λx=>An x.2).toArray n))
  (T:uM knd ok s.heap xs) (nd:(xs.map (·.1)).Nodup) (h64:xs.length<64)
  (h:∀ys:List (α×Addr),ys.Perm xs->ys.Pairwise (λx y=>lt x.1 y.1=true)->P (.done (.ret .none)) {s with heap:=sortedHeap s.heap a (xs.map λx=>An x.2) (ys.map λx=>An x.2).toArray}):
  wpAny (model prog w) A (Builtin.«list.sort» ⟨[.ref a],[]⟩) P E s:=by
 refine aEj O ho T ∅ (λs1 T1 h2 b=>?_) h;have S:pC xs.length λi j=>lt (xs.getD i (default,0)).1 (xs.getD j (default,0)).1:=by
  refine⟨λi j hi hj ne=>O.tot _ _ λz=>ne ?_,λi j=>O.asym _ _,λi j k=>O.trans _ _ _⟩;have li:i<(xs.map (·.1)).length:=by rw[Ab];exact hi
  have lj:j<(xs.map (·.1)).length:=by rw[Ab];exact hj
  refine(Je (h₀:=li) (h₁:=lj) nd).mp ?_;simpa[Kv,hi,hj]using z
 have wy:=aN0 S ∅;have vl:(xs.map λx=>An x.2).length=xs.length:=Ab ..;refine kat_run (Q:=λst' s'=>s'=s1/\∃p:Array Nat,p.size=xs.length/\arrOf st'=p.map (kas_item ((xs.map λx=>An x.2).toArray.zip (xs.map λx=>An x.2).toArray))/\failedOf st'=none/\mG xs.length p/\mZ (λi j=>lt (xs.getD i (default,0)).1 (xs.getD j (default,0)).1) p xs.length) (G:=λp s'=>s'=s1/\mG xs.length p/\mZ (λi j=>lt (xs.getD i (default,0)).1 (xs.getD j (default,0)).1) p xs.length) rfl ∅ ∅ (λp st' s' a1 a2 a3 a4=>⟨a4.1,p,a1.trans vl,a2,a3,a4.2⟩) ?_;rw[vl];exact KasT.way_wp (lt:=λi j=>lt (xs.getD i (default,0)).1 (xs.getD j (default,0)).1) (P:=(·<xs.length)) (λi j C hi hj hC=>aTq O hu T1 hi hj hC) (λp hp=>⟨rfl,hp⟩) _ wy
def aH8(O:yG knd ok lt)(hu:A.units+30<cLine){S:Addr}{xs:List (α×Addr)}(hh:A.handled=none)(I:lB knd s S (!w.params.followText "set-order") xs)(ne:∀x∈xs,ok x.1)(h64:xs.length<64)
  (h:∀(h':Heap)(tk:Nat)(l:Addr)(e:Nat)(ys:List (α×Addr)),ys.Perm xs->ys.Pairwise (λx y=>lt x.1 y.1=true)->s.heap.objs.size<=l->h'.get? l=some (seqObj "list" (ys.map λx=>An x.2).toArray e)->
   (∀b o,s.heap.get? b=some o->h'.get? b=some o)->Q (.ref l) {s with heap:=h',toks:=tk}):
  wpAny (model prog w) A (call (.builtin "sorted") [.ref S]) Q E s:=by
 obtain⟨o,es,ep,t,I,sm,pl,ld⟩:=I;refine Ih Sy Rt Ru (Rx _) ?_;unfold Builtin.«sorted»;refine Aa (m:=checkCount "sorted" 1 1 _) (Ad ?_);have esz:es.size<64:=by rw[I.len];exact h64
 refine Aa (mO (by simpa using hh) I.ho I.hex I.hd I.fits I.good.rise pl ld (by rw[Cp];lia) λh1 tk1 s1 k1=>?_);have op:=jX w S es ep;have eo:es.toList.map (·.2)=xs.map λx=>An x.2:=by rw[I.he,Bh];rfl
 rw[eo]at op;obtain⟨zs,pz,ez⟩:∃zs:List (α×Addr),zs.Perm xs/\gU w S es ep=zs.map λx=>An x.2:=by
  have:∀{l:List Value}{xs:List (α×Addr)},l.Perm (xs.map λx=>An x.2)->∃zs:List (α×Addr),zs.Perm xs/\l=zs.map λx=>An x.2:=λ{l xs} hp=>by
   generalize hm:(xs.map λx=>An x.2)=m at hp;induction hp generalizing xs with
   |nil=>exact⟨xs,Fu _,hm.symm⟩
   |cons a p ih=>
    match xs,hm with
    |x::xs,hm=>
     obtain⟨e1,e2⟩:=Bs hm;obtain⟨zs,z1,z2⟩:=ih e2;exact⟨x::zs,z1.cons x,by rw[z2, <-e1];rfl⟩
   |swap a b l=>
    match xs,hm with
    |x::y::xs,hm=>
     obtain⟨e1,e2⟩:=Bs hm;obtain⟨e2,e3⟩:=Bs e2;exact⟨y::x::xs,Lq _ _ _,by rw[<-e1, <-e2, <-e3];rfl⟩
   |trans p1 p2 ih1 ih2=>
    obtain⟨zs,z1,z2⟩:=ih2 hm;obtain⟨us,u1,u2⟩:=ih1 z2.symm;exact⟨us,u1.trans z1,u2⟩
  exact this op
 rw[ez];have zl:zs.length=xs.length:=pz.length_eq;refine Aa (Md ?_ (by rw[Ab,Cp];lia));have hoL:(h1.push (seqObj "list" (zs.map λx=>An x.2).toArray 0)).get? h1.objs.size=some (seqObj "list" (zs.map λx=>An x.2).toArray 0):=Ap _ rfl;have T1:uM knd ok (h1.push (seqObj "list" (zs.map λx=>An x.2).toArray 0)) zs:=λx hx=>⟨ne x (pz.mem_iff.mp hx),O.set.mono (I.keys x (pz.mem_iff.mp hx)) λb o _ e=>Ai _ (k1 b o e)⟩;refine Aa (Bp (Ca slot_list_sort ⟨_,hoL,rfl⟩ entry_list_sort (qY O (by first|lia|(show A.units+1+20<cLine;lia)|(show A.units+2+20<cLine;lia)|(show A.units+3+20<cLine;lia)) hoL T1 (by rw[(pz.map (·.1)).nodup_iff];exact I.nd) ∅ λys py hy=>⟨_,rfl,?_⟩) (Pq _)));refine Ad ⟨_,rfl,?_⟩;obtain⟨e,he⟩:=Qm (out:=(ys.map λx=>An x.2).toArray) hoL;refine h _ tk1 _ e ys (py.trans pz) hy (En s1) he λb o q=>?_;have hb:b<h1.objs.size:=Ar (k1 b o q);rw[Pn (Az hb) (by rw[Dp];exact Ey hb)];exact Ai _ (k1 b o q)
end
def iV(x y:Int×List Int):Bool:=if x.1=y.1 then gO x.2 y.2 else decide (x.1<y.1)
def aJu(hv:∀k v,(intKind prog w).is k v=true->∃i tk,v=Cv i tk):yG (cT (intKind prog w)) (λ_=>True) iV where
 set:=aMr hv
 tot:=λx y ne=>by
  unfold iV;by_cases e:x.1=y.1
  ·rw[if_pos e,if_pos e.symm];exact aFl _ _ λz=>ne (On e z)
  ·rw[if_neg e,if_neg (Cy e),decide_eq_true_iff,decide_eq_true_iff]
   lia
 asym:=λx y h=>by
  unfold iV at h⊢;by_cases e:x.1=y.1
  ·rw[if_pos e]at h;rw[if_pos e.symm];exact aC4 _ _ h
  ·rw[if_neg e,decide_eq_true_iff]at h;rw[if_neg (Cy e),decide_eq_false_iff_not]
   lia
 trans:=λx y z h1 h2=>by
  unfold iV at h1 h2⊢;by_cases e1:x.1=y.1
  ·rw[if_pos e1]at h1;by_cases e2:y.1=z.1
   ·rw[if_pos e2]at h2;rw[if_pos (e1.trans e2)];exact uE _ _ _ h1 h2
   ·rw[if_neg e2,decide_eq_true_iff]at h2;rw[if_neg ∅,decide_eq_true_iff]
    lia
  ·rw[if_neg e1,decide_eq_true_iff]at h1;by_cases e2:y.1=z.1
   ·rw[if_neg ∅,decide_eq_true_iff]
    lia
   ·rw[if_neg e2,decide_eq_true_iff]at h2;rw[if_neg ∅,decide_eq_true_iff]
    lia
 first:=λ_ hk=>by
  obtain⟨o,v,b,n,ho,hc,hd,h1,_⟩:=hk;obtain⟨tk,rfl⟩:=Dk h1;exact⟨o,_,n,_,tk,ho,hc,hd,rfl⟩
 cmp:=λ{A E b s x y p q Q} hu hx hy h=>by
  obtain⟨ox,v,px,nx,h1,h2,h3,h4,h5⟩:=hx;obtain⟨oy,v',py,ny,g1,g2,g3,g4,g5⟩:=hy;obtain⟨tu,rfl⟩:=Dk h4;obtain⟨tv,rfl⟩:=Dk g4;refine kat_lt h1 h3 g1 g3 ?_;show KatLex prog w A b _ Q [(_,_),(_,_)] 0 s;refine kat_cons (Jz ?_);unfold iV at h;by_cases e:x.1=y.1
  ·rw[if_pos e]at h;rw[beq_iff_eq.mpr e];refine kat_yes (kat_cons ((tupleKind (intKind prog w)).eqBool (show A.units<cLine by lia) h5 g5 ?_));by_cases e2:x.2=y.2
   ·rw[decide_eq_true e2];refine kat_yes (kat_nil ?_);rw[e2,vA]at h;exact h
   ·rw[decide_eq_false e2];refine kat_no ?_;rw[show(b && (0+1==0))=false by cases b<;>rfl];exact kat_one _ _ (LtN.tups (n:=A.units) h5 g5 ∅ A (Am _) prog w _ _ h)
  ·rw[if_neg e]at h;rw[beq_eq_false_iff_ne.mpr e];refine kat_no ?_;rw[show(b && (0==0))=b by cases b<;>rfl];cases b with
   |true=>exact oneLt_int h
   |false=>exact kat_one _ _ (Ml (Q:=PySem.W.BoolBack Q) h)
def aBv(l:Bool)(zs:List Nat):SetTable:={mask:=7,place:=zs.toArray,dummies:= #[],finger:=0,led:=l,moves:=0,plain:=true}
def kE(zs:List Nat)(tk:Nat->Tok):Array (Int×Value):=(zs.map λz:Nat=>((z:Int),Cv (z:Int) (tk z))).toArray
def zs1(x:Nat):Bool->List Nat
 |false=>[]
 |true=>[x]
def bCl{l:Bool}{x:Nat}{t:Tok}(hx:x∈[1,2,3]):layNew (aBv l []) (kE [] tk) (x:Int) (.int x t)=(kE [x] (λ_=>t),aBv l [x],false,false):=by
 simp only[Fc,Ei,or_false]at hx;rcases hx with rfl|rfl|rfl<;>cases l<;>kernel_rfl
variable {x:Nat}
def aHx(s:Shared)(a:Addr)(l:Bool)(x:Nat)(b:Bool):Prop:=∃o ep tk,s.heap.get? a=some o/\o.ExactSet/\o.data=.set (kE (zs1 x b) tk) ep (aBv l (zs1 x b))
def aUh(b:Bool)(tk:Nat->Tok):(kE (zs1 x b) tk).size<=1:=by cases b<;>simp[kE,zs1]
def aPl{l b:Bool}(hx:x∈[1,2,3]):(aBv l (zs1 x b)).fits (kE (zs1 x b) tk).size=true:=by
 simp only[Fc,Ei,or_false]at hx;cases b<;>rcases hx with rfl|rfl|rfl<;>rfl
def aQv(hx:x∈[1,2,3]):(intKind prog w).hash (x:Int)=(x:Int):=by
 simp only[Fc,Ei,or_false]at hx;rcases hx with rfl|rfl|rfl<;>rfl
def aVp{b:Bool}(hx:x∈[1,2,3]):ElemsOf (intKind prog w) (kE (zs1 x b) tk).toList:=by
 intro e he;obtain⟨z,hm,rfl⟩:=List.mem_map.mp (show e∈(zs1 x b).map _ from he);obtain rfl:z=x:=by
  cases b
  ·cases hm
  ·exact List.mem_singleton.mp hm
 exact⟨⟨(z:Int),Qg _ _ _ _,(aQv hx).symm⟩,rfl⟩
def aBs{a:Addr}{l b:Bool}{t:Tok}{Q:Bool->Shared->Prop}(hx:x∈[1,2,3])(S:aHx s a l x b)(h:∀(b:Bool) h',Cg a s.heap h'->aHx {s with heap:=h'} a l x true->Q b {s with heap:=h'}):
  wpAny (model prog w) A (setAddHashed a (.int x t) (x:Int)) Q E s:=by
 obtain⟨o,ep,tk,ho,hex,hd⟩:=S;have hel:=aVp (prog:=prog) (w:=w) (b:=b) (tk:=tk) hx;have hsz:=aUh (x:=x) b tk;unfold setAddHashed setAddHashedIn;refine Bp (Aa (Dt ho hd (aPl hx) ?_));dsimp only;rw[byScan_of (knd:=intKind prog w) rfl (by unfold scanBound;lia) hel];simp only[↓reduceIte];unfold setAddByScan;refine Aa ?_;refine Aa (Jl ?_);have hkey:(intKind prog w).is (x:Int) (.int x t)=true:=Qg _ _ _ _;have e1:wpAny (model prog w) A (setScan a (.int x t) (x:Int) true (kE (zs1 x b) tk)) (λr s'=>s'=s/\r=(match (kE (zs1 x b) tk).toList.findIdx? (λe=>(intKind prog w).is (x:Int) e.2)with|some j=> .found (0+j)|none=> .absent)) E s:=by
  have:=wpAny_setScan_of (knd:=intKind prog w) (adding:=true) (A:=A) (E:=E) (Q:=λr s'=>s'=s/\r=(match (kE (zs1 x b) tk).toList.findIdx? (λe=>(intKind prog w).is (x:Int) e.2)with|some j=> .found (0+j)|none=> .absent)) hkey ho hd (aPl hx) hel ⟨rfl,rfl⟩;rw[aQv hx]at this;exact this
 refine Aa (Du e1 (λr s' hr=>?_) λ_ _ z=>z);obtain⟨rfl,rfl⟩:=hr;cases b with
 |true=>
  have e:(kE (zs1 x true) tk).toList.findIdx? (λe=>(intKind prog w).is (x:Int) e.2)=some 0:=by
   show List.findIdx? _ [((x:Int),Cv (x:Int) (tk x))]=some 0;rw[List.findIdx?_cons,if_pos (Qg _ _ _ _)]
  rw[e];dsimp only;exact Ad (Ad (h false s'.heap (Ny a s'.heap) ⟨o,ep,tk,ho,hex,hd⟩))
 |false=>
  have e:(kE (zs1 x false) tk).toList.findIdx? (λe=>(intKind prog w).is (x:Int) e.2)=none:=rfl;rw[e];dsimp only;rw[show layNew (aBv l (zs1 x false)) (kE (zs1 x false) tk) (x:Int) (.int x t)=_ from bCl hx];dsimp only;refine Aa (Ad ?_);rw[if_pos (show(aBv l [x]).plain=true from rfl)];refine Aa ?_;rw[hashByValue_scannable 8 (show(Cv x t).scannable=true from rfl)];refine Ad ?_;rw[if_pos (show plainKind (Cv x t)=true from rfl)];refine Aa (Mv ho hd ?_ (by rw[Cp];show(1:Nat)<=_;decide));rw[show(!false && (aBv l [x]).tooFull)=false from rfl]
  ac_rfl
  refine Ad (Ad ?_);have hg:=Bn (Hd (kE [x] λ_=>t) (aBv l [x])) ho (by rw[Km _ _ hd];rfl);rw[Km _ _ hd]at hg;exact h true _ (Bo s'.heap a (Hd _ _)) ⟨_,_,λ_=>t,hg,hex,rfl⟩
def nM{I:Addr}{n:Nat}{St:Nat->Shared->Prop}
  (W:WalksS prog w A.in1 I fp wr G n P St) (S:Addr) (hSf:S∉fp) (l:Bool)
  (hval:∀i v,P i v->∃t,v=.int x t) (h3:x∈[1,2,3]):
  ∀(k i:Nat)(s:Shared),n-i=k->i<=n->St i s->aHx s S l x (decide (0<i))->
   (∀s',Moved (S::wr) G s s'->aHx s' S l x (decide (0<n))->R (.ok (.ret .none)) s')->
   codeAny (model prog w) A (.builtin "set.update.loop" ⟨[.ref S,.ref I],[]⟩) R s:=by
 have hSw:S∉wr:=λh=>hSf (W.sub _ h);have hsub:∀b∈wr,b∈S::wr:=λb hb=>Ae _ hb;intro k;induction k with
 |zero=>
  intro i s hk hi hst hS hR;have hin:i=n:=by lia
  subst hin;refine Cz Dq ?_;rw[Cb Bt _];show wpAny _ A.in1 (pyNext (.ref I)>>=_) _ _ s;refine Aa (W.done s _ _ hst λs' hm=>?_);show wpAny _ A.in1 (ret Ce) _ _ s';exact Ad (hR s' (hm.mono hsub) (by
   obtain⟨o,ep,tk,ho,rest⟩:=hS;exact⟨o,ep,tk,hm.heap S _ hSw ho,rest⟩))
 |succ k ih=>
  intro i s hk hi hst hS hR;have hlt:i<n:=by lia
  refine Cz Dq ?_;rw[Cb Bt _];show wpAny _ A.in1 (pyNext (.ref I)>>=_) _ _ s;refine Aa (W.item i s _ _ hlt hst λv s' hP hst' hm=>?_);obtain⟨t,rfl⟩:=hval i v hP;have hS':aHx {s' with toks:=s'.toks+1} S l x (decide (0<i)):=by
   obtain⟨o,ep,tk,ho,rest⟩:=hS;exact⟨o,ep,tk,hm.heap S _ hSw ho,rest⟩
  show wpAny _ A.in1 (holding [Cv x t] (setAdd S (.int x t))>>=_) _ _ s';refine Aa (Bp ?_);unfold setAdd;refine Bp ?_;refine Aa ((intKind prog w).pyHash (k:=(x:Int)) (Qg _ _ _ _) ?_);rw[aQv h3];refine aBs (s:={s' with toks:=s'.toks+1}) h3 hS' λb h' hsb hS2=>?_;refine Ad ⟨Ee Bt _,ih (i+1) _ ∅ hlt (W.frame _ s' _ _ hst' (He _) λb hb o e=>?_) (by rw[decide_eq_true (Pz i)];exact hS2) λs'' hm'' hS''=>?_⟩
  ·rw[hsb.2 b (λh:b=S=>hSf (by rw[<-h];exact hb))];exact e
  ·refine hR s'' (Qa W.gtrans ((hm.mono hsub).then_heap (He _) λb o hb e=>?_) hm'') hS'';rw[hsb.2 b (λh:b=S=>hb (by rw[h];exact Af))];exact e
def aA9(hh:A.handled=none)(hl:s.heap.IsList l items)(hi:∀(i:Nat)(v:Value),items[i]? =some v->∃t,v=.int x t)(h3:x∈[1,2,3])
  (h:∀(h':Heap)(tk:Nat),aHx {s with heap:=h',toks:=tk} s.heap.objs.size (!w.params.followText "set-order") x (decide (0<items.size))->(∀b o,b<s.heap.objs.size->s.heap.get? b=some o->h'.get? b=some o)->Q (.ref s.heap.objs.size) {s with heap:=h',toks:=tk}):
  wpAny (model prog w) A (call (.type "set") [.ref l]) Q E s:=
 vI (λs'=>aHx s' s.heap.objs.size (!w.params.followText "set-order") x (decide (0<items.size))) hh hl
  (λs1 W hSf hA hnt st kp hS hR=>nM W s.heap.objs.size hSf _ hi h3 (items.size-0) 0 s1 ∅ (Ay _) st ⟨_,0,λ_=>0,hS,⟨rfl,rfl,rfl⟩,rfl⟩ λs' hm S=>hR s' hm S)
  λh' tk S kp=>h h' tk S kp
def yN(h:Heap)(d:Addr)(es:Array DictEntry)(ep:Nat):Prop:=∃o,h.get? d=some o/\o.ExactDict/\o.data=.dict es ep
def yN.at_{h h':Heap}{d:Addr}{es:Array DictEntry}{ep:Nat}(x:yN h d es ep)(e:∀o,h.get? d=some o->h'.get? d=some o):yN h' d es ep:=let⟨o,ho,r⟩:=x;⟨o,e _ ho,r⟩
def yN.lt{h:Heap}{d:Addr}{es:Array DictEntry}{ep:Nat}(x:yN h d es ep):d<h.objs.size:=let⟨_,ho,_⟩:=x;Ar ho
variable {d it:Addr}{es:Array DictEntry}{ep i:Nat}
def yN.ty(x:yN s.heap d es ep):s.TypeIs (.ref d) "dict":=let⟨o,ho,c,_⟩:=x;⟨o,ho,c.1⟩
def aM3(lo:(d==sysModules)=false)(x:yN s.heap d es ep)
  (q:Q (.ref s.heap.objs.size) {s with heap:=s.heap.push {cls:=.type "dict_keyiterator",data:=.fields #[.ref d,.int 0 0,.int es.size 0,.int ep 0]}}):wpAny (model prog w) A (pyIter (.ref d)) Q E s:=by
 obtain⟨o,ho,c,dd⟩:=id x;refine Mw x.ty Ug (Ca Ug x.ty F.entry_dict_iter ?_ (F.args_dict_iter_1 _));unfold Builtin.«dict.__iter__» Xe;refine Aa (Aa (Gd x.ty (Ad ?_)));show wpAny _ _ (Mb d>>=_) _ _ s;unfold Mb;rw[if_neg (by rw[lo];exact Al)];refine Aa (Ad (Aa (Bw ho dd (Aa (Fd ho dd ?_)))));refine Aa (Bz (Ad ⟨_,rfl,"dict_keyiterator",_,⟨_,Ap _ rfl,rfl⟩,F.slot_dict_keyiterator_next.lookup,?_⟩));simpa[rawInt]using q
def aMp{Q:Option Value->Shared->Prop}(y:s.heap.IsKeyIter it d i es.size ep)(x:yN s.heap d es ep)(hi:i<es.size)
  (q:∀g,g.IsKeyIter it d (i+1) es.size ep->Cg it s.heap g->Q (some es[i].key) {s with heap:=g}):wpAny (model prog w) A (pyNext (.ref it)) Q E s:=by
 obtain⟨o,ho,hc,hd⟩:=id y
 obtain⟨od,h1,_,h2⟩:=x
 have own:Jh "dict_keyiterator"=false:=by decide
 unfold pyNext
 refine Aa (Ql (Hb (name:=As "__next__") y.typeIs Fs (Ca Fs y.typeIs Nl ?_ (Mr _))))
 refine Aa (Ad (Aa (Aa ?_)))
 first|refine Aa (Fj y.typeIs (Ad ?_))|refine Aa (Gv y.typeIs (Ad ?_))
 refine Aa (Pl ho hd ?_)
 simp only[own,Cu,if_false]
 show wpAny _ _ (if(An d==Ce)=true then _ else _) _ _ s
 rw[if_neg (show¬((An d==Ce)=true)from Al)]
 refine Aa (Ad (Aa (Bw h1 h2 ?_)))
 rw[if_neg (by simp)]
 refine Aa (Ad (Aa (Fd h1 h2 ?_)))
 rw[if_neg (by simp)]
 refine Ad ?_
 simp only[show¬((i:Int)<0)from by lia,if_false,Hi,Bc hi]
 refine Aa ?_
 first|refine Aa (Fj y.typeIs (Ad ?_))|refine Aa (Gv y.typeIs (Ad ?_))
 refine Aa (Rq y.typeIs ?_)
 show wpAny _ _ (setField (.ref it) 1 (rawInt ((i:Int)+1))>>=_) _ _ s
 refine Aa (Jb ho hd (by simp) ?_)
 have y':(s.heap.update it (Oy (·.setIfInBounds 1 (rawInt ((i:Int)+1))))).IsKeyIter it d (i+1) es.size ep:=
  ⟨_,Bn _ ho (Jv (Fg hd _)),(Lk ..).trans hc,by rw[Fg hd];simp[rawInt]⟩
 refine Aa (Bp (Aa (Rq (s:={s with heap:=s.heap.update it (Oy (·.setIfInBounds 1 (rawInt ((i:Int)+1))))}) y'.typeIs ?_)))
 show wpAny _ _ (pure es[i].key) _ _ _
 exact Ad (Ad ⟨_,rfl,Ad (q _ y' (Bo ..))⟩)
def aSt{Q:Option Value->Shared->Prop}(hh:A.handled=none)(y:s.heap.IsKeyIter it d es.size es.size ep)(x:yN s.heap d es ep)(q:∀g,Wt it s.heap g->Q none {s with heap:=g}):wpAny (model prog w) A (pyNext (.ref it)) Q E s:=by
 obtain⟨o,ho,hc,hd⟩:=id y
 obtain⟨od,h1,_,h2⟩:=x
 have own:Jh "dict_keyiterator"=false:=by decide
 unfold pyNext
 refine Aa (Ql (Hb (name:=As "__next__") y.typeIs Fs (Ca Fs y.typeIs Nl ?_ (Mr _))))
 refine Aa (Ad (Aa (Aa ?_)))
 first|refine Aa (Fj y.typeIs (Ad ?_))|refine Aa (Gv y.typeIs (Ad ?_))
 refine Aa (Pl ho hd ?_)
 simp only[own,Cu,if_false]
 show wpAny _ _ (if(An d==Ce)=true then _ else _) _ _ s
 rw[if_neg (show¬((An d==Ce)=true)from Al)]
 refine Aa (Ad (Aa (Bw h1 h2 ?_)))
 rw[if_neg (by simp)]
 refine Aa (Ad (Aa (Fd h1 h2 ?_)))
 rw[if_neg (by simp)]
 refine Ad ?_
 simp only[show¬((es.size:Int)<0)from by lia,if_false,Hi,Oq (Am _)]
 refine Aa ?_
 first|refine Aa (Fj y.typeIs (Ad ?_))|refine Aa (Gv y.typeIs (Ad ?_))
 show wpAny _ _ (setField (.ref it) 0 .none>>=_) _ _ s
 refine Aa (Jb ho hd (by simp) ?_)
 show wpAny _ _ (newExc (.type "StopIteration") []>>=_) _ _ _
 simp only[newExc,newTuple]
 refine Aa (Aa (Bz ?_ (by size_fits)))
 refine Aa (m:=firstArgMember _ _) (Ot (a:=Ce) (by first|rfl|(simp only[firstArgMember];rfl)) ?_)
 refine Bz ?_ (by size_fits)
 simp only[raiseNew]
 refine Aa (wpAny_handled ?_)
 rw[show A.in1.handled=none from hh]
 refine Aa (Ad (wpAny_throw ?_))
 refine Aa (Dm (T:="StopIteration") (b:=true) ⟨_,Ap _ rfl,rfl⟩ isSubtype_stop ?_)
 exact Ad (q _ (((Bo ..).extBut.push _).push _))
def aL6(hh:A.handled=none)(I d:Addr)(ne:d≠I)(es:Array DictEntry)(ep:Nat):Walks prog w A I [I,d] [I] es.size (λi v=>∃e,es[i]? =some e/\v=e.key) (λi h=>h.IsKeyIter I d i es.size ep/\yN h d es ep) where
 sub:=λb hb=>by simp at hb;simp[hb]
 frame:=λ_ _ _ st hk=>⟨st.1.at λo e=>hk I (by simp) o e,st.2.at_ λo e=>hk d (by simp) o e⟩
 item:=λi s Q E hi st hQ=>aMp st.1 st.2 hi λg y' sb=>hQ _ g s.toks ⟨_,Bc hi,rfl⟩ ⟨y',st.2.at_ λo e=>sb.extBut d o ne e⟩ λb o hb e=>sb.extBut b o (λh=>hb (by simp[h])) e
 done:=λs Q E st hQ=>aSt hh st.1 st.2 λg he=>hQ g s.toks λb o hb e=>he b o (λh=>hb (by simp[h])) e
 self:=λ_ _ _ _ st hQ=>wpAny_pyIter_keyiter st.1 hQ
def aTs(lo:(d==sysModules)=false):Rh prog w "dict" d d es.size (λi v=>∃e,es[i]? =some e/\v=e.key) (λh=>yN h d es ep) where
 type:=λ_ hm=>hm.ty
 there:=λ_ hm=>⟨hm.lt,hm.lt⟩
 keep:=λ_ _ hm hk=>hm.at_ λo e=>hk d (.inl rfl) o e
 notList:=by decide
 notTuple:=by decide
 hint:=λ_ _ _ _ hm hq=>PySem.W.kdl_hint_dict hm.ty hq
 iter:=λ_ _ hh hm=>⟨_,_,(λ_ _ hq=>aM3 lo hm hq),aL6 hh _ d (Az hm.lt) es ep,⟨⟨_,Ap _ rfl,rfl,rfl⟩,hm.at_ λ_ e=>Ai _ e⟩⟩
def xN(x:Int×List Int):Int:=reduceHash (Cd [hashInt x.1,reduceHash (Cd (x.2.map hashInt))])
def aL9(M:Nat):List Int->Nat->Bool
 | [],_=>true
 |h::t,b=>bif Tf (Nat.land (Uc b (Kz h M).toNat) 1) 0 then aL9 M t (Nat.lor b (Nat.shiftLeft 1 (Kz h M).toNat))else false
theorem zF{M:Nat}:∀{l:List Int}{b:Nat},aL9 M l b=true->l.Nodup/\∀h∈l,b.testBit (h % (M:Int)).toNat=false
 | [],_,_=>⟨Hg,nofun⟩
 |h::t,b,e=>by
  unfold aL9 at e;cases hb:Tf (Nat.land (Uc b (Kz h M).toNat) 1) 0 with
  |false=>rw[hb]at e;cases e
  |true=>
   rw[hb]at e;obtain⟨h1,h2⟩:=zF e;have tb:b.testBit (h % (M:Int)).toNat=false:=by
    have:=Nat.eq_of_beq_eq_true hb;unfold Nat.testBit;rw[Nat.and_comm,show(b>>>(h % (M:Int)).toNat) &&& 1=0 from this];rfl
   have or_:∀x∈t,b.testBit (x % (M:Int)).toNat=false/\(x % (M:Int)).toNat≠(h % (M:Int)).toNat:=λx hx=>by
    have:=h2 x hx;have e:(b |||1<<<(h % (M:Int)).toNat).testBit (x % (M:Int)).toNat=false:=this;rw[Ub,Bool.or_eq_false_iff,Rz,Qt]at e;exact⟨e.1,λz=>of_decide_eq_false e.2 z.symm⟩
   refine⟨List.nodup_cons.mpr ⟨λz=>(or_ h z).2 rfl,h1⟩,λx hx=>?_⟩;rcases List.mem_cons.mp hx with z|z
   ·rw[z];exact tb
   ·exact(or_ x z).1
def dig:List Int:=[0,1,2,3,4,5,6,7,8]
def plc:Nat->List (List Int)
 |0=>[[]]
 |n+1=>(plc n).flatMap λp=>dig.map λa=>a::p
def plP(p:List Int):Int:=p.foldl (λa x=>a*(x+1)) 1
def hsK(n:Nat):List (Int×List Int):=[1,2,3,4,5,6,7,8,9,10,11,12].flatMap λr=>((plc n).filter λp=>decide (plP p<=40)).map λp=>(r,p)
def hs1:aL9 640 ((hsK 1).map xN) 0=true:=by decide+kernel
def hs2:aL9 21952 ((hsK 2).map xN) 0=true:=by decide+kernel
def hsG(Ms:List Nat)(L:List Int):Bool:=Ms.zipIdx.all λx=>aL9 x.1 (L.filter λh=>Tf (Kz h 8).toNat x.2) 0
def hs3:hsG [7569,6969,7875,8027,7169,6399,5115,6853] ((hsK 3).map xN)=true:=by decide+kernel
def aX6{Ms:List Nat}(hl:Ms.length=8){L:List Int}(h:hsG Ms L=true):L.Nodup:=by
 refine List.pairwise_iff_getElem.mpr λi j hi hj ij e=>?_;have hg:(Kz L[i] 8).toNat<Ms.length:=by
  have h1:=Fx L[i] (show(8:Int)≠0 by decide);have h2:=Eo L[i] (show(0:Int)<8 by decide);show(L[i] % 8).toNat<_
  lia
 have:=List.all_eq_true.mp h (Ms[(Kz L[i] 8).toNat],(Kz L[i] 8).toNat) (by
  rw[List.mem_iff_getElem];exact⟨_,by rw[Qw];exact hg,by rw[Qk];simp⟩)
 have sf:∀n:Nat,Tf n n=true:=Nat.beq_refl;exact List.pairwise_iff_getElem.mp (List.pairwise_filter.mp (zF this).1) i j hi hj ij (sf _) (by rw[<-e];exact sf _) e
theorem aKj:∀{n:Nat}{p:List Int},p.length=n->(∀x∈p,0<=x/\x<=8)->p∈plc n
 |0,[],_,_=>List.mem_singleton.mpr rfl
 |n+1,a::p,hl,h=>by
  refine List.mem_flatMap.mpr ⟨p,aKj (Es hl) λx hx=>h x (Ae _ hx),List.mem_map.mpr ⟨a,?_,rfl⟩⟩;obtain⟨h1,h2⟩:=h a Af;obtain⟨k,rfl⟩:∃k:Nat,a=k:=⟨a.toNat,∅⟩;have:k<=8:=by lia
  match k,this with
  |0,_|1,_|2,_|3,_|4,_|5,_|6,_|7,_|8,_=>decide
theorem aCs{α β:Type}{f:α->β}:∀{l:List α}{x y:α},(l.map f).Nodup->x∈l->y∈l->f x=f y->x=y
 |a::l,x,y,h,hx,hy,e=>by
  rw[Au,Mn]at h;rcases List.mem_cons.mp hx with e1|e1<;>rcases List.mem_cons.mp hy with e2|e2
  ·rw[e1,e2]
  ·exact absurd (List.mem_map.mpr ⟨y,e2,by rw[<-e,e1]⟩) h.1
  ·exact absurd (List.mem_map.mpr ⟨x,e1,by rw[e,e2]⟩) h.1
  ·exact aCs h.2 e1 e2 e
def aYl{P:Program}{w:World}{x y:Int×List Int}{n:Nat}(h1:1<=n)(h3:n<=3)(hx:1<=x.1/\x.1<=12/\x.2.length=n/\(∀a∈x.2,0<=a/\a<=8)/\plP x.2<=40)(hy:1<=y.1/\y.1<=12/\y.2.length=n/\(∀a∈y.2,0<=a/\a<=8)/\plP y.2<=40)(e:(cT (intKind P w)).hash x=(cT (intKind P w)).hash y):x=y:=by
 have e:xN x=xN y:=e;have has:∀z:Int×List Int,(1<=z.1/\z.1<=12/\z.2.length=n/\(∀a∈z.2,0<=a/\a<=8)/\plP z.2<=40)->z∈hsK n:=λz ⟨a,b,c,d,e⟩=>by
  refine List.mem_flatMap.mpr ⟨z.1,?_,List.mem_map.mpr ⟨z.2,List.mem_filter.mpr ⟨aKj c d,decide_eq_true e⟩,rfl⟩⟩;obtain⟨k,hk⟩:∃k:Nat,z.1=k:=⟨z.1.toNat,∅⟩;rw[hk]at a b⊢;have:1<=k/\k<=12:=by lia
  match k,this with
  |1,_|2,_|3,_|4,_|5,_|6,_|7,_|8,_|9,_|10,_|11,_|12,_=>decide
 have nd:((hsK n).map xN).Nodup:=by
  match n,h1,h3 with
  |1,_,_=>exact(zF hs1).1
  |2,_,_=>exact(zF hs2).1
  |3,_,_=>exact aX6 rfl hs3
 exact aCs nd (has x hx) (has y hy) e
end PySem
namespace L2
variable {pos:Pos}{a:Expr}{scope:Scope}{x:Str}{i:Nat}{xs:List V}{p:Addr}{k:Nat}{elt iter tg:Expr}{cl:List (Str×Addr)}{v:V}{g:TG}{ns:List Str}{te:TE}{wi:TI}{P:Program}{ps:List Str}{cis:List Expr}{y:V}{r:List V->Hp->VK->Prop}{Q:VK}{E:Value->Shared->Prop}{rest:List Expr}{S:Addr->Prop}{tc:TT}{m:Nat}{acc:List V}{t:TE}{f:Int->Int->V}{Cs:Addr->Prop}{body:List Stmt}{c:Expr}{e:Expr}{C:Addr}{α:Type}
open PySem PySem.Spec PyProof.Rows
section
variable {prog:Program}{w:World}{A:Around}{R:Result->Shared->Prop}{s:Shared}
def PTp(X:Cx)(cis:List Expr)(t:TT):Prop:=
 ∀(pins:List (Addr×Obj))(s:Shared)(σ:St)(H:Hp)(Q:Bool->Hp->Prop),Inv X pins σ H s->t σ H Q->wpAny (model X.prog X.w) X.A (forIn cis true λc r=>if r=true then do let ok<-isTrue c X.env (eval c X.env);pure (Gi ok)else pure (Gi r)) (TP X pins σ Q) X.xe s
def aSy{X:Cx}{t:TT}(h:PT X c t):PTp X [c] t:=λpins s σ H Q I q=>wpAny_tests_one (h pins s σ H Q I q)
def aMz:TT:=λ_ H Q=>Q true H
def aJg{X:Cx}:PTp X [] aMz:=λpins s σ H Q I q=>wpAny_tests_nil ⟨H,I,q⟩
def aBk{elt target iter:Expr}{it acc:Value}{env:Env}(I:Nat->Shared->Prop)
  (turn:∀n s,I n s->wpAny (model prog w) A (pyNext it) (λr s₁=>match r with
   |none=>R (.ok .next) s₁
   |some v=>wpAny (model prog w) A (letOwnedTupleGo target it v) (λ_ s₁'=>wpAny (model prog w) A (assign target env v) (λ_ s₂=>wpAny (model prog w) A (forIn cis true λc r=>if r=true then do let ok<-isTrue c env (eval c env);pure (Gi ok)else pure (Gi r)) (λok s₂'=>if ok=true then wpAny (model prog w) A (eval elt env) (λx s₃=>
     wpAny (model prog w) A (call (.builtin "list.append") [acc,x]) (λ_ s₄=>∃m,m<n/\I m s₄) (λ_ _=>False) s₃) (λ_ _=>False) s₂' else∃m,m<n/\I m s₂') (λ_ _=>False) s₂) (λ_ _=>False) s₁') (λ_ _=>False) s₁) (λ_ _=>False) s)
  (n:Nat) (h:I n s):
  codeAny (model prog w) A (.compLoop (.ListComp elt [⟨target,iter,cis,0⟩] scope pos) 0 it acc env) R s:=by
 refine codeAny_loop rfl I (λn s hI=>?_) n h;show wpAny _ _ ((compTurn (.ListComp elt [⟨target,iter,cis,0⟩] scope pos) 0 it acc env).onRaise (λx=>do noteFrame x env;theTreesLotGoes x)) _ _ s;refine wpAny_noted ?_;rw[compTurn_list];refine Aa (Mc (Aa (Du (turn n s hI) (λr s₁ h₁=>?_) λ_ _ h'=>h'.elim)));cases r with
 |none=>exact Ad h₁
 |some v=>
  refine Aa (Du h₁ (λ_ s₁' h₁'=>?_) λ_ _ h'=>h'.elim);refine Aa (Du h₁' (λ_ s₂ h₂=>?_) λ_ _ h'=>h'.elim);refine Aa (Du h₂ (λokb s₃ h₃=>?_) λ_ _ h'=>h'.elim);cases okb with
  |false=>exact Ad ⟨rfl,h₃⟩
  |true=>exact Aa (Aa (Du h₃ (λx s₄ h₄=>Aa (Du h₄ (λ_ s₅ h₅=>Ad (Ad ⟨rfl,h₅⟩)) λ_ _ h'=>h'.elim)) λ_ _ h'=>h'.elim))
end
theorem lC{env:Env}(hk:env.scope.kind=.function):∀{names:List (Str×NameKind)}{x:Str},names.lookup x=some .free->env.kindOf x=some .cell->
  (names.map λ(n,k)=>if(k==Dj && env.scope.kind== .function && env.kindOf n==some .cell)then(n,Hk)else(n,k)).lookup x=some .cell
 | [],_,h,_=>by simp at h
 |(n,k)::r,x,h,hc=>by
  have ih:=@lC env hk r x;show Fp x ((if(k==Dj && env.scope.kind== .function && env.kindOf n==some .cell)=true then(n,Hk)else(n,k))::_)=_;cases hx:x==n with
  |true=>
   have e:x=n:=eq_of_beq hx;subst e;simp only[Bq,hx]at h;cases h;rw[if_pos (by rw[hk,hc];rfl)];simp[Bq]
  |false=>
   simp only[Bq,hx]at h;by_cases hcc:(k==Dj && env.scope.kind== .function && env.kindOf n==some .cell)=true
   ·rw[if_pos hcc];simp only[Bq,hx];exact ih h hc
   ·rw[if_neg hcc];simp only[Bq,hx];exact ih h hc
theorem lV{env:Env}:∀{names:List (Str×NameKind)}{x:Str},((names.map λ(n,k)=>if(k==Dj && env.scope.kind== .function && env.kindOf n==some .cell)then(n,Hk)else(n,k)).lookup x=some .cell∨
  (names.map λ(n,k)=>if(k==Dj && env.scope.kind== .function && env.kindOf n==some .cell)then(n,Hk)else(n,k)).lookup x=some .free)->names.lookup x=some .free∨names.lookup x=some .cell
 | [],_,h=>by simp at h
 |(n,k)::r,x,h=>by
  have ih:=@lV env r x
  replace h:Fp x ((if(k==Dj && env.scope.kind== .function && env.kindOf n==some .cell)=true then(n,Hk)else(n,k))::_)=_∨Fp x ((if(k==Dj && env.scope.kind== .function && env.kindOf n==some .cell)=true then(n,Hk)else(n,k))::_)=_:=h
  cases hx:x==n with
  |true=>
   simp only[Bq,hx];by_cases hcc:(k==Dj && env.scope.kind== .function && env.kindOf n==some .cell)=true
   ·have:k=.free:=by
     have:=(Ek _ _▸(Ek _ _▸hcc).1).1;exact eq_of_beq this
    exact .inl (by rw[this])
   ·rw[if_neg hcc]at h;simp only[Bq,hx]at h;rcases h with h|h
    ·exact .inr h
    ·exact .inl h
  |false=>
   simp only[Bq,hx];by_cases hcc:(k==Dj && env.scope.kind== .function && env.kindOf n==some .cell)=true
   ·rw[if_pos hcc]at h;simp only[Bq,hx]at h;exact ih h
   ·rw[if_neg hcc]at h;simp only[Bq,hx]at h;exact ih h
def rE{a b c:Nat}(h1:a<b)(h2:b<=c):a≠c:=Az (Bg h1 h2)
abbrev bT(X:Cx)(Nc:List Str)(scope:Scope)(cl:List (Str×Addr))(C:Addr)(s2:Shared)(H2:Hp)(fp:List Addr):Cx:=
 {prog:=X.prog,w:=X.w,K:=X.K,mg:=X.mg,base:=X.base,A:=X.A,N:=Nc,s₀:=s2,H₀:=H2,env:=compEnvC scope cl C X.env,outer:=X.stack,stack:=X.stack,ex:=fp,fn:=λ_=>false,calm:=X.calm,pn:=[],xe:=λ_ _=>False}
abbrev eQ(own:List Str)(cap:List (Str×Nat)):List Str:=own++cap.map (·.1)
def oF(no:Nat)(cap:List (Str×Nat))(σ:St):St:=Ke no none++cap.map λp=>(σ[p.2]?).join
structure gG(X:Cx)(scope:Scope)(cap:List (Str×Nat))(cl:List (Str×Addr)):Prop where
 clos:closureFor scope X.env=pure cl
 kind:scope.kind=.function
 nocell:∀y∈scope.names,y.2≠.cell
 names:∀y∈scope.names,y.2=.local->scope.names.lookup y.1=some .local
 sub:∀x c,cl.lookup x=some c->X.env.cells.lookup x=some c
 has:∀x,scope.names.lookup x=some .free->∃c,cl.lookup x=some c
 cap:∀p∈cap,X.N[p.2]? =some p.1/\scope.names.lookup p.1=some .free/\X.env.scope.names.lookup p.1=some .cell
def aU8(J:It)(D:Addr)(g:TG)(te:TE)(Q:VK)(σ:St)(H:Hp):Prop:=∃W:Nat->Nat->St->Hp->Prop,
 (∃m,W 0 m σ H)/\∀i m σc H2,W i m σc H2->
  (J.stop i H2/\Q (.ref D) H2)∨(J.go i H2/\∀x H3,J.yld i H2 x H3->g x σc H3 λσ4 H4=>te σ4 H4 λy H5=>∃ys,H5 D=some (.lst ys)/\ys.length<sizeLine/\∃m',m'<m/\W (i+1) m' σ4 (upd H5 D (.lst (ys++[y]))))
def aB0(no:Nat)(cap:List (Str×Nat))(wi:TI)(g:TG)(te:TE):TE:=λσ H Q=>wi σ H λJ H1=>∀D,H1 D=none->aU8 J D g te Q (oF no cap σ) (upd H1 D (.lst []))
variable {X:Cx}{pins:List (Addr×Obj)}{σ:St}{s2:Shared}{H2:Hp}
def aW3(J:It)(D:Addr)(g:TG)(tc:TT)(te:TE)(Q:VK)(σ:St)(H:Hp):Prop:=∃W:Nat->Nat->St->Hp->Prop,
 (∃m,W 0 m σ H)/\∀i m σc H2,W i m σc H2->
  (J.stop i H2/\Q (.ref D) H2)∨(J.go i H2/\∀x H3,J.yld i H2 x H3->g x σc H3 λσ4 H4=>tc σ4 H4 λok H4'=>if ok=true then te σ4 H4' λy H5=>∃ys,H5 D=some (.lst ys)/\ys.length<sizeLine/\∃m',m'<m/\W (i+1) m' σ4 (upd H5 D (.lst (ys++[y])))else∃m',m'<m/\W (i+1) m' σ4 H4')
def zZ(no:Nat)(cap:List (Str×Nat))(wi:TI)(g:TG)(tc:TT)(te:TE):TE:=λσ H Q=>wi σ H λJ H1=>∀D,H1 D=none->aW3 J D g tc te Q (oF no cap σ) (upd H1 D (.lst []))
def aLw{no:Nat}{cap:List (Str×Nat)}{own:List Str}(hno:own.length=no)(h1:(eQ own cap)[i]? =some x)(h2:(oF no cap σ)[i]? =some (some v)):
  ∃p∈cap,p.1=x/\σ[p.2]? =some (some v):=by
 subst hno;unfold oF at h2;by_cases hi:i<own.length
 ·rw[Ep (by simpa using hi),Ea]at h2;rw[if_pos hi]at h2;cases h2
 ·rw[Eh (by simpa using hi)]at h2;unfold eQ at h1;rw[Eh (by simpa using hi)]at h1;rw[Em,Ax]at h2;rw[Ax]at h1;cases e:cap[i-own.length]? with
  |none=>rw[e]at h1;cases h1
  |some p=>
   rw[e]at h1 h2;refine⟨p,Ba e,Bk h1,?_⟩;have q:(σ[p.2]?).join=some v:=Bk h2;cases e2:σ[p.2]? with
   |none=>rw[e2]at q;cases q
   |some o=>rw[e2]at q;exact congrArg some q
def yE{own:List Str}{cap:List (Str×Nat)}{J:It}{fp:List Addr}{it:Addr}{tn:Nat->Heap->Prop}
    (S:gG X scope cap cl) (hc:X.calm=true) (I:Inv X pins σ H2 s2) (T:Turn X.prog X.w X.K tg J fp it tn) (st:tn 0 s2.heap) (hf:∀b∈fp,aFb X pins H2 b)
    (hg:∀C s2 H2 fp,PG (bT X (eQ own cap) scope cl C s2 H2 fp) tg g) (htc:∀C s2 H2 fp,PTp (bT X (eQ own cap) scope cl C s2 H2 fp) cis tc) (he:∀C s2 H2 fp,PE (bT X (eQ own cap) scope cl C s2 H2 fp) elt te)
    (W:Nat->Nat->St->Hp->Prop) (w0:∃m,W 0 m (oF own.length cap σ) (upd H2 s2.heap.objs.size (.lst [])))
    (turn:∀i m σc H3,W i m σc H3->(J.stop i H3/\Q (.ref s2.heap.objs.size) H3)∨(J.go i H3/\∀x H4,J.yld i H3 x H4->g x σc H4 λσ5 H5=>tc σ5 H5 λok H5'=>if ok=true then te σ5 H5' λy H6=>∃ys,H6 s2.heap.objs.size=some (.lst ys)/\ys.length<sizeLine/\∃m',m'<m/\W (i+1) m' σ5 (upd H6 s2.heap.objs.size (.lst (ys++[y])))else∃m',m'<m/\W (i+1) m' σ5 H5'))
    {RR:Value->Addr->Result->Shared->Prop}
    (hRR:∀C H' s' m,s2.heap.objs.size<=C->s'.heap.Ns C m->H' C=none->Inv X pins σ H' s'->(∀h',Cg C s'.heap h'->Inv X pins σ H' {s' with heap:=h'})->Q (.ref s2.heap.objs.size) H'->RR (.ref s2.heap.objs.size) C (.ok .next) s')
 :
    wpAny (model X.prog X.w) X.A (newList []) (λacc s₃=>wpAny (model X.prog X.w) X.A (newFunctionEnv scope X.env.globals cl [] X.env.qual none .none (some X.env)) (λcenv s₄=>
      codeAny (model X.prog X.w) X.A (.compStart (.ListComp elt [⟨tg,iter,cis,0⟩] scope pos) 0 (.ref it) acc {cenv with scope:=relabel scope X.env}) (RR acc cenv.locals) s₄) E s₃) E s2:=by
  refine Bz (wpAny_newFunctionEnv S.nocell (by intro y hy;simp at hy) (λh₁ hns₁ hsb₁=>?_) S.kind);dsimp only at hns₁ hsb₁⊢;generalize hH2:s2.heap.push {cls:=.type "list",dict:=none,data:=.seq ([]:List Value).toArray}=G2 at hns₁ hsb₁⊢;have hC:G2.objs.size=s2.heap.objs.size+1:=by rw[<-hH2,Dp]
  have hDC:s2.heap.objs.size≠G2.objs.size:=by rw[hC];exact Az (El _)
  have hCle:s2.heap.objs.size<=G2.objs.size:=by rw[hC];exact He _
  have below:∀b,b<s2.heap.objs.size->b≠G2.objs.size/\b≠s2.heap.objs.size:=λb hb=>⟨by rw[hC];exact Az (Ey hb),Az hb⟩;have old:∀b o,s2.heap.get? b=some o->h₁.get? b=some o:=λb o e=>hsb₁.extBut b o (below b (Ar e)).1 (Ai _ (hH2▸Ai _ e));have hacc:h₁.get? s2.heap.objs.size=some {cls:=.type "list",dict:=none,data:=.seq ([]:List Value).toArray}:=hsb₁.extBut _ _ hDC (Ai _ (hH2▸Ap _ rfl));have hfps:∀b∈fp,b<s2.heap.objs.size:=λb hb=>by
    obtain⟨o,e,_⟩:=T.obj _ _ st b hb;exact Ar e
  have hfree:∀b,s2.heap.objs.size<=b->H2 b=none:=λb hb=>I.hok.fresh hb;generalize hX:bT X (eQ own cap) scope cl G2.objs.size s2 H2 fp=X';have hOk:X'.Ok:=by
    subst hX;refine⟨I.ok.mod,S.kind,I.ok.glob,I.ok.blt,hCle,λx y c e1 e2=>I.ok.inj x y c (S.sub x c e1) (S.sub y c e2),λx hx=>?_,λx c z=>(Al z).elim,I.ok.hd,I.ok.frames,.inl rfl,
      λb hb=>⟨(below b (hfps b hb)).1,λx c e=>(hf b hb).2.2.2.2.1 x c (S.sub x c e)⟩,I.bs,Cc I.ok.bsz I.sz,λb o e hb=>?_,λb hb z=>?_,I.stack,I.stkFree⟩
    · rcases lV (env:=X.env) (names:=scope.names) (x:=x) hx with h|h
      · exact S.has x h
      · exact absurd rfl (S.nocell _ (Dl h))
    · rcases (hf b hb).2.2.2.1 with z|z
      · exact I.ok.noex b o e z
      · exact absurd (Bg (Ar e) (Cc I.ok.bsz z)) (Ds _)
    · rcases List.mem_cons.mp (I.stkSub b z)with z|z
      · exact(hf b hb).2.1 z
      · exact(hf b hb).2.2.1 z
  have hI0:Inv X' [] (oF own.length cap σ) (upd H2 s2.heap.objs.size (.lst [])) {s2 with heap:=h₁,toks:=s2.toks+([]:List (Str×Value)).length}:=by
    subst hX;refine⟨hOk,rfl,I.bare,Un.laid old (Am _) (hfree _ (Am _)),⟨_,hns₁,λi x v e1 e2 e3=>?_⟩,λx c e=>?_,?_,λx c e=>?_,λp hp=>absurd (show p∈([]:List (Addr×Obj))from hp) (by simp),?_,?_⟩
    · obtain⟨p,hp,rfl,hσ⟩:=aLw rfl e1 e2
      obtain⟨c1,c2,c3⟩:=S.cap p hp;obtain⟨m,hn,hl⟩:=I.loc;obtain⟨u,r,l⟩:=hl p.2 p.1 v c1 hσ (.inr (.inl c3));refine⟨u,r,.inr ⟨.inl (lC I.ok.kind c2 c3),?_⟩⟩;obtain⟨c,hcl⟩:=S.has _ c2;refine⟨c,hcl,?_⟩;rcases l with ⟨k,_⟩|⟨_,c',e,z⟩
      · have k':X.env.scope.names.lookup p.1=some .local:=k
        rw[c3]at k';cases k'
      · have:=S.sub _ _ hcl
        rw[e]at this;cases this;obtain⟨o,ho,hd⟩:=z;exact⟨o,old _ _ ho,hd⟩
    · obtain⟨v,o,ho,hd⟩:=I.cell x c (S.sub x c e)
      exact⟨v,o,old _ _ ho,hd⟩
    · show upd H2 s2.heap.objs.size (.lst []) G2.objs.size=none
      rw[aP (Cy hDC)];exact hfree _ hCle
    · have e':=S.sub x c e
      obtain⟨v,o,ho,hd⟩:=I.cell x c e';rw[aP (below c (Ar ho)).2];exact I.freeC x c e'
    · exact I.hok.laid old (Am _) ⟨Ay _,[],_,.nil,hacc⟩
    · show(oF own.length cap σ).length=(eQ own cap).length
      unfold oF eQ;simp
  have hP:X'.prog=X.prog:=by subst hX;rfl
  have hw:X'.w=X.w:=by subst hX;rfl
  have hK:X'.K=X.K:=by subst hX;rfl
  have hA:X'.A=X.A:=by subst hX;rfl
  have hcalm:X'.calm=true:=by subst hX;exact hc
  have hxe:X'.xe=λ_ _=>False:=by subst hX;rfl
  have henv:X'.env=compEnvC scope cl G2.objs.size X.env:=by subst hX;rfl
  have hbase:∀{σ' H' s'},Inv X' [] σ' H' s'->Un (frs X.stack) fp H2 H' s2.heap s'.heap/\s'.os=s2.os:=λ{σ' H' s'} J=>by subst hX;exact⟨J.base,J.os⟩
  have hg':PG X' tg g:=by subst hX;exact hg _ _ _ _
  have he':PE X' elt te:=by subst hX;exact he _ _ _ _
  have htc':PTp X' cis tc:=by subst hX;exact htc _ _ _ _
  have stat:∀{H':Hp},(∀b∈fp,H' b=none)->∀b∈fp,aFb X' [] H' b:=λ{H'} hn b hb=>by
    subst hX;refine⟨hn b hb,(below b (hfps b hb)).1,λz=>?_,.inl hb,λx c e=>(hf b hb).2.2.2.2.1 x c (S.sub x c e),λp hp=>absurd (show p∈([]:List (Addr×Obj))from hp) (by simp)⟩;rcases List.mem_cons.mp (I.stkSub b z)with z|z
    · exact(hf b hb).2.1 z
    · exact(hf b hb).2.2.1 z
  have back:∀{σ' H' s'},Inv X' [] σ' H' s'->Q (.ref s2.heap.objs.size) H'->RR (.ref s2.heap.objs.size) G2.objs.size (.ok .next) s':=λ{σ' H' s'} J q=>by
    obtain⟨u,ho⟩:=hbase J;have hcf:∀b∈fp,(b∈X.ex∨X.s₀.heap.objs.size<=b)/\b≠X.env.locals/\(∀x c,X.env.cells.lookup x=some c->c≠b)/\∀p∈X.pn++pins,p.1≠b:=λb hb=>by
      obtain⟨f0,f1,f2,f3,f4,f5⟩:=hf b hb;exact⟨f3,f1,f4,f5⟩
    have hCn:H' G2.objs.size=none:=by have:=J.free;rw[henv]at this;exact this
    have hok':HOk X.prog X.w H' s'.heap:=by have:=J.hok;rw[hP,hw]at this;exact this
    obtain⟨m,hm,_⟩:=J.loc;rw[henv]at hm;refine hRR _ H' s' m hCle hm hCn (I.call' ho u hok' J.bare hcf) (λh' hs=>?_) q;have kn:∀b o,s2.heap.get? b=some o->h'.get? b=s'.heap.get? b:=λb o e=>hs.2 b (below b (Ar e)).1;refine I.call' (s':={s' with heap:=h'}) ho ⟨λb o e n hb hx=>(kn b o e).trans (u.keep b o e n hb hx),λb o e n hb hx=>?_,u.free,λb o e hx=>?_,u.tups,u.frzs,u.tbls⟩ (λb ob e=>?_) J.bare hcf
    · obtain⟨sl,e1⟩:=u.slot b o e n hb hx
      exact⟨sl,(kn b o e).trans e1⟩
    · obtain⟨o',e1⟩:=u.there b o e hx
      exact⟨o',(kn b o e).trans e1⟩
    · refine(hok' b ob e).stay (λc w' hc q=>(hs.2 c ?_).trans q) (λ_ q=>q) λ_ _ q=>q
      rintro rfl;rcases hc with rfl|hc
      · rw[hCn]at e;cases e
      · rw[hCn]at hc;cases hc
  have loop:∀s₃:Shared,s₃={s2 with heap:=h₁,toks:=s2.toks+([]:List (Str×Value)).length}->
      codeAny (model X.prog X.w) X.A (.compLoop (.ListComp elt [⟨tg,iter,cis,0⟩] scope pos) 0 (.ref it) (.ref s2.heap.objs.size) (compEnvC scope cl G2.objs.size X.env))
        (RR (.ref s2.heap.objs.size) G2.objs.size) s₃:=by
    rintro s₃ rfl;obtain⟨m0,w0⟩:=w0;refine aBk (λn s'=>∃i σ' H',Inv X' [] σ' H' s'/\tn i s'.heap/\(∀b∈fp,H' b=none)/\W i n σ' H') ?_ m0
      ⟨0,_,_,hI0,T.keep _ _ _ st λb hb o e=>old b o e,λb hb=>?_,w0⟩
    · rintro n s3 ⟨i,σ3,H3,I3,st3,fr3,w3⟩
      rcases turn i n σ3 H3 w3 with ⟨stop,qn⟩|⟨go,step⟩
      · have d:=T.done X' hP hw hK hcalm i [] s3 σ3 H3 (λ_ _=>False) I3 (stat fr3) st3 stop
        rw[hA]at d;refine thn d λr s4 ⟨hr,I4⟩=>?_;subst hr;exact back I4 qn
      · have d:=T.item X' hP hw hK hcalm i [] s3 σ3 H3 (λ_ _=>False) I3 (stat fr3) st3 go
        rw[hA]at d;refine thn d λr s4 ⟨u,hr,h4⟩=>?_;subst hr;refine thn h4 λ_ s5 ⟨x,H5,I5,r5,y5,st5,fr5⟩=>?_;have I5':=I5.pinned (stat fr5) (T.obj _ _ st5);have d2:=hg' _ s5 σ3 H5 x u _ I5' r5 (step x H5 y5);rw[hP,hw,hA,hxe,henv]at d2;refine thn d2 λ_ s6 ⟨σ6,H6,I6,q6⟩=>?_;have dt:=htc' _ s6 σ6 H6 _ I6 q6;rw[hP,hw,hA,hxe,henv]at dt;refine thn dt λokb s6' ⟨H6',I6',q6'⟩=>?_;cases okb with
        |false=>
          obtain⟨m',hm,w7⟩:=q6';refine⟨m',hm,i+1,σ6,H6',I6'.unpinned,T.keep _ _ _ st5 λb hb o e=>(I6'.pin (b,o) (Bm _ (Bm _ (jQ hb e)))).1,λb hb=>?_,w7⟩;obtain⟨o,e,d⟩:=T.obj _ _ st5 b hb;exact(I6'.pin (b,o) (Bm _ (Bm _ (jQ hb e)))).2.1
        |true=>
        have d3:=he' _ s6' σ6 H6' _ I6' q6';rw[hP,hw,hA,hxe,henv]at d3;refine thn d3 λy7 s7 ⟨v7,H7,I7,r7,ys,e7,l7,m',hm,w7⟩=>?_;have d4:=oO (X:=X') _ s7 σ6 H7 (.ref s2.heap.objs.size) [v7] (.ref s2.heap.objs.size) [y7] (λ_ H8=>W (i+1) m' σ6 H8) I7 rfl (.cons r7 .nil) ⟨_,ys,v7,rfl,rfl,e7,l7,w7⟩;rw[hP,hw,hA,hxe]at d4;refine thn d4 λ_ s8 ⟨v8,H8,I8,_,w8⟩=>?_;refine⟨m',hm,i+1,σ6,H8,I8.unpinned,T.keep _ _ _ st5 λb hb o e=>(I8.pin (b,o) (Bm _ (Bm _ (jQ hb e)))).1,λb hb=>?_,w8⟩;obtain⟨o,e,d⟩:=T.obj _ _ st5 b hb;exact(I8.pin (b,o) (Bm _ (Bm _ (jQ hb e)))).2.1
    · rw[aP (below b (hfps b hb)).2]
      exact(hf b hb).1
  exact codeAny_compStart_list (loop _ rfl) (T.self _ 0 _ _ _ (T.keep _ _ _ st λb hb o e=>old b o e) (loop _ rfl))
def aFo{own:List Str}{cap:List (Str×Nat)}
  (S:gG X scope cap cl) (hc:X.calm=true) (hi:PI X tg iter wi)
  (hg:∀C s2 H2 fp,PG (bT X (eQ own cap) scope cl C s2 H2 fp) tg g) (htc:∀C s2 H2 fp,PTp (bT X (eQ own cap) scope cl C s2 H2 fp) cis tc) (he:∀C s2 H2 fp,PE (bT X (eQ own cap) scope cl C s2 H2 fp) elt te)
  (hs:FS X iter):PE X (.ListComp elt [⟨tg,iter,cis,0⟩] scope pos) (zZ own.length cap wi g tc te):=by
 intro pins s σ H Q I h;rw[eval_ListComp];refine Qe (use:=none) rfl hs S.clos S.kind S.names (thn (hi pins s σ H _ I h) λv s1 h1=>thn h1 λitv s2 h2=>?_);obtain⟨it,fp,tn,J,H2,e,I2,T,st2,f2,rd⟩:=h2;subst e;obtain⟨W,w0,turn⟩:=rd _ (I2.hok.fresh (Am _));exact yE (RR:=λacc C=>compPost (model X.prog X.w) X.A X.xe none (EP X pins σ Q) acc C) S hc I2 T st2 f2 hg htc he W w0 turn
  λC H' s' m _ hm _ _ hback q=>⟨m,hm,λh' hs'=>⟨.ref s2.heap.objs.size,H',hback h' hs',rfl,q⟩⟩
def aF3{own:List Str}{cap:List (Str×Nat)}{pos spos py:Pos}
  (hN:X.N.Nodup) (hi':X.N[i]? =some x) (hx:Loc X.env.scope x) (S:gG X scope cap cl) (hc:X.calm=true) (hi:PI X tg iter wi)
  (hg:∀C s2 H2 fp,PG (bT X (eQ own cap) scope cl C s2 H2 fp) tg g) (htc:∀C s2 H2 fp,PTp (bT X (eQ own cap) scope cl C s2 H2 fp) cis tc) (he:∀C s2 H2 fp,PE (bT X (eQ own cap) scope cl C s2 H2 fp) elt te)
  (hsw:swapsWith (.ListComp elt [⟨tg,iter,cis,0⟩] scope pos) (some (.Name x py)) spos.line X.env=pure true)
  (hs:FS X iter) (hf:FL X x):
  PS X (.Assign [.Name x py] (.ListComp elt [⟨tg,iter,cis,0⟩] scope pos) spos) (aNx (zZ own.length cap wi g tc te) (tW i)):=by
 intro pins s σ H D I h;rw[exec_Assign_Name_used _ _ _ _ hsw];refine Aa (Mc (Aa ?_));show wpAny _ X.A (do let _<-comprehension (.ListComp elt [⟨tg,iter,cis,0⟩] scope pos) scope X.env _ (newList []) false (eval iter X.env) (some (assign (.Name x py) X.env))) _ _ s;refine Aa (Du (Qe (use:=some (assign (.Name x py) X.env)) (Q:=λ_ s'=>SP X pins D .next s') rfl hs S.clos S.kind S.names
  (thn (hi pins s σ H _ I h) λv s1 h1=>thn h1 λitv s2 h2=>?_)) (λ_ s' hq=>Ad (Ad hq)) λ_ _ e=>e)
 obtain⟨it,fp,tn,J,H2,e,I2,T,st2,f2,rd⟩:=h2;subst e;obtain⟨W,w0,turn⟩:=rd _ (I2.hok.fresh (Am _));refine yE (Q:=λx H1=>tW i x σ H1 D.nx) (RR:=λacc C=>compPost (model X.prog X.w) X.A X.xe (some (assign (.Name x py) X.env)) (λ_ s'=>SP X pins D .next s') acc C) S hc I2 T st2 f2 hg htc he W w0 turn
  λC H' s' m hCle hm hCn I' hback q=>?_
 refine Um (aCi (v:=.ref s2.heap.objs.size) I' hN hi' hx rfl (λs'' I'' ⟨a,hsa,ha⟩=>?_) hf);have hCa:C≠a:=by
  rcases ha with z|z
  ·rw[z];exact Cy (rE I2.lt hCle)
  ·obtain⟨v,q'⟩:=I2.cell x a z;exact Cy (rE q'.lt hCle)
 refine⟨m,hm.sameBut hsa hCa,λh' hs'=>⟨_,H',?_,q⟩⟩;have hC0:X.s₀.heap.objs.size<=C:=Cc I2.sz hCle;have hnp:∀p∈X.pn++pins,p.1≠C:=λp hp=>rE (Ar (I2.pin p hp).1) hCle;have hcl:∀y c,X.env.cells.lookup y=some c->c≠C:=λy c e=>by
  obtain⟨v,q'⟩:=I2.cell y c e;exact rE q'.lt hCle
 have hL:C≠X.env.locals:=Cy (rE I2.lt hCle);exact I''.turned (t':=s''.toks) (it:=C) (λb o hb e=>(hs'.2 b hb).trans e) hCn hL (.inr hC0) hcl hnp
def aI9{own:List Str}{cap:List (Str×Nat)}
  (S:gG X scope cap cl) (hc:X.calm=true) (hi:PI X tg iter wi)
  (hg:∀C s2 H2 fp,PG (bT X (eQ own cap) scope cl C s2 H2 fp) tg g) (he:∀C s2 H2 fp,PE (bT X (eQ own cap) scope cl C s2 H2 fp) elt te)
  (hs:FS X iter:=by intro _;rfl):PE X (.ListComp elt [⟨tg,iter,[],0⟩] scope pos) (aB0 own.length cap wi g te):=
 aFo (tc:=aMz) S hc hi hg (λ_ _ _ _=>aJg) he hs
def aHt{own:List Str}{cap:List (Str×Nat)}{pos spos py:Pos}
  (hN:X.N.Nodup) (hi':X.N[i]? =some x) (hx:Loc X.env.scope x) (S:gG X scope cap cl) (hc:X.calm=true) (hi:PI X tg iter wi)
  (hg:∀C s2 H2 fp,PG (bT X (eQ own cap) scope cl C s2 H2 fp) tg g) (he:∀C s2 H2 fp,PE (bT X (eQ own cap) scope cl C s2 H2 fp) elt te)
  (hsw:swapsWith (.ListComp elt [⟨tg,iter,[],0⟩] scope pos) (some (.Name x py)) spos.line X.env=pure true:=by rfl)
  (hs:FS X iter:=by intro _;rfl) (hf:FL X x:=by trivial):
  PS X (.Assign [.Name x py] (.ListComp elt [⟨tg,iter,[],0⟩] scope pos) spos) (aNx (aB0 own.length cap wi g te) (tW i)):=
 aF3 (tc:=aMz) hN hi' hx S hc hi hg (λ_ _ _ _=>aJg) he hsw hs hf
def aPr{elt iter tg ci:Expr}{own:List Str}{cap:List (Str×Nat)}
  (S:gG X scope cap cl) (hc:X.calm=true) (hi:PI X tg iter wi)
  (hg:∀C s2 H2 fp,PG (bT X (eQ own cap) scope cl C s2 H2 fp) tg g) (htc:∀C s2 H2 fp,PT (bT X (eQ own cap) scope cl C s2 H2 fp) ci tc) (he:∀C s2 H2 fp,PE (bT X (eQ own cap) scope cl C s2 H2 fp) elt te)
  (hs:FS X iter:=by intro _;rfl):PE X (.ListComp elt [⟨tg,iter,[ci],0⟩] scope pos) (zZ own.length cap wi g tc te):=
 aFo S hc hi hg (λ_ _ _ _=>aSy (htc _ _ _ _)) he hs
def Ite(K:Ac)(a:Addr):It:=
 ⟨λi H=>∃xs x,SqL K H a xs/\xs[i]? =some x,λi H y H'=>∃p x,H p=none/\y=.ref p/\H'=upd H p (.tup [.int i,x])/\∀xs,SqL K H a xs->xs[i]? =some x,λi H=>∃xs,SqL K H a xs/\xs.length<=i⟩
def aK7{w:World}{K:Ac}{es:List Expr}(a e it:Addr)(hei:e≠it):
  Turn P w K (.Tuple es k pos) (Ite K a) [e,it] e (λi h=>(∃old,IsEnum h e it ((i:Nat):Int) old)/\h.IsListIter it a i) where
 mem:=by simp
 obj:=λi h st b hb=>by
  obtain⟨⟨old,he⟩,⟨o,e1,c,d⟩⟩:=st;rcases List.mem_cons.mp hb with rfl|hb
  ·exact⟨_,he,λv z=>by
    have z':Wv _=Data.cell v:=z;cases z'⟩
  ·have e2:b=it:=by simpa using hb
   subst e2;exact⟨o,e1,λv z=>by rw[d]at z;cases z⟩
 keep:=λi h h' st k=>by
  obtain⟨⟨old,he⟩,hit⟩:=st;exact⟨⟨old,k e (by simp) _ he⟩,hit.at λo e'=>k it (by simp) o e'⟩
 item:=by
  intro X hP hw hK hc i pins s σ H E I hf st hg;subst hP hw hK;obtain⟨⟨old,he⟩,hit⟩:=st;obtain⟨xs,x,hq,hx⟩:=hg;obtain⟨its,rv,p,hz⟩:=I.list hq;obtain⟨u,hu,ru⟩:=rv.get hx;refine wpAny_pyNext_enum_item he hit p.isList (x:=u) (by simpa using hu) hei λh' heo hit' ht hz' hk=>?_;refine⟨_,rfl,wpAny_letOwnedTupleGo_enum heo λh'' he'' hs''=>?_⟩;have hT:H s.heap.objs.size=none:=I.hok.fresh (Am _);have heT:e≠s.heap.objs.size:=Az (Ar he);have hfe:=hf e (by simp);have hfi:=hf it (by simp);have keep:∀b o,b≠e->b≠it->s.heap.get? b=some o->h''.get? b=some o:=λb o h1 h2 h3=>(hs''.2 b h1).trans (hk b o h1 h2 h3);have keepc:∀b o,b∉[e,it]->s.heap.get? b=some o->h''.get? b=some o:=λb o h1 h3=>keep b o (λz=>h1 (by simp[z])) (λz=>h1 (by simp[z])) h3;have tup:=(hs''.2 _ (Cy heT)).trans ht;have nf:∀b u,H b=some u->b≠e/\b≠it:=λb u q=>⟨λz=>(by rw[z,hfe.1]at q;cases q),λz=>(by rw[z,hfi.1]at q;cases q)⟩;have nT:∀b u,H b=some u->b≠s.heap.objs.size:=λb u q=>aQ q hT;have iti:it≠s.heap.objs.size:=by obtain⟨o,e1,_⟩:=hit;exact Az (Ar e1)
  refine⟨.ref s.heap.objs.size,upd H s.heap.objs.size (.tup [.int i,x]),?_,rfl,⟨_,x,hT,rfl,rfl,λys hy=>by rw[I.list_inj hy hq];exact hx⟩,⟨⟨_,he''⟩,?_⟩,λb hb=>?_⟩
  ·show Inv X pins σ (upd H s.heap.objs.size (.tup [.int i,x])) {s with heap:=h'',gens:=s.gens,drawn:=s.drawn,toks:=s.toks+1};refine Inv.step (s:=s) (h':=h'') (t':=s.toks+1) (g':=s.gens) (d':=s.drawn) (ch:=[e,it]) I (λb hb=>?_) (λb o _ _ hc' q _=>keepc b o hc' q) (λb o _ _ hc' q _=>⟨o.slots,keepc b o hc' q⟩) (λb o _ q n=>by rw[aP (Az (Ar q))];exact n)
    (λb o hc' q=>⟨o,keepc b o hc' q⟩) (λb ys q=>by rw[aP (nT b _ q)];exact q) (λb o' ys q=>by rw[aP (nT b _ q)];exact q) (λb ps q=>⟨#[],by rw[aP (nT b _ q),q];simp⟩) (λm hm=>?_) (λb ob q=>?_) I.bare
   ·rcases List.mem_cons.mp hb with rfl|hb
    ·exact⟨hfe.2.2.2.1,hfe.2.1,hfe.2.2.2.2.1,hfe.2.2.2.2.2⟩
    ·have e2:b=it:=by simpa using hb
     subst e2;exact⟨hfi.2.2.2.1,hfi.2.1,hfi.2.2.2.2.1,hfi.2.2.2.2.2⟩
   ·obtain⟨o,es,ep,ho,r⟩:=hm;exact⟨o,es,ep,keep _ o (Cy hfe.2.1) (Cy hfi.2.1) ho,r⟩
   ·by_cases hb:b=s.heap.objs.size
    ·subst hb;rw[aJ]at q;cases q;exact⟨show 2<=sizeLine by decide,[.int i s.toks,u],.cons ⟨_,rfl⟩ (.cons ru .nil),⟨_,tup,rfl,_,rfl⟩⟩
    ·rw[aP hb]at q;refine(I.hok b ob q).stay (λc w' hc' q'=>?_) (λc q'=>by rw[aP (nT c _ q')];exact q') (λc ys q'=>by rw[aP (nT c _ q')];exact q');have hne:c≠e/\c≠it:=by
      rcases hc' with rfl|hc'
      ·exact nf _ _ q
      ·exact nf _ _ hc'
     exact keep c w' hne.1 hne.2 q'
  ·exact hit'.at λo e'=>(hs''.2 it (Cy hei)).trans e'
  ·rcases List.mem_cons.mp hb with rfl|hb
   ·rw[aP heT];exact hfe.1
   ·have e2:b=it:=by simpa using hb
    subst e2;rw[aP iti];exact hfi.1
 done:=by
  intro X hP hw hK hc i pins s σ H E I hf st hg;subst hP hw hK;obtain⟨⟨old,he⟩,hit⟩:=st;obtain⟨xs,hq,hx⟩:=hg;obtain⟨its,rv,p,hz⟩:=I.list hq;obtain⟨f0,f1,f2,f3,f4,f5⟩:=hf it (by simp);have hl:=rv.length;exact wpAny_pyNext_enum_end (I.ok.hd hc) he hit p.isList (by simp;lia) λh' eb=>⟨rfl,I.turned (t':=s.toks) (λb o hb q=>eb b o hb q) f0 f1 f3 f4 f5⟩
 self:=λ_ _ _ _ _ st h=>by
  obtain⟨⟨old,he⟩,hit⟩:=st;exact Ul he h
def aYu(K:Ac)(ta:TA):TI:=λσ H R=>ta σ H λvs H1=>∃a,vs=[.ref a]/\(∃xs,SqL K H1 a xs)/\R (Ite K a) H1
def aS1{es:List Expr}{pos':Pos}{ta:TA}{p pos:Pos}(hg:Gl X "enumerate")(hm:X.mg "enumerate"=none)(ha:PA X [a] ta)(hs:starEach [a] X.env=[(false,eval a X.env)]:=by rfl):
  PI X (.Tuple es k pos') (.Call (.Name "enumerate" p) [a] [] pos) (aYu X.K ta):=by
 intro pins s σ H R I h;refine Call_ (uK I hg hm boot_enumerate (Fb (thn (ha pos pins s σ H _ I h) λus s1 ⟨vs,H1,I1,r1,q1⟩=>?_) hs rfl));obtain⟨l,e,⟨xs,hq⟩,q⟩:=q1;subst e;cases r1 with
 |cons r rr=>
  cases rr;cases r;obtain⟨its,rv,pl,hz⟩:=I1.list hq;refine call_enumerate_list pl.isList λh' he hit hz' hk=>Ul he ?_;have I2:Inv X pins σ H1 {s1 with heap:=h'}:=I1.kept (t':=s1.toks) λb o e=>hk b o e;have hne:s1.heap.objs.size+1≠s1.heap.objs.size:=Nat.succ_ne_self _;refine⟨s1.heap.objs.size+1,[s1.heap.objs.size+1,s1.heap.objs.size],_,_,H1,rfl,I2,aK7 l _ _ hne,⟨⟨_,he⟩,hit⟩,λb hb=>?_,q⟩;rcases List.mem_cons.mp hb with rfl|hb
  ·exact I1.fpOk (He _) (I1.hok.fresh (He _))
  ·have e2:b=s1.heap.objs.size:=by simpa using hb
   subst e2;exact I1.fpOk (Am _) (I1.hok.fresh (Am _))
def xV:eE X (.builtin "isinstance") (λxs H Q=>∃x n t b,xs=[x,.ty n]/\wK X.K H x t/\Me X.K t (.type n)=some b/\Q (.bl b) H):=by
 intro pins s σ H xs us Q I r h;obtain⟨x,n,t,b,rfl,ty,e,q⟩:=h;obtain⟨u,w',rfl,ru,rw'⟩:=vals2 r;cases rw';exact aLx I ru ty e λtk=>⟨.bl b,H,I.tok tk,rfl,q⟩
def aQq:OpR X (binaryOp .Add) (λx y H Q=>∃a b ys,x=.ref a/\y=.ref b/\SqT X.K H a []/\SqT X.K H b ys/\Q (.ref b) H):=by
 intro pins s σ H x y v u Q I rx ry h;obtain⟨a,b,ys,rfl,rfl,ha,hb,q⟩:=h;cases rx;cases ry;obtain⟨its,r1,p1,_⟩:=I.tuple ha;obtain⟨its2,r2,p2,_⟩:=I.tuple hb;cases r1;obtain⟨⟨cls,dd,data,sl⟩,ho,hc,n,hd⟩:=id p1;obtain⟨⟨cls2,dd2,data2,sl2⟩,ho2,hc2,n2,hd2⟩:=id p2;simp only at hc hd hc2 hd2;subst hc hd hc2 hd2;exact Rv ⟨_,ho,rfl⟩ ⟨_,ho2,rfl⟩ Nz Qn Iy Iq (Ig _ _)
   (tuple_addW0 a b _ _ n n2 dd dd2 sl sl2 (by simp)) ⟨ho,ho2,⟨.ref b,H,I,rfl,q⟩⟩
def aFr{x:V}(h:jK x=true):eqV x x=true:=by
 cases x<;>first|rfl|exact beq_self_eq_true _|(exact(Al h).elim)
def qW(e:Nat->Bool)(n:Nat):(Br (n+1)).all e=(e 0 && (Br n).all λj=>e (j+1)):=by
 rw[Pb,Kw,List.all_map];rfl
section
variable {X:Cx}{pins:List (Addr×Obj)}{σ:St}{H:Hp}{s:Shared}{A:Around}
end
theorem rW(env:Env):∀(names:List (Str×NameKind))(acc:List (Str×Addr)),(∀y∈names,y.2=.free->∃c,env.cells.lookup y.1=some c)->(∀x c,acc.lookup x=some c->env.cells.lookup x=some c)->
  ∃cl,(forIn names acc (λ(x:Str×NameKind)(cs:List (Str×Addr))=>(if(x.2==Dj)=true then(do let a<-cellOf env x.1;pure (Gi ((x.1,a)::cs)):Sem _)else pure (Gi cs))):Sem (List (Str×Addr)))=pure cl/\
   (∀x c,cl.lookup x=some c->env.cells.lookup x=some c)/\(∀x,(∃c,acc.lookup x=some c)∨(x,Dj)∈names->∃c,cl.lookup x=some c)
 | [],acc,_,h2=>⟨acc,rfl,h2,λx hx=>hx.elim id λz=>(by cases z)⟩
 |(n,k)::r,acc,h1,h2=>by
  by_cases hk:k=.free
  ·subst hk;obtain⟨c,hc⟩:=h1 (n,.free) Af rfl;obtain⟨cl,e,a,b⟩:=rW env r ((n,c)::acc) (λy hy=>h1 y (Ae _ hy)) (λx c' hx=>by
    cases hxn:x==n with
    |true=>
     simp only[Bq,hxn]at hx;have:x=n:=eq_of_beq hxn;subst this;cases hx;exact hc
    |false=>
     simp only[Bq,hxn]at hx;exact h2 x c' hx)
   refine⟨cl,?_,a,λx hx=>b x ?_⟩
   ·rw[<-e,Mq];have ec:cellOf env n=pure c:=by unfold cellOf;rw[hc]
    simp only[beq_self_eq_true,if_true,ec];rfl
   ·rcases hx with ⟨c',hx⟩|hx
    ·refine .inl ?_;cases hxn:x==n with
     |true=>exact⟨c,by simp only[Bq,hxn]⟩
     |false=>exact⟨c',by simp only[Bq,hxn];exact hx⟩
    ·rcases List.mem_cons.mp hx with z|z
     ·cases z;exact .inl ⟨c,by simp[Bq]⟩
     ·exact .inr z
  ·obtain⟨cl,e,a,b⟩:=rW env r acc (λy hy=>h1 y (Ae _ hy)) h2;refine⟨cl,?_,a,λx hx=>b x ?_⟩
   ·rw[<-e,Mq];have hb:(k==Dj)=false:=by simpa using hk
    simp only[hb,Cu,if_false];rfl
   ·rcases hx with hx|hx
    ·exact .inl hx
    ·rcases List.mem_cons.mp hx with z|z
     ·cases z;exact absurd rfl hk
     ·exact .inr z
def aHd{X:Cx}{cap:List (Str×Nat)}(hcell:HC X)(kind:scope.kind=.function)(nocell:∀y∈scope.names,y.2≠.cell)
  (names:∀y∈scope.names,y.2=.local->scope.names.lookup y.1=some .local) (free:∀y∈scope.names,y.2=.free->X.env.scope.names.lookup y.1=some .cell)
  (hcap:∀p∈cap,X.N[p.2]? =some p.1/\scope.names.lookup p.1=some .free/\X.env.scope.names.lookup p.1=some .cell):∃cl,gG X scope cap cl:=by
 obtain⟨cl,e,a,b⟩:=rW X.env scope.names [] (λy hy hf=>hcell _ (free y hy hf)) (λx c h=>by simp at h);refine⟨cl,?_,kind,nocell,names,a,λx hx=>b x (.inr (Dl hx)),hcap⟩;unfold closureFor;refine Eq.trans ?_ e;simp only[bind_pure]
abbrev aU1(n:Nat)(D:Addr)(Pv:Nat->List V->St->Hp->Prop)(i:Nat)(σ:St)(y:V)(H5:Hp):Prop:=
 ∃ys,H5 D=some (.lst ys)/\ys.length<sizeLine/\∃m',m'<n-i/\m'=n-(i+1)/\i+1<=n/\∃acc,Pv (i+1) acc σ (upd H5 D (.lst (ys++[y])))
def aY5{n:Nat}{D:Addr}{Pv:Nat->List V->St->Hp->Prop}{σ:St}{H5:Hp}(h1:H5 D=some (.lst acc))(h2:acc.length<sizeLine)(hi:i<n)(h3:Pv (i+1) (acc++[y]) σ (upd H5 D (.lst (acc++[y])))):aU1 n D Pv i σ y H5:=
 ⟨acc,h1,h2,n-(i+1),∅,rfl,hi,acc++[y],h3⟩
def aQ6{K:Ac}{a D:Addr}{ni:Nat}{σ:St}{H:Hp}(Pv:Nat->List V->St->Hp->Prop)(h0:Pv 0 [] σ H)(hl:∀i acc σ H,i<=xs.length->Pv i acc σ H->SqT K H a xs)
  (hs:∀i x acc σ H,i<xs.length->xs[i]? =some x->Pv i acc σ H->te (σ.set ni (some x)) H λy H5=>aU1 xs.length D Pv i (σ.set ni (some x)) y H5) (hd:∀acc σ H,Pv xs.length acc σ H->Q (.ref D) H):
  aU8 (Itt K a) D (tW ni) te Q σ H:=by
 refine⟨λi m σ H=>m=xs.length-i/\i<=xs.length/\∃acc,Pv i acc σ H,⟨xs.length,by simp,Ay _,[],h0⟩,?_⟩;rintro i m σ H ⟨rfl,hi,acc,p⟩;have q:=hl i acc σ H hi p;by_cases hlt:i<xs.length
 ·refine .inr ⟨⟨xs,xs[i],q,by simp[hlt]⟩,λx H' y=>?_⟩;obtain⟨e,y⟩:=y;subst e;exact hs i x acc σ _ hlt (y xs q) p
 ·have e:i=xs.length:=by lia
  subst e;exact .inl ⟨⟨xs,q,Am _⟩,hd acc σ H p⟩
def aAb:eE X (.builtin "all") (λxs H Q=>∃(p:Addr)(bs:List Bool),xs=[.ref p]/\SqL X.K H p (bs.map V.bl)/\X.calm=true/\Q (.bl (bs.all id)) H):=by
 intro pins s σ H xs us Q I r h;obtain⟨p,bs,rfl,hq,hc,q⟩:=h;obtain⟨u,rfl,ru⟩:=vals1 r;cases ru;obtain⟨its,rv,pl,hz⟩:=I.list hq;have hl:=rv.length;rw[Ab]at hl;refine call_all_walk (Jm pl.isList ?_);have hlt:p<s.heap.objs.size:=by obtain⟨o,e,_⟩:=pl.isList;exact Ar e
 have hne:p≠s.heap.objs.size:=Az hlt;have hd:X.A.in1.handled=none:=I.ok.hd hc;refine⟨s.heap.objs.size,_,_,_,_,_,λi=>bs.getD i true,rfl,Nn hd s.heap.objs.size p hne its.toArray,⟨⟨_,Ap _ rfl,rfl,rfl⟩,pl.isList.push _⟩,λi v s' Q' E' hv hQ=>?_,λh' tk hk=>?_⟩
 ·have hv':its[i]? =some v:=by simpa using hv
  have hi:i<its.length:=(List.getElem?_eq_some_iff.mp hv').1;have hi':i<bs.length:=by lia
  have e1:(bs.map V.bl)[i]? =some (V.bl bs[i]):=by simp[hi']
  obtain⟨u,hu,ru⟩:=rv.get e1;rw[hv']at hu;cases hu;have ru':v=Gj bs[i]:=ru;subst ru';have e2:bs.getD i true=bs[i]:=by simp[hi']
  have hQ':Q' (bs.getD i true) s':=hQ;rw[e2]at hQ';exact Ck hQ'
 ·refine⟨.bl (bs.all id),H,?_,?_,q⟩
  ·exact I.kept (t':=tk) λb o e=>hk b o (by simp;exact Az (Ar e)) (Ai _ e)
  ·show Gj _=Gj _;congr 1;have e:its.toArray.size=bs.length:=by rw[Ak];lia
   rw[e];have:∀l:List Bool,(Br l.length).all (λi=>l.getD i true)=l.all id:=by
    intro l;induction l with
    |nil=>rfl
    |cons b l ih=>
     rw[Ah,qW,Kw, <-ih];congr 1
   exact this bs
def bBp(K:Ac)(te:TE):TE:=λσ H Q=>te σ H λx H1=>∃a xs,x=.ref a/\SqL K H1 a xs/\∀p,H1 p=none->Q (.ref p) (upd H1 p (.lst xs.reverse))
def aV3{j:Nat}{p2 p3 p4 pos:Pos}(he:PE X e te):PE X (.Subscript e (.Slice none none (some (.UnaryOp .USub (.Constant (.int 1) j p3) p4)) p2) pos) (bBp X.K te):=by
 intro pins s σ H Q I h;refine Qh (thn (he pins s σ H _ I h) λv s1 ⟨x,H1,I1,r1,q1⟩=>?_);obtain⟨a,xs,rfl,hq,q⟩:=q1;cases r1;refine wpAny_Slice ?_;rw[Qr,evalPart_some];refine Ad (Ad ?_);have hst:PE X (.UnaryOp .USub (.Constant (.int 1) j p3) p4) (tUn (rU λi=> .int (-i)) (tC (.int 1))):=aNv aHb dX;refine thn (hst pins s1 σ H1 (λy H2=>y=.int (-1)/\H2=H1) I1 ⟨1,rfl,rfl,rfl⟩) λvk s2 ⟨y,H2,I2,r2,e1,e2⟩=>?_;subst e1 e2;obtain⟨tk,rfl⟩:=r2;have I4:Inv X pins σ H2 {s2 with heap:=s2.heap.push {cls:=.type "slice",data:=.fields #[.none,.none,.int (-1) tk]}}:=I2.kept (t':=s2.toks) λb ob q=>Ai _ q;obtain⟨its,r,ht,hz⟩:=I4.list hq;have hlen:=r.length;show wpAny (model X.prog X.w) X.A (subscriptTail e (.Slice none none (some (.UnaryOp .USub (.Constant (.int 1) j p3) p4)) p2) (.ref a) (.ref s2.heap.objs.size)) (EP X pins σ Q) X.xe {s2 with heap:=s2.heap.push {cls:=.type "slice",data:=.fields #[.none,.none,.int (-1) tk]}};refine tail_any (ops:=[.ref a,.ref s2.heap.objs.size]) ht.isList.typeIs slot_list_getitem.lookup ?_ (by with_unfolding_all rfl);refine Qd ht.isList (Mi ..) .none .none (.int (-1) tk) ⋯ ?_ (by rw[Ak]<;>lia);rw[PySem.W.krv_pick];refine⟨.ref _,_,I4.laid (t':=s2.toks) (o:=.lst xs.reverse) (λb ob q=>Ai _ q) (Am _) ?_,rfl,q _ (I4.hok.fresh (Am _))⟩;exact⟨by rw[List.length_reverse];exact hz,_,0,r.reverse,Ap _ rfl⟩
theorem aAc:∀{us:List Value}{ns:List Int},IntsAre us ns->Vals (ns.map V.int) us
 |_,_,.nil=> .nil
 |_,_,.cons i t r=> .cons ⟨t,rfl⟩ (aAc r)
theorem aA6(f:Nat->Int)(ns:List Int)(h:∀j,j<ns.length->f j=ns.getD j 0):∀n,n<=ns.length->preSum f n=(ns.take n).sum
 |0,_=>by simp[preSum]
 |n+1,hn=>by
  show preSum f n+f n=_;rw[aA6 f ns h n ∅,h n hn,Kd];have e:ns[n]? =some (ns.getD n 0):=by simp[show n<ns.length from hn]
  rw[e,Hx];simp
theorem yJ:∀(ns:List Int)(b:Int),(∀n∈ns,0<=n/\n<=b)->0<=b->∀j,0<=(ns.take j).sum/\(ns.take j).sum<=ns.length*b
 | [],b,_,hb,j=>by simp
 |n::ns,b,h,hb,0=>by
  simp;exact Ir ∅ hb
 |n::ns,b,h,hb,j+1=>by
  have ih:=yJ ns b (λm hm=>h m (Ae _ hm)) hb j;have hn:=h n Af;rw[List.take_succ_cons,Fy,Ah];have:((ns.length+1:Nat):Int)*b=ns.length*b+b:=by rw[Jy,Qy];simp
  rw[this]
  lia
inductive aUv(K:Ac)(xs:List V)(H:Hp)(Q:VK):Prop
 |mk (p:Addr) (ns:List Int) (q0_:xs=[.ref p]) (q1_:SqL K H p (ns.map V.int)) (q2_:ns.length<=1000) (q3_:(∀n∈ns,0<=n/\n<=1000)) (q4_:Q (.int ns.sum) H):aUv K xs H Q
def bBa(K:Ac):List V->Hp->VK->Prop:=λxs H Q=>aUv K xs H Q
def aO6(hc:X.calm=true):eE X (.builtin "sum") (bBa X.K):=by
 intro pins s σ H xs us Q I r h;obtain⟨p,ns,rfl,hq,hln,hb,q⟩:=h;obtain⟨u,rfl,ru⟩:=vals1 r;cases ru;obtain⟨its,rv,pl,hz⟩:=I.list hq;have hi:IntsAre its ns:=intsAre_of rv;obtain⟨ys,e⟩:=hi.allInts.items;have hns:ns=ys.toList.map (·.1):=by
  rw[<-hi.numsOf, <-Qo, <-e]
 have hsz:ys.size=ns.length:=by rw[hns,Ab,Ao]
 have hl:=pl.isList;rw[e]at hl;have hat:∀j,j<ns.length->numAt ys j=ns.getD j 0:=λj hj=>by
  rw[Qp,hns]
 have hps:∀n,n<=ns.length->preSum (numAt ys) n=(ns.take n).sum:=aA6 _ _ hat;have hsum:=yJ ns 1000 hb ⋯;have hbig:(ns.length:Int)*1000<=1000000:=by lia
 refine sum_intList (I.ok.hd hc) hl (λj hj=>⟨?_,?_⟩) λh' tk t' hk=>?_
 ·have hj':j<ns.length:=by lia
  rw[hat j hj'];have:=hb (ns.getD j 0) (by simp[hj']);exact⟨∅,∅⟩
 ·rw[hps (j+1) ∅];have:=hsum (j+1);exact⟨∅,∅⟩
 ·refine⟨.int _,H,I.kept (t':=tk) hk,⟨t',rfl⟩,?_⟩;rw[hsz,hps _ (Am _),Fe];exact q
def gather{prog:Program}{w:World}{A:Around}{s:Shared}{T:String}{r d:Addr}{n:Nat}{Pj:Nat->Value->Prop}{OK:Heap->Prop}{R:List Value->Shared->Prop}(src:Rh prog w T r d n Pj OK)(calm:A.handled=none)(there:OK s.heap)(fits:n<=sizeLine)
  (k:∀(g:Heap)(tk:Nat)(acc:Array Value),(∀b o,s.heap.get? b=some o->g.get? b=some o)->s.heap.objs.size<g.objs.size->ItemsOf Pj acc n->R acc.toList {s with heap:=g,toks:=tk}):wpAny (model prog w) A (collect (.ref r)) R E s:=by
 have lt:=src.there _ there;unfold collect;refine Aa (Pk (Cz entry_proto_collect' ?_));rw[Cb PySem.F.plain_proto_collect _];show wpAny _ A.in1 (newList []>>=λl=>again (.builtin "list.__iadd__" ⟨[l,.ref r],[]⟩)) _ _ s;refine Aa (Bz ?_);refine Ad ⟨Ee Nf _,Cz entry_list_iadd' ?_⟩;rw[Cb Nf _];have laid:(s.heap.push {cls:=.type "list",data:=.seq ([]:List Value).toArray}).get? s.heap.objs.size=some {cls:=.type "list",data:=.seq #[]}:=Ap _ rfl;show wpAny _ A.in1 (Gz (.ref s.heap.objs.size) (.ref r) (.ref s.heap.objs.size)) _ _ {s with heap:=s.heap.push {cls:=.type "list",data:=.seq ([]:List Value).toArray}};have done:∀(g:Heap)(tk:Nat)(acc:Array Value)(c:Nat),(∀b o,s.heap.get? b=some o->g.get? b=some o)->g.get? s.heap.objs.size=some {cls:=.type "list",dict:=none,data:=.seq acc c,slots:= #[]}->ItemsOf Pj acc n->R acc.toList {s with heap:=g,toks:=tk}:=λg tk acc c hk hS ha=>k g tk acc hk (Ar hS) ha;have run:=PySem.W.kdl_extend (A:=A) (s:={s with heap:=s.heap.push {cls:=.type "list",data:=.seq ([]:List Value).toArray}}) (R:=λ(q:Result)(s':Shared)=>∃(g:Heap)(tk:Nat)(acc:Array Value)(c:Nat),q=.ok (.ret (.ref s.heap.objs.size))/\s'={s with heap:=g,toks:=tk}/\(∀b o,s.heap.get? b=some o->g.get? b=some o)/\g.get? s.heap.objs.size=some {cls:=.type "list",dict:=none,data:=.seq acc c,slots:= #[]}/\ItemsOf Pj acc n)
  src calm (src.keep _ _ there λb _ o e=>Ai _ e) s.heap.objs.size (Ij lt.1) (Ij lt.2) (.ref s.heap.objs.size) 0 laid (λg tk acc c hk hS ha=>⟨g,tk,acc,c,rfl,rfl,λb o e=>hk b o (Az (Ar e)) (Ai _ e),hS,ha⟩) fits
 refine Du run (λfin s' got=>?_) λe s' got=>by obtain⟨_,_,_,_,bad,_⟩:=got;cases bad
 cases fin with
 |done f=>obtain⟨g,tk,acc,c,e,rfl,hk,hS,ha⟩:=got;cases e;show wpAny _ A (load s.heap.objs.size>>=_) _ _ _;exact Aa (Mx hS (Ad (done g tk acc c hk hS ha)))
 |again c1=>exact⟨got.1,Hv got.2 λq s2 y=>by obtain⟨g,tk,acc,c,rfl,rfl,hk,hS,ha⟩:=y;show wpAny _ A (load s.heap.objs.size>>=_) _ _ _;exact Aa (Mx hS (Ad (done g tk acc c hk hS ha)))⟩
variable {prog:Program}{w:World}{A:Around}
def aMd(x d:Value):argsOk "max" ⟨[x],[(As "default",d)]⟩:=by
 unfold argsOk
 kernel_rfl
def aWq(num:Nat->Int)(P:Nat->Value->Prop)(j:Nat):Option (Nat×Value)->Prop
 |none=>j=0
 |some (i,v)=>i<j/\P i v/\∀t,t<j->num t<=num i
def aJn(o:Option (Nat×Value)):Array Value:=match o with
 |none=> #[]
 |some (_,v)=> #[v,v]
theorem zT{It Bx:Addr}{fp wr:List Addr}{n:Nat}{P:Nat->Value->Prop}{St:Nat->Heap->Prop}{R:Result->Shared->Prop}{d:Value}{num:Nat->Int}(W:Walks prog w A.in1 It fp wr n P St)(cm:CmpOf prog w A.in1 .Gt P (λi j=>decide (num i>num j)))(apart:Bx∉fp):
  ∀(k j:Nat)(s:Shared)(o:Option (Nat×Value))(c:Nat),n=j+k->St j s.heap->aWq num P j o->s.heap.get? Bx=some {cls:=.type "list",dict:=none,data:=.seq (aJn o) c,slots:= #[]}->
   (∀v h' tk,(n=0/\v=d∨∃o',o'=some v/\∃i,aWq num P n (some (i,v)))->(∀b ob,b∉wr->b≠Bx->s.heap.get? b=some ob->h'.get? b=some ob)->R (.ok (.ret v)) {s with heap:=h',toks:=tk})->
   codeAny (model prog w) A (.builtin "max.loop" ⟨[.ref It,.none,.ref Bx],[("default",d)]⟩) R s
 |0,j,s,o,c,en,at_,top,hS,fin=>by
  have outw:Bx∉wr:=λz=>apart (W.sub _ z);cases en;refine Cz Uh ?_;rw[Cb Gp _];show wpAny _ A.in1 (seqItems? (.ref Bx)>>=_) _ _ s;refine Aa (Fm hS rfl ?_);show wpAny _ A.in1 (tryCatch (pyNext (.ref It)) _>>=_) _ _ s;refine Aa (Pi (W.done s _ _ at_ λh' tk kept=>?_));have hS2:=kept Bx _ outw hS;cases o with
  |none=>
   have z:j=0:=top;show wpAny _ A.in1 (rule _>>=_) _ _ _;exact Aa (Jl (Ad (fin d h' tk (.inl ⟨z,rfl⟩) λb ob h1 _ h3=>kept b ob h1 h3)))
  |some q=>
   show wpAny _ A.in1 (updateSeq Bx (λ_=> #[])>>=_) _ _ _;refine Aa (Il (hz:=by show 2<=sizeLine;decide) hS2 rfl (Aa (Lh (Ad (fin q.2 _ tk (.inr ⟨_,rfl,q.1,top⟩) λb ob h1 h2 h3=>?_)))));exact(Ci _ _ (Cy h2)).trans (kept b ob h1 h3)
 |k+1,j,s,o,c,en,at_,top,hS,fin=>by
  have outw:Bx∉wr:=λz=>apart (W.sub _ z);have more:j<n:=by lia
  have nm:(toString "max"++toString ".loop":String)="max.loop":=by decide
  refine Cz Uh ?_;rw[Cb Gp _];show wpAny _ A.in1 (seqItems? (.ref Bx)>>=_) _ _ s;refine Aa (Fm hS rfl ?_);show wpAny _ A.in1 (tryCatch (pyNext (.ref It)) _>>=_) _ _ s;refine Aa (Pi (W.item j s _ _ more at_ λv h' tk pv at2 kept=>?_));have hS2:=kept Bx _ outw hS;have step:∀(o2:Option (Nat×Value))(c2:Nat)(h2:Heap)(t2:Nat),aWq num P (j+1) o2->h2.get? Bx=some {cls:=.type "list",dict:=none,data:=.seq (aJn o2) c2,slots:= #[]}->(∀b ob,b≠Bx->h'.get? b=some ob->h2.get? b=some ob)->
    codeAny (model prog w) A (.builtin "max.loop" ⟨[.ref It,.none,.ref Bx],[("default",d)]⟩) R {s with heap:=h2,toks:=t2}:=λo2 c2 h2 t2 top2 hS3 k2=>by
   refine zT W cm apart k (j+1) {s with heap:=h2,toks:=t2} o2 c2 ∅ (W.frame _ _ _ at2 λb hb ob e=>k2 b ob (λz=>apart (z▸hb)) e) top2 hS3 λv3 h3 t3 r3 k3=>?_;exact fin v3 h3 t3 r3 λb ob a1 a2 a3=>k3 b ob a1 a2 (k2 b ob a2 (kept b ob a1 a3))
  cases o with
  |none=>
   have z:j=0:=top;subst z;show wpAny _ A.in1 (updateSeq Bx (λ_=> #[v,v])>>=_) _ _ _;refine Aa (Il hS2 rfl ?_);rw[nm];refine Ad ⟨Ee Gp _,step (some (0,v)) _ _ _ ⟨Nat.one_pos,pv,λt ht=>?_⟩ (Bn _ hS2 rfl) λb ob hb e=>(Ci _ _ (Cy hb)).trans e⟩;have:t=0:=by lia
   subst this;exact Nj _
  |some q=>
   obtain⟨i,vb⟩:=q;obtain⟨hi,pb,best⟩:=top;show wpAny _ A.in1 (tryCatch (holding [v,v] (richCompare .Gt v vb>>=_)) _>>=_) _ _ _;refine Aa (Pi (Bp (Aa (cm j i v vb _ _ _ pv pb ?_))));refine Aa (Bp (Ck (Aa (Lh (Ad ?_)))));dsimp only;by_cases hb:num j>num i
   ·rw[decide_eq_true hb,if_pos rfl];refine Aa (Il (hz:=by show 2<=sizeLine;decide) hS2 rfl (Aa (Lh ?_)));rw[nm];refine Ad ⟨Ee Gp _,step (some (j,v)) _ _ _ ⟨El j,pv,λt ht=>?_⟩ (Bn _ hS2 rfl) λb ob hb e=>(Ci _ _ (Cy hb)).trans e⟩;by_cases ht2:t<j
    ·have:=best t ht2;lia
    ·have:t=j:=by lia
     subst this;exact Nj _
   ·rw[decide_eq_false hb,if_neg Al];refine Aa (Lh ?_);rw[nm];refine Ad ⟨Ee Gp _,step (some (i,vb)) _ _ _ ⟨∅,pb,λt ht=>?_⟩ hS2 λb ob _ e=>e⟩;by_cases ht2:t<j
    ·exact best t ht2
    ·have:t=j:=by lia
     subst this
     lia
def aNs(X:Cx)(f:Value)(ks:List Str)(r:List V->List V->Hp->VK->Prop):Prop:=
 ∀(pins:List (Addr×Obj))(s:Shared)(σ:St)(H:Hp)(xs ys:List V)(us ws:List Value)(Q:VK),Inv X pins σ H s->Vals xs us->Vals ys ws->r xs ys H Q->wpAny (model X.prog X.w) X.A (call f us (ks.zip ws)) (EP X pins σ Q) X.xe s
def bCb(r:List V->List V->Hp->VK->Prop)(t tk:TA):TE:=λσ H Q=>t σ H λxs H1=>tk σ H1 λys H2=>r xs ys H2 Q
def aLt{X:Cx}{id:String}{ks:List Str}{r:List V->List V->Hp->VK->Prop}{es:List Expr}{kws:List Keyword}{t tk:TA}{p pos:Pos}(hc:aNs X (.builtin id) ks r)(hg:Gl X x)(hm:X.mg x=none)(hv:bootBuiltins x=some (.builtin id))(ha:PA X (e::es) t)(hkw:PK X kws tk)
  (hall:(backToKw pos (keywordEach kws X.env)).all (·.1.isSome)=true:=by rfl) (hks:(backToKw pos (keywordEach kws X.env)).filterMap (·.1)=ks:=by rfl) (hn:x≠"__name__":=by decide) (hdb:ND x:=by decide)
  (he:SE X e es:=by rfl) (hpl:(backTo pos (starEach (e::es) X.env)).any (·.1)=false:=by rfl) (hpk:(backToKw pos (keywordEach kws X.env)).any (·.1.isNone)=false:=by rfl):PE X (.Call (.Name x p) (e::es) kws pos) (bCb r t tk):=by
 intro pins s σ H Q I h;refine Hc (uK I hg hm hv ?_ hn hdb);refine Wi (thn (ha pos pins s σ H _ I h) λus s1 ⟨vs,H1,I1,r1,q1⟩=>?_) (by rw[he];rfl) hpl hall hpk;refine thn (hkw pos pins s1 σ H1 _ I1 q1) λws s2 ⟨zs,H2,I2,rz,q2⟩=>?_;rw[hks];exact hc pins s2 σ H2 vs zs us ws Q I2 r1 rz q2
def aZt(K:Ac):List V->List V->Hp->VK->Prop:=λxs ys H Q=>∃p ns d,xs=[.ref p]/\ys=[d]/\SqL K H p (ns.map V.int)/\(ns=[]->Q d H)/\∀m:Int,m∈ns->(∀a∈ns,a<=m)->Q (.int m) H
def aLz{X:Cx}(hc:X.calm=true):aNs X (.builtin "max") ["default"] (aZt X.K):=by
 intro pins s σ H xs ys us ws Q I r rk h;obtain⟨p,ns,d,rfl,rfl,hq,q0,q1⟩:=h;obtain⟨u,rfl,ru⟩:=vals1 r;obtain⟨dv,rfl,rd⟩:=vals1 rk;cases ru;obtain⟨its,rv,pl,hz⟩:=I.list hq;have hi:IntsAre its ns:=intsAre_of rv;obtain⟨ys,e⟩:=hi.allInts.items;have hns:ns=ys.toList.map (·.1):=by rw[<-hi.numsOf, <-Qo, <-e]
 have hl:=pl.isList;rw[e]at hl;have nm:(toString "max"++toString ".loop":String)="max.loop":=by decide
 refine kmb_tree F.kind_max F.plain_max F.entry_max (aMd _ _) ?_;show wpAny _ X.A.in1 (Jr "max" ["key","default"] 0 ⟨[],[(As "default",dv)]⟩>>=_) _ _ s;refine Aa (Ot (show Jr "max" ["key","default"] 0 ⟨[],[(As "default",dv)]⟩=pure [none,some dv] by rfl) (Aa (Ad ?_)));refine Aa (iter_intList hl λs₂ es st hfp hlI=>?_);refine Aa (Bz ?_);have apart:s₂.heap.objs.size∉[s.heap.objs.size,p]:=λz=>Ds _ (hfp _ z);rw[nm];have W:=Nn (prog:=X.prog) (w:=X.w) (A:=X.A.in1) (I.ok.hd hc) s.heap.objs.size p hlI (intItems ys);refine Ad ⟨Ee Gp _,zT W (CmpOf.ints_gt (numAt ys) (λ_ _=>Sz)) apart _ 0 _ none _ (by rw[Ii]) (W.frame _ _ _ st λb _ o eb=>Ai _ eb) rfl (Ap _ rfl) λv h' tk res kept=>?_⟩;subst es;have old:∀b o,s.heap.get? b=some o->h'.get? b=some o:=λb o eb=>by
  have lt:=Ar eb;refine kept b o (λz=>?_) (λz=>?_) (Ai _ (Ai _ eb))
  ·have z':=List.mem_singleton.mp z;exact absurd lt (by rw[z'];exact Ds _)
  ·rw[Dp]at z;exact absurd lt (by rw[z];exact Nat.not_lt.mpr (He _))
 rcases res with ⟨n0,rfl⟩|⟨_,_,i,hin,pv,best⟩
 ·refine⟨d,H,I.kept (t':=tk) old,rd,q0 ?_⟩;rw[hns];have:ys.size=0:=by simpa[intItems]using n0
  rw[List.map_eq_nil_iff, <-Ao]at*;exact List.eq_nil_of_length_eq_zero (by rw[Ao];exact this)
 ·obtain⟨t,rfl⟩:=Sz (by simpa[intItems]using pv);have hin':i<ys.size:=by simpa[intItems]using hin
  refine⟨.int _,H,I.kept (t':=tk) old,⟨t,rfl⟩,q1 _ ?_ λa ha=>?_⟩
  ·rw[hns,Qp];exact getD_mem (by rw[Ab,Ao];lia)
  ·rw[hns]at ha;obtain⟨j,hj,rfl⟩:=mem_getD ha;rw[Ab,Ao]at hj;have:=best j (by simpa[intItems]using hj);rw[<-Qp];exact this
inductive D where
 |fl (x:V)
 |tp (l:List D)
 |ls (l:List D)
mutual
def Den(K:Ac)(H:Hp):D->V->Prop
 |.fl x,v=>v=x/\jK x=true
 |.tp l,v=>∃a xs,v=.ref a/\SqT K H a xs/\wW K H l xs
 |.ls l,v=>∃a xs,v=.ref a/\SqL K H a xs/\wW K H l xs
def wW(K:Ac)(H:Hp):List D->List V->Prop
 | [],xs=>xs=[]
 |d::l,xs=>∃x r,xs=x::r/\Den K H d x/\wW K H l r
end
mutual
def D.eq:D->D->Bool
 |.fl x,.fl y=>eqV x y
 |.tp l,.tp m=>D.eqs l m
 |.ls l,.ls m=>D.eqs l m
 |_,_=>false
def D.eqs:List D->List D->Bool
 | [],[]=>true
 |x::l,y::m=>D.eq x y && D.eqs l m
 |_,_=>false
end
mutual
def D.dep:D->Nat
 |.fl _=>0
 |.tp l=>D.deps l+1
 |.ls l=>D.deps l+1
def D.deps:List D->Nat
 | []=>0
 |x::l=>max (D.dep x) (D.deps l)
end
section
variable {X:Cx}{pins:List (Addr×Obj)}{σ:St}{H:Hp}{s:Shared}
def Inv.not_both{a:Addr}{xs ys:List V}(I:Inv X pins σ H s)(h:SqL X.K H a xs)(h':SqT X.K H a ys):False:=by
 obtain⟨its,r1,p1,_⟩:=I.list h;obtain⟨its2,r2,p2,_⟩:=I.tuple h';obtain⟨o,ho,hc,_⟩:=p1.isList;obtain⟨o2,ho2,hc2,_⟩:=p2;rw[ho]at ho2;cases ho2;rw[hc]at hc2;simp at hc2
mutual
theorem aAs(I:Inv X pins σ H s):∀(d e:D){v:V},Den X.K H d v->Den X.K H e v->d.eq e=true
 |.fl x,.fl y,v,h,h'=>by
  obtain⟨rfl,f⟩:=h;obtain⟨rfl,_⟩:=h';rw[D.eq];exact aFr f
 |.fl x,.tp m,v,h,h'=>by
  obtain⟨rfl,f⟩:=h;obtain⟨a,xs,rfl,_⟩:=h';exact(Al f).elim
 |.fl x,.ls m,v,h,h'=>by
  obtain⟨rfl,f⟩:=h;obtain⟨a,xs,rfl,_⟩:=h';exact(Al f).elim
 |.tp l,.fl x,v,h',h=>by
  obtain⟨rfl,f⟩:=h;obtain⟨a,xs,rfl,_⟩:=h';exact(Al f).elim
 |.ls l,.fl x,v,h',h=>by
  obtain⟨rfl,f⟩:=h;obtain⟨a,xs,rfl,_⟩:=h';exact(Al f).elim
 |.tp l,.tp m,v,h,h'=>by
  obtain⟨a,xs,rfl,h1,h2⟩:=h;obtain⟨b,ys,e,h3,h4⟩:=h';cases e;rw[I.tuple_inj h3 h1]at h4;rw[D.eq];exact xO I l m h2 h4
 |.ls l,.ls m,v,h,h'=>by
  obtain⟨a,xs,rfl,h1,h2⟩:=h;obtain⟨b,ys,e,h3,h4⟩:=h';cases e;rw[I.list_inj h3 h1]at h4;rw[D.eq];exact xO I l m h2 h4
 |.tp l,.ls m,v,h,h'=>by
  obtain⟨a,xs,rfl,h1,h2⟩:=h;obtain⟨b,ys,e,h3,h4⟩:=h';cases e;exact(I.not_both h3 h1).elim
 |.ls l,.tp m,v,h,h'=>by
  obtain⟨a,xs,rfl,h1,h2⟩:=h;obtain⟨b,ys,e,h3,h4⟩:=h';cases e;exact(I.not_both h1 h3).elim
theorem xO(I:Inv X pins σ H s):∀(l m:List D){xs:List V},wW X.K H l xs->wW X.K H m xs->D.eqs l m=true
 | [],[],xs,h,h'=>by rw[D.eqs]
 | [],_::_,xs,h,h'=>by
  obtain⟨x,r,rfl,_⟩:=h';cases (show(x::r)=[]from h)
 |_::_,[],xs,h',h=>by
  obtain⟨x,r,rfl,_⟩:=h';cases (show(x::r)=[]from h)
 |d::l,e::m,xs,h,h'=>by
  obtain⟨x,r,rfl,h1,h2⟩:=h;obtain⟨y,r',q,h3,h4⟩:=h';cases q;rw[D.eqs,aAs I d e h1 h3,xO I l m h2 h4];rfl
end
mutual
theorem aQf(I:Inv X pins σ H s):∀(d e:D){v v':V}{u u':Value}{A:Around},RelV v u->RelV v' u'->Den X.K H d v->Den X.K H e v'->A.units+d.dep+e.dep<cLine->Ip A s u u' (d.eq e)
 |.fl x,.fl y,v,v',u,u',A,r,r',h,h',hu=>by
  obtain⟨rfl,f⟩:=h;obtain⟨rfl,f'⟩:=h';rw[D.eq];exact aPk r r' f f'
 |.fl x,.tp m,v,v',u,u',A,r,r',h,h',hu=>by
  obtain⟨rfl,f⟩:=h;obtain⟨a,xs,rfl,hb,_⟩:=h';cases r';obtain⟨its2,r2,p2,_⟩:=I.tuple hb;rw[show D.eq (.fl v) (.tp m)=false by simp[D.eq]];have hu':A.units<cLine:=by lia
  cases v with
  |non=>cases r;exact SeqAt.EqAt.none_tuple p2 hu'
  |bl c=>cases r;exact SeqAt.EqAt.bool_tuple c p2 hu'
  |int c=>obtain⟨t,rfl⟩:=r;exact SeqAt.EqAt.int_tuple c t p2 hu'
  |str c=>obtain⟨t,rfl⟩:=r;exact SeqAt.EqAt.str_tuple c t p2 hu'
  |_=>exact(Al f).elim
 |.fl x,.ls m,v,v',u,u',A,r,r',h,h',hu=>by
  obtain⟨rfl,f⟩:=h;obtain⟨a,xs,rfl,hb,_⟩:=h';cases r';obtain⟨its2,r2,p2,_⟩:=I.list hb;rw[show D.eq (.fl v) (.ls m)=false by simp[D.eq]];have hu':A.units<cLine:=by lia
  cases v with
  |non=>cases r;exact SeqAt.EqAt.none_list p2.isList hu'
  |bl c=>cases r;exact SeqAt.EqAt.bool_list c p2.isList hu'
  |int c=>obtain⟨t,rfl⟩:=r;exact SeqAt.EqAt.int_list c t p2.isList hu'
  |str c=>obtain⟨t,rfl⟩:=r;exact SeqAt.EqAt.str_list c t p2.isList hu'
  |_=>exact(Al f).elim
 |.tp l,.fl x,v',v,u',u,A,r',r,h',h,hu=>by
  obtain⟨rfl,f⟩:=h;obtain⟨a,xs,rfl,hb,_⟩:=h';cases r';obtain⟨its2,r2,p2,_⟩:=I.tuple hb;rw[show D.eq (.tp l) (.fl v)=false by simp[D.eq]];have hu':A.units<cLine:=by lia
  cases v with
  |non=>cases r;exact SeqAt.EqAt.tuple_none p2 hu'
  |bl c=>cases r;exact SeqAt.EqAt.tuple_bool c p2 hu'
  |int c=>obtain⟨t,rfl⟩:=r;exact SeqAt.EqAt.tuple_int c t p2 hu'
  |str c=>obtain⟨t,rfl⟩:=r;exact SeqAt.EqAt.tuple_str c t p2 hu'
  |_=>exact(Al f).elim
 |.ls l,.fl x,v',v,u',u,A,r',r,h',h,hu=>by
  obtain⟨rfl,f⟩:=h;obtain⟨a,xs,rfl,hb,_⟩:=h';cases r';obtain⟨its2,r2,p2,_⟩:=I.list hb;rw[show D.eq (.ls l) (.fl v)=false by simp[D.eq]];have hu':A.units<cLine:=by lia
  cases v with
  |non=>cases r;exact SeqAt.EqAt.list_none p2.isList hu'
  |bl c=>cases r;exact SeqAt.EqAt.list_bool c p2.isList hu'
  |int c=>obtain⟨t,rfl⟩:=r;exact SeqAt.EqAt.list_int c t p2.isList hu'
  |str c=>obtain⟨t,rfl⟩:=r;exact SeqAt.EqAt.list_str c t p2.isList hu'
  |_=>exact(Al f).elim
 |.tp l,.ls m,v,v',u,u',A,r,r',h,h',hu=>by
  obtain⟨a,xs,rfl,h1,_⟩:=h;obtain⟨b,ys,rfl,h3,_⟩:=h';cases r;cases r';obtain⟨its,r1,p1,_⟩:=I.tuple h1;obtain⟨its2,r2,p2,_⟩:=I.list h3;rw[show D.eq (.tp l) (.ls m)=false by simp[D.eq]];exact SeqAt.EqAt.tuple_list p1 p2.isList ∅
 |.ls l,.tp m,v,v',u,u',A,r,r',h,h',hu=>by
  obtain⟨a,xs,rfl,h1,_⟩:=h;obtain⟨b,ys,rfl,h3,_⟩:=h';cases r;cases r';obtain⟨its,r1,p1,_⟩:=I.list h1;obtain⟨its2,r2,p2,_⟩:=I.tuple h3;rw[show D.eq (.ls l) (.tp m)=false by simp[D.eq]];exact SeqAt.EqAt.list_tuple p1.isList p2 ∅
 |.tp l,.tp m,v,v',u,u',A,r,r',h,h',hu=>by
  by_cases hab:v=v'
  ·subst hab;rw[aAs I _ _ h h'];rw[show u'=u from by obtain⟨a,xs,rfl,_⟩:=h;cases r;cases r';rfl];exact Ku _
  ·obtain⟨a,xs,rfl,h1,h2⟩:=h;obtain⟨b,ys,rfl,h3,h4⟩:=h';cases r;cases r';obtain⟨its,r1,p1,_⟩:=I.tuple h1;obtain⟨its2,r2,p2,_⟩:=I.tuple h3;rw[D.dep,D.dep]at hu;obtain⟨e,he,ee⟩:=uY (A:=A.in1) I l m r1 r2 h2 h4 (by show A.units+1+_+_<_;lia);have key:=Ol (A:=A) (s:=s) (l:=a) (b:=b) (items:=its.toArray) (items2:=its2.toArray) (e:=e) p1 p2 ∅ (λj g1 g2=>by
    have:=he j (by simpa using g1) (by simpa using g2);simpa using this)
   rw[Ak,Ak,ee]at key;rw[D.eq];exact Ob (λz=>hab (by rw[z])) key
 |.ls l,.ls m,v,v',u,u',A,r,r',h,h',hu=>by
  by_cases hab:v=v'
  ·subst hab;rw[aAs I _ _ h h'];rw[show u'=u from by obtain⟨a,xs,rfl,_⟩:=h;cases r;cases r';rfl];exact Ku _
  ·obtain⟨a,xs,rfl,h1,h2⟩:=h;obtain⟨b,ys,rfl,h3,h4⟩:=h';cases r;cases r';obtain⟨its,r1,p1,_⟩:=I.list h1;obtain⟨its2,r2,p2,_⟩:=I.list h3;rw[D.dep,D.dep]at hu;obtain⟨e,he,ee⟩:=uY (A:=A.in1) I l m r1 r2 h2 h4 (by show A.units+1+_+_<_;lia);rw[D.eq];refine Ob (λz=>hab (by rw[z])) ?_;by_cases hz:its.toArray.size=its2.toArray.size
   ·have key:=Ow (A:=A) (s:=s) (l:=a) (b:=b) (items:=its.toArray) (items2:=its2.toArray) (e:=e) p1.isList p2.isList hz ∅ (λj g1 g2=>by
     have:=he j (by simpa using g1) (by simpa using g2);simpa using this)
    rw[Ak,Ak]at hz;rw[<-hz,Wq,beq_self_eq_true,Ui]at ee;rw[Ak,ee]at key;exact key
   ·have hb':(its.length==its2.length)=false:=by simpa using hz
    rw[hb',Gg]at ee;rw[<-ee];exact SeqAt.RcAt.lists_lengths p1.isList p2.isList (by simpa using hz) ∅
theorem uY(I:Inv X pins σ H s){A:Around}:∀(l m:List D){xs ys:List V}{us ws:List Value},Vals xs us->Vals ys ws->wW X.K H l xs->wW X.K H m ys->A.units+D.deps l+D.deps m<cLine->
  ∃e:Nat->Bool,(∀j(h1:j<us.length)(h2:j<ws.length),Ip A s us[j] ws[j] (e j))/\((Br (min us.length ws.length)).all e && us.length==ws.length)=D.eqs l m
 | [],m,xs,ys,us,ws,r,r',h,h',hu=>by
  cases (show xs=[]from h);cases r;refine⟨λ_=>true,λj h1 _=>absurd h1 (Df j),?_⟩;cases m with
  |nil=>cases (show ys=[]from h');cases r';rw[D.eqs];rfl
  |cons e m=>
   obtain⟨y,t,rfl,_⟩:=h';cases r';simp[D.eqs]
 |d::l,[],xs,ys,us,ws,r,r',h,h',hu=>by
  obtain⟨x,t,rfl,_⟩:=h;cases (show ys=[]from h');cases r;cases r';exact⟨λ_=>true,λj _ h1=>absurd h1 (Df j),by simp[D.eqs]⟩
 |d::l,e::m,xs,ys,us,ws,r,r',h,h',hu=>by
  obtain⟨x,t,rfl,h1,h2⟩:=h;obtain⟨y,t',rfl,h3,h4⟩:=h';cases r with
  |@cons _ u0 _ us0 ru rus=>
  cases r' with
  |@cons _ w0 _ ws0 rw0 rws=>
  have hu1:A.units+d.dep+e.dep<cLine:=by
   rw[D.deps,D.deps]at hu;have:=Jx d.dep (D.deps l);have:=Jx e.dep (D.deps m)
   lia
  have hu2:A.units+D.deps l+D.deps m<cLine:=by
   rw[D.deps,D.deps]at hu;have:=Ji d.dep (D.deps l);have:=Ji e.dep (D.deps m)
   lia
  have E0:=aQf I d e (A:=A) ru rw0 h1 h3 hu1;obtain⟨e',he,ee⟩:=uY I l m rus rws h2 h4 hu2;refine⟨λj=>match j with|0=>d.eq e|j+1=>e' j,λj g1 g2=>?_,?_⟩
  ·cases j with
   |zero=>exact E0
   |succ j=>exact he j (by simpa using g1) (by simpa using g2)
  ·have hmin:min (u0::us0).length (w0::ws0).length=min us0.length ws0.length+1:=by
    rw[Ah,Ah]
    lia
   rw[hmin,qW,D.eqs, <-ee];show(d.eq e && (Br (min us0.length ws0.length)).all e' && _)=_;rw[Bool.and_assoc];congr 2;rw[Ex];simp
end
end
def aYe{A:Around}{s:Shared}{y x:V}{u v:Value}(ry:RelV y u)(rx:RelV x v)(fy:jK y=true)(fx:jK x=true):Vq A s u v (eqV y x)/\Tz A s u v (!eqV y x):=by
 cases y<;>first|exact(Al fy).elim|(cases x<;>first|exact(Al fx).elim|skip)
 all_goals first|obtain⟨t1,rfl⟩:=ry|cases ry
 all_goals first|obtain⟨t2,rfl⟩:=rx|cases rx
 ·exact⟨.none_none,.none_none⟩
 ·exact⟨.none_bool _,.none_bool _⟩
 ·exact⟨.none_int _ _,.none_int _ _⟩
 ·exact⟨.none_str _ _,.none_str _ _⟩
 ·exact⟨.bool_none _,.bool_none _⟩
 ·exact⟨.bool_bool _ _,.bool_bool _ _⟩
 ·exact⟨.bool_int _ _ _,.bool_int _ _ _⟩
 ·exact⟨.bool_str _ _ _,.bool_str _ _ _⟩
 ·exact⟨.int_none _ _,.int_none _ _⟩
 ·exact⟨.int_bool _ _ _,.int_bool _ _ _⟩
 ·exact⟨.int_int _ _ _ _,.int_int _ _ _ _⟩
 ·exact⟨.int_str _ _ _ _,.int_str _ _ _ _⟩
 ·exact⟨.str_none _ _,.str_none _ _⟩
 ·exact⟨.str_bool _ _ _,.str_bool _ _ _⟩
 ·exact⟨.str_int _ _ _ _,.str_int _ _ _ _⟩
 ·exact⟨.str_str _ _ _ _,.str_str _ _ _ _⟩
section
variable {X:Cx}{pins:List (Addr×Obj)}{σ:St}{H:Hp}{s:Shared}
def aN8(I:Inv X pins σ H s)(d e:D){v v':V}{u u':Value}{A:Around}(r:RelV v u)(r':RelV v' u')(h:Den X.K H d v)(h':Den X.K H e v')(hu:A.units+d.dep+e.dep<cLine):
  Vq A s u u' (d.eq e)/\Tz A s u u' (!d.eq e):=by
 have hu':A.units<cLine:=by lia
 match d,e,h,h',hu with
 |.fl x,.fl y,h,h',hu=>
  obtain⟨rfl,f⟩:=h;obtain⟨rfl,f'⟩:=h';rw[D.eq];exact aYe r r' f f'
 |.fl x,.tp m,h,h',hu=>
  obtain⟨rfl,f⟩:=h;obtain⟨a,xs,rfl,hb,_⟩:=h';cases r';obtain⟨its2,r2,p2,_⟩:=I.tuple hb;rw[show D.eq (.fl v) (.tp m)=false by simp[D.eq]];cases v with
  |non=>cases r;exact⟨.none_tuple p2 hu',.none_tuple p2 hu'⟩
  |bl c=>cases r;exact⟨.bool_tuple c p2 hu',.bool_tuple c p2 hu'⟩
  |int c=>obtain⟨t,rfl⟩:=r;exact⟨.int_tuple c t p2 hu',.int_tuple c t p2 hu'⟩
  |str c=>obtain⟨t,rfl⟩:=r;exact⟨.str_tuple c t p2 hu',.str_tuple c t p2 hu'⟩
  |_=>exact(Al f).elim
 |.fl x,.ls m,h,h',hu=>
  obtain⟨rfl,f⟩:=h;obtain⟨a,xs,rfl,hb,_⟩:=h';cases r';obtain⟨its2,r2,p2,_⟩:=I.list hb;rw[show D.eq (.fl v) (.ls m)=false by simp[D.eq]];have p2:=p2.isList;cases v with
  |non=>cases r;exact⟨.none_list p2 hu',.none_list p2 hu'⟩
  |bl c=>cases r;exact⟨.bool_list c p2 hu',.bool_list c p2 hu'⟩
  |int c=>obtain⟨t,rfl⟩:=r;exact⟨.int_list c t p2 hu',.int_list c t p2 hu'⟩
  |str c=>obtain⟨t,rfl⟩:=r;exact⟨.str_list c t p2 hu',.str_list c t p2 hu'⟩
  |_=>exact(Al f).elim
 |.tp m,.fl x,h',h,hu=>
  obtain⟨rfl,f⟩:=h;obtain⟨a,xs,rfl,hb,_⟩:=h';cases r;obtain⟨its2,r2,p2,_⟩:=I.tuple hb;rw[show D.eq (.tp m) (.fl v')=false by simp[D.eq]];cases v' with
  |non=>cases r';exact⟨.tuple_none p2 hu',.tuple_none p2 hu'⟩
  |bl c=>cases r';exact⟨.tuple_bool c p2 hu',.tuple_bool c p2 hu'⟩
  |int c=>obtain⟨t,rfl⟩:=r';exact⟨.tuple_int c t p2 hu',.tuple_int c t p2 hu'⟩
  |str c=>obtain⟨t,rfl⟩:=r';exact⟨.tuple_str c t p2 hu',.tuple_str c t p2 hu'⟩
  |_=>exact(Al f).elim
 |.ls m,.fl x,h',h,hu=>
  obtain⟨rfl,f⟩:=h;obtain⟨a,xs,rfl,hb,_⟩:=h';cases r;obtain⟨its2,r2,p2,_⟩:=I.list hb;rw[show D.eq (.ls m) (.fl v')=false by simp[D.eq]];have p2:=p2.isList;cases v' with
  |non=>cases r';exact⟨.list_none p2 hu',.list_none p2 hu'⟩
  |bl c=>cases r';exact⟨.list_bool c p2 hu',.list_bool c p2 hu'⟩
  |int c=>obtain⟨t,rfl⟩:=r';exact⟨.list_int c t p2 hu',.list_int c t p2 hu'⟩
  |str c=>obtain⟨t,rfl⟩:=r';exact⟨.list_str c t p2 hu',.list_str c t p2 hu'⟩
  |_=>exact(Al f).elim
 |.tp l,.ls m,h,h',hu=>
  obtain⟨a,xs,rfl,h1,_⟩:=h;obtain⟨b,ys,rfl,h3,_⟩:=h';cases r;cases r';obtain⟨its,r1,p1,_⟩:=I.tuple h1;obtain⟨its2,r2,p2,_⟩:=I.list h3;rw[show D.eq (.tp l) (.ls m)=false by simp[D.eq]];exact⟨.tuple_list p1 p2.isList hu',.tuple_list p1 p2.isList hu'⟩
 |.ls l,.tp m,h,h',hu=>
  obtain⟨a,xs,rfl,h1,_⟩:=h;obtain⟨b,ys,rfl,h3,_⟩:=h';cases r;cases r';obtain⟨its,r1,p1,_⟩:=I.list h1;obtain⟨its2,r2,p2,_⟩:=I.tuple h3;rw[show D.eq (.ls l) (.tp m)=false by simp[D.eq]];exact⟨.list_tuple p1.isList p2 hu',.list_tuple p1.isList p2 hu'⟩
 |.tp l,.tp m,h,h',hu=>
  obtain⟨a,xs,rfl,h1,h2⟩:=h;obtain⟨b,ys,rfl,h3,h4⟩:=h';cases r;cases r';obtain⟨its,r1,p1,_⟩:=I.tuple h1;obtain⟨its2,r2,p2,_⟩:=I.tuple h3;rw[D.dep,D.dep]at hu;obtain⟨e,he,ee⟩:=uY (A:=A.in1) I l m r1 r2 h2 h4 (by show A.units+1+_+_<_;lia);have hj:∀j(g1:j<its.toArray.size)(g2:j<its2.toArray.size),Ip A.in1 s its.toArray[j] its2.toArray[j] (e j):=λj g1 g2=>by
   have:=he j (by simpa using g1) (by simpa using g2);simpa using this
  have k1:=Ol p1 p2 hu' hj;have k2:=Vo p1 p2 hu' hj;rw[Ak,Ak,ee]at k1 k2;rw[D.eq];exact⟨k1,k2⟩
 |.ls l,.ls m,h,h',hu=>
  obtain⟨a,xs,rfl,h1,h2⟩:=h;obtain⟨b,ys,rfl,h3,h4⟩:=h';cases r;cases r';obtain⟨its,r1,p1,_⟩:=I.list h1;obtain⟨its2,r2,p2,_⟩:=I.list h3;rw[D.dep,D.dep]at hu;obtain⟨e,he,ee⟩:=uY (A:=A.in1) I l m r1 r2 h2 h4 (by show A.units+1+_+_<_;lia);have hj:∀j(g1:j<its.toArray.size)(g2:j<its2.toArray.size),Ip A.in1 s its.toArray[j] its2.toArray[j] (e j):=λj g1 g2=>by
   have:=he j (by simpa using g1) (by simpa using g2);simpa using this
  rw[D.eq];by_cases hz:its.toArray.size=its2.toArray.size
  ·have k1:=Ow p1.isList p2.isList hz hu' hj;have k2:=Vp p1.isList p2.isList hz hu' hj;rw[Ak,Ak]at hz;rw[<-hz,Wq,beq_self_eq_true,Ui]at ee;rw[Ak,ee]at k1 k2;exact⟨k1,k2⟩
  ·have hb':(its.length==its2.length)=false:=by simpa using hz
   rw[hb',Gg]at ee;rw[<-ee];exact⟨.lists_lengths p1.isList p2.isList (by simpa using hz) hu',.lists_lengths p1.isList p2.isList (by simpa using hz) hu'⟩
def Den.inj(I:Inv X pins σ H s):∀(d:D)(e:D){v:V},Den X.K H d v->Den X.K H e v->d=e:=by
 have key:∀(n:Nat)(d e:D){v:V},d.dep<=n->Den X.K H d v->Den X.K H e v->d=e:=by
  intro n;induction n with
  |zero=>
   intro d e v hn h h';match d,e,h,h',hn with
   |.fl x,.fl y,h,h',_=>rw[<-h.1, <-h'.1]
   |.fl x,.tp m,h,h',_=>obtain⟨rfl,f⟩:=h;obtain⟨a,xs,rfl,_⟩:=h';exact(Al f).elim
   |.fl x,.ls m,h,h',_=>obtain⟨rfl,f⟩:=h;obtain⟨a,xs,rfl,_⟩:=h';exact(Al f).elim
   |.tp l,_,_,_,hn=>rw[D.dep]at hn;lia
   |.ls l,_,_,_,hn=>rw[D.dep]at hn;lia
  |succ n ih=>
   have items:∀(l m:List D){xs:List V},D.deps l<=n->wW X.K H l xs->wW X.K H m xs->l=m:=by
    intro l;induction l with
    |nil=>
     intro m xs _ h h';cases (show xs=[]from h);cases m with
     |nil=>rfl
     |cons e m=>obtain⟨y,t,q,_⟩:=h';cases q
    |cons d l il=>
     intro m xs hn h h';obtain⟨x,t,rfl,h1,h2⟩:=h;cases m with
     |nil=>cases (show(x::t)=[]from h')
     |cons e m=>
      obtain⟨y,t',q,h3,h4⟩:=h';cases q;rw[D.deps]at hn;have a1:=Jx d.dep (D.deps l);have a2:=Ji d.dep (D.deps l);rw[ih d e ∅ h1 h3,il m ∅ h2 h4]
   intro d e v hn h h';match d,e,h,h',hn with
   |.fl x,.fl y,h,h',_=>rw[<-h.1, <-h'.1]
   |.fl x,.tp m,h,h',_=>obtain⟨rfl,f⟩:=h;obtain⟨a,xs,rfl,_⟩:=h';exact(Al f).elim
   |.fl x,.ls m,h,h',_=>obtain⟨rfl,f⟩:=h;obtain⟨a,xs,rfl,_⟩:=h';exact(Al f).elim
   |.tp m,.fl x,h',h,_=>obtain⟨rfl,f⟩:=h;obtain⟨a,xs,rfl,_⟩:=h';exact(Al f).elim
   |.ls m,.fl x,h',h,_=>obtain⟨rfl,f⟩:=h;obtain⟨a,xs,rfl,_⟩:=h';exact(Al f).elim
   |.tp l,.ls m,h,h',_=>obtain⟨a,xs,rfl,h1,_⟩:=h;obtain⟨b,ys,e,h3,_⟩:=h';cases e;exact(I.not_both h3 h1).elim
   |.ls l,.tp m,h,h',_=>obtain⟨a,xs,rfl,h1,_⟩:=h;obtain⟨b,ys,e,h3,_⟩:=h';cases e;exact(I.not_both h1 h3).elim
   |.tp l,.tp m,h,h',hn=>
    obtain⟨a,xs,rfl,h1,h2⟩:=h;obtain⟨b,ys,e,h3,h4⟩:=h';cases e;rw[I.tuple_inj h3 h1]at h4;rw[D.dep]at hn;rw[items l m ∅ h2 h4]
   |.ls l,.ls m,h,h',hn=>
    obtain⟨a,xs,rfl,h1,h2⟩:=h;obtain⟨b,ys,e,h3,h4⟩:=h';cases e;rw[I.list_inj h3 h1]at h4;rw[D.dep]at hn;rw[items l m ∅ h2 h4]
 exactλd e v h h'=>key _ d e (Am _) h h'
inductive aVk(K:Ac)(neg:Bool)(x:V)(y:V)(H:Hp)(Q:VK):Prop
 |mk (d e:_) (q0_:Den K H d x) (q1_:Den K H e y) (q2_:d.dep+e.dep<=100) (q3_:Q (.bl (if neg then !d.eq e else d.eq e)) H):aVk K neg x y H Q
def aX2(K:Ac)(neg:Bool):R2:=λx y H Q=>aVk K neg x y H Q
def lW(hu:X.A.units+101<cLine):OpR X (compareOp .Eq) (aX2 X.K false):=by
 intro pins s σ H x y v u Q I rx ry h;obtain⟨d,e,h1,h2,hd,q⟩:=h;exact(aN8 (A:=X.A) I d e rx ry h1 h2 ∅).1 _ _ _ _ ⟨.bl _,H,I,rfl,q⟩
def aBc(hu:X.A.units+101<cLine):OpR X (compareOp .NotEq) (aX2 X.K true):=by
 intro pins s σ H x y v u Q I rx ry h;obtain⟨d,e,h1,h2,hd,q⟩:=h;exact(aN8 (A:=X.A) I d e rx ry h1 h2 ∅).2 _ _ _ _ ⟨.bl _,H,I,rfl,q⟩
inductive aUu(K:Ac)(neg:Bool)(x:V)(y:V)(H:Hp)(Q:VK):Prop
 |mk (d p xs l:_) (q0_:Den K H d x) (q1_:y=.ref p) (q2_:(SqL K H p xs∨SqT K H p xs)) (q3_:wW K H l xs) (q4_:d.dep+D.deps l<=99) (q5_:Q (.bl (if neg then !(l.any λe=>e.eq d)else l.any λe=>e.eq d)) H):aUu K neg x y H Q
def aYc(K:Ac)(neg:Bool):R2:=λx y H Q=>aUu K neg x y H Q
open Classical in
def sJ(I:Inv X pins σ H s){d:D}{x:V}{v:Value}(rx:RelV x v)(hx:Den X.K H d x){A:Around}:∀{l:List D}{xs:List V}{us:List Value},Vals xs us->wW X.K H l xs->A.units+d.dep+D.deps l<cLine->
  ∃e:Value->Bool,(e=λw=>decide (∃d' x',RelV x' w/\Den X.K H d' x'/\d'.eq d=true))/\(∀w∈us,Ip A s w v (e w))/\us.any e=l.any λe=>e.eq d:=by
 intro l;induction l with
 |nil=>
  intro xs us r h hu;cases (show xs=[]from h);cases r;exact⟨_,rfl,λw hw=>(by cases hw),rfl⟩
 |cons d0 l ih=>
  intro xs us r h hu;obtain⟨x0,t,rfl,h1,h2⟩:=h;cases r with
  |@cons _ u0 _ us0 r0 rr=>
  rw[D.deps]at hu;have a1:=Jx d0.dep (D.deps l);have a2:=Ji d0.dep (D.deps l);obtain⟨e,ee,i1,i2⟩:=ih rr h2 ∅;have e0:e u0=d0.eq d:=by
   rw[ee];by_cases hq:d0.eq d=true
   ·rw[hq];exact decide_eq_true ⟨d0,x0,r0,h1,hq⟩
   ·rw[Bool.not_eq_true]at hq;rw[hq];refine decide_eq_false ?_;rintro⟨d',x',r',h',q'⟩;cases RelV.inj r' r0;rw[Den.inj I d' d0 h' h1,hq]at q';cases q'
  refine⟨e,ee,λw hw=>?_,?_⟩
  ·rcases List.mem_cons.mp hw with rfl|hw
   ·rw[e0];exact aQf I d0 d r0 rx h1 hx ∅
   ·exact i1 w hw
  ·rw[Do,Do,i2,e0]
def aXa(hu:X.A.units+101<cLine):OpR X (compareOp .In) (aYc X.K false):=by
 intro pins s σ H x y v u Q I rx ry h;obtain⟨d,p,xs,l,h1,rfl,hq,h2,hd,q⟩:=h;cases ry;rcases hq with hq|hq
 ·obtain⟨its,r,pl,hz⟩:=I.list hq;obtain⟨e,_,i1,i2⟩:=sJ (A:=X.A.in1) I rx h1 r h2 (by show X.A.units+1+_+_<_;lia);refine SeqAt.in_listAt e pl.isList (λw hw=>i1 w (by simpa using hw)) ⟨.bl _,H,I,rfl,?_⟩;rw[show its.toArray.any e=its.any e by simp,i2];exact q
 ·obtain⟨its,r,pl,hz⟩:=I.tuple hq;obtain⟨e,_,i1,i2⟩:=sJ (A:=X.A.in1) I rx h1 r h2 (by show X.A.units+1+_+_<_;lia);refine SeqAt.in_tupleAt e pl (λw hw=>i1 w (by simpa using hw)) ⟨.bl _,H,I,rfl,?_⟩;rw[show its.toArray.any e=its.any e by simp,i2];exact q
def aB7(hu:X.A.units+101<cLine):OpR X (compareOp .NotIn) (aYc X.K true):=by
 intro pins s σ H x y v u Q I rx ry h;obtain⟨d,p,xs,l,h1,rfl,hq,h2,hd,q⟩:=h;cases ry;rcases hq with hq|hq
 ·obtain⟨its,r,pl,hz⟩:=I.list hq;obtain⟨e,_,i1,i2⟩:=sJ (A:=X.A.in1) I rx h1 r h2 (by show X.A.units+1+_+_<_;lia);refine Qi e pl.isList (λw hw=>i1 w (by simpa using hw)) ⟨.bl _,H,I,rfl,?_⟩;rw[show its.toArray.any e=its.any e by simp,i2];exact q
 ·obtain⟨its,r,pl,hz⟩:=I.tuple hq;obtain⟨e,_,i1,i2⟩:=sJ (A:=X.A.in1) I rx h1 r h2 (by show X.A.units+1+_+_<_;lia);refine Pu e pl (λw hw=>i1 w (by simpa using hw)) ⟨.bl _,H,I,rfl,?_⟩;rw[show its.toArray.any e=its.any e by simp,i2];exact q
end
mutual
def uL(Av:Addr->Prop)(H:Hp):D->V->Prop
 |.fl x,v=>v=x/\jK x=true
 |.tp l,v=>∃p xs,v=.ref p/\H p=some (.tup xs)/\fH Av H l xs
 |.ls l,v=>∃p xs,v=.ref p/\¬Av p/\H p=some (.lst xs)/\fH Av H l xs
def fH(Av:Addr->Prop)(H:Hp):List D->List V->Prop
 | [],xs=>xs=[]
 |d::l,xs=>∃x r,xs=x::r/\uL Av H d x/\fH Av H l r
end
variable {Av:Addr->Prop}{H H':Hp}
mutual
theorem uL.mono(k1:∀b xs,H b=some (.tup xs)->H' b=some (.tup xs))(k2:∀b xs,¬Av b->H b=some (.lst xs)->H' b=some (.lst xs)):∀(d:D){v:V},uL Av H d v->uL Av H' d v
 |.fl x,v,h=>h
 |.tp l,v,h=>by
  obtain⟨p,xs,e,hp,t⟩:=h;exact⟨p,xs,e,k1 _ _ hp,fH.mono k1 k2 l t⟩
 |.ls l,v,h=>by
  obtain⟨p,xs,e,n,hp,t⟩:=h;exact⟨p,xs,e,n,k2 _ _ n hp,fH.mono k1 k2 l t⟩
theorem fH.mono(k1:∀b xs,H b=some (.tup xs)->H' b=some (.tup xs))(k2:∀b xs,¬Av b->H b=some (.lst xs)->H' b=some (.lst xs)):∀(l:List D){xs:List V},fH Av H l xs->fH Av H' l xs
 | [],xs,h=>h
 |d::l,xs,h=>by
  obtain⟨x,r,e,h1,h2⟩:=h;exact⟨x,r,e,uL.mono k1 k2 d h1,fH.mono k1 k2 l h2⟩
end
mutual
theorem uL.den(K:Ac):∀(d:D){v:V},uL Av H d v->Den K H d v
 |.fl x,v,h=>h
 |.tp l,v,h=>by
  obtain⟨p,xs,e,hp,t⟩:=h;exact⟨p,xs,e,SqT.of hp,fH.dens K l t⟩
 |.ls l,v,h=>by
  obtain⟨p,xs,e,n,hp,t⟩:=h;exact⟨p,xs,e,SqL.of hp,fH.dens K l t⟩
theorem fH.dens(K:Ac):∀(l:List D){xs:List V},fH Av H l xs->wW K H l xs
 | [],xs,h=>h
 |d::l,xs,h=>by
  obtain⟨x,r,e,h1,h2⟩:=h;exact⟨x,r,e,uL.den K d h1,fH.dens K l h2⟩
end
mutual
theorem uL.weak{Bv:Addr->Prop}(k:∀b,Bv b->Av b):∀(d:D){v:V},uL Av H d v->uL Bv H d v
 |.fl x,v,h=>h
 |.tp l,v,h=>by
  obtain⟨p,xs,e,hp,t⟩:=h;exact⟨p,xs,e,hp,fH.weak k l t⟩
 |.ls l,v,h=>by
  obtain⟨p,xs,e,n,hp,t⟩:=h;exact⟨p,xs,e,λz=>n (k p z),hp,fH.weak k l t⟩
theorem fH.weak{Bv:Addr->Prop}(k:∀b,Bv b->Av b):∀(l:List D){xs:List V},fH Av H l xs->fH Bv H l xs
 | [],xs,h=>h
 |d::l,xs,h=>by
  obtain⟨x,r,e,h1,h2⟩:=h;exact⟨x,r,e,uL.weak k d h1,fH.weak k l h2⟩
end
mutual
theorem uL.refl:∀(d:D){v:V},uL Av H d v->d.eq d=true
 |.fl x,v,h=>by
  rw[D.eq];exact aFr h.2
 |.tp l,v,h=>by
  obtain⟨p,xs,e,hp,t⟩:=h;rw[D.eq];exact fH.refl l t
 |.ls l,v,h=>by
  obtain⟨p,xs,e,n,hp,t⟩:=h;rw[D.eq];exact fH.refl l t
theorem fH.refl:∀(l:List D){xs:List V},fH Av H l xs->D.eqs l l=true
 | [],xs,h=>by rw[D.eqs]
 |d::l,xs,h=>by
  obtain⟨x,r,e,h1,h2⟩:=h;rw[D.eqs,uL.refl d h1,fH.refl l h2];rfl
end
def aYg{H H1:Hp}{o:HO}(h:H p=none)(e:upd H p o=H1):fJ H H1/\H1 p=some o:=by
 subst e;refine⟨λb u q=>?_,aJ⟩;rw[aP (aQ q h)];exact q
structure Cal(P:Program)(w:World)(K:Ac)(mg:Str->Option Value)(base:Heap)(CX:CXT)(k:Nat)(x:Str)(ps:List Str)(sp:Sp):Prop where
 ex:∃f fd,bC P w K mg base CX k f fd ps sp/\mg x=some (.ref f)/\Fz K (.ref f)=true/\Binds K fd ps []
def aR2{X:Cx}{CX:CXT}{sp:Sp}{E:XK}{es:List Expr}{t:TA}{p pos:Pos}(C:Cal X.prog X.w X.K X.mg X.base CX k x ps sp)(hr:dG k X.A)(hg:Gl X x)(hx:pL CX X E)
  (ha:PA X (e::es) t) (hdb:ND x:=by decide) (he:SE X e es:=by rfl) (hpl:BT X pos es:=by rfl):
  PE X (.Call (.Name x p) (e::es) [] pos) (aUa sp [] E t):=by
 obtain⟨f,fd,F,hm,hk,hb⟩:=C.ex;exact aS8 F hr hg hm hk hb .nil hx ha hdb he hpl
abbrev uO(scope sc0:Scope)(cap:List (Str×Nat))(N:List Str):Prop:=scope.kind=.function/\(∀y∈scope.names,y.2≠.cell)/\(∀y∈scope.names,y.2=.local->scope.names.lookup y.1=some .local)/\
 (∀y∈scope.names,y.2=.free->sc0.names.lookup y.1=some .cell)/\(∀p∈cap,N[p.2]? =some p.1/\scope.names.lookup p.1=some .free/\sc0.names.lookup p.1=some .cell)
def aOa{cap:List (Str×Nat)}{sc0:Scope}{N0:List Str}(hs:X.env.scope=sc0)(hN:X.N=N0)(hcell:HC X)(ok:uO scope sc0 cap N0):∃cl,gG X scope cap cl:=by
 subst hs hN;exact aHd hcell ok.1 ok.2.1 ok.2.2.1 ok.2.2.2.1 ok.2.2.2.2
def aUd{own:List Str}{cap:List (Str×Nat)}(sc0:Scope)(N0:List Str)(hsc:X.env.scope=sc0)(hN:X.N=N0)(hcell:HC X)
  (ok:uO scope sc0 cap N0) (hc:X.calm=true) (hi:PI X tg iter wi)
  (hg:∀cl C s2 H2 fp,PG (bT X (eQ own cap) scope cl C s2 H2 fp) tg g) (he:∀cl C s2 H2 fp,PE (bT X (eQ own cap) scope cl C s2 H2 fp) elt te)
  (hs:FS X iter:=by intro _;rfl):PE X (.ListComp elt [⟨tg,iter,[],0⟩] scope pos) (aB0 own.length cap wi g te):=by
 obtain⟨cl,S⟩:=aOa hsc hN hcell ok;exact aI9 S hc hi (hg cl) (he cl) hs
def aWn{elt iter tg ci:Expr}{own:List Str}{cap:List (Str×Nat)}(sc0:Scope)(N0:List Str)(hsc:X.env.scope=sc0)(hN:X.N=N0)(hcell:HC X)
  (ok:uO scope sc0 cap N0) (hc:X.calm=true) (hi:PI X tg iter wi)
  (hg:∀cl C s2 H2 fp,PG (bT X (eQ own cap) scope cl C s2 H2 fp) tg g) (htc:∀cl C s2 H2 fp,PT (bT X (eQ own cap) scope cl C s2 H2 fp) ci tc) (he:∀cl C s2 H2 fp,PE (bT X (eQ own cap) scope cl C s2 H2 fp) elt te)
  (hs:FS X iter:=by intro _;rfl):PE X (.ListComp elt [⟨tg,iter,[ci],0⟩] scope pos) (zZ own.length cap wi g tc te):=by
 obtain⟨cl,S⟩:=aOa hsc hN hcell ok;exact aPr S hc hi (hg cl) (htc cl) (he cl) hs
def bAm{own:List Str}{cap:List (Str×Nat)}{pos spos py:Pos}(hnd:X.N.Nodup)(hi':X.N[i]? =some x)(hx:Loc X.env.scope x)
  (sc0:Scope) (N0:List Str) (hsc:X.env.scope=sc0) (hN:X.N=N0) (hcell:HC X)
  (ok:uO scope sc0 cap N0) (hc:X.calm=true) (hi:PI X tg iter wi)
  (hg:∀cl C s2 H2 fp,PG (bT X (eQ own cap) scope cl C s2 H2 fp) tg g) (he:∀cl C s2 H2 fp,PE (bT X (eQ own cap) scope cl C s2 H2 fp) elt te)
  (hsw:swapsWith (.ListComp elt [⟨tg,iter,[],0⟩] scope pos) (some (.Name x py)) spos.line X.env=pure true:=by rfl)
  (hs:FS X iter:=by intro _;rfl) (hf:FL X x:=by trivial):
  PS X (.Assign [.Name x py] (.ListComp elt [⟨tg,iter,[],0⟩] scope pos) spos) (aNx (aB0 own.length cap wi g te) (tW i)):=by
 obtain⟨cl,S⟩:=aOa hsc hN hcell ok;exact aHt hnd hi' hx S hc hi (hg cl) (he cl) hsw hs hf
section
variable {α:Type}{A B:List (Str×α)}{x:Str}{c:α}
end
section
variable {prog:Program}{w:World}{A:Around}{R:Result->Shared->Prop}{s:Shared}
end
abbrev aDj(scope:Scope):Prop:=scope.kind=.function/\∀y∈scope.names,y.2≠.cell/\y.2≠.free/\(y.2=.local->scope.names.lookup y.1=some .local)
def aXz(ok:aDj scope):∃cl,gG X scope [] cl:=by
 obtain⟨k,nm⟩:=ok;obtain⟨cl,e,a,b⟩:=rW X.env scope.names [] (λy hy hf=>((nm y hy).2.1 hf).elim) (λx c h=>by simp at h);refine⟨cl,?_,k,λy hy=>(nm y hy).1,λy hy=>(nm y hy).2.2,a,λx hx=>b x (.inr (Dl hx)),λp hp=>nomatch hp⟩;unfold closureFor;refine Eq.trans ?_ e;simp only[bind_pure]
def aW4{own:List Str}(ok:aDj scope)(hc:X.calm=true)(hi:PI X tg iter wi)
  (hg:∀cl C s2 H2 fp,PG (bT X (eQ own []) scope cl C s2 H2 fp) tg g) (he:∀cl C s2 H2 fp,PE (bT X (eQ own []) scope cl C s2 H2 fp) elt te)
  (hs:FS X iter:=by intro _;rfl):PE X (.ListComp elt [⟨tg,iter,[],0⟩] scope pos) (aB0 own.length [] wi g te):=by
 obtain⟨cl,S⟩:=aXz ok;exact aI9 S hc hi (hg cl) (he cl) hs
variable {B:St->Hp->Prop}{R:Hp->V->Prop}
def aOo(K:Ac):List V->Hp->VK->Prop:=λxs H Q=>∃p ys,xs=[.ref p]/\(SqL K H p ys∨SqT K H p ys)/\∀l,H l=none->Q (.ref l) (upd H l (.lst ys))
def aKb(K:Ac):List V->Hp->VK->Prop:=λxs H Q=>∃p ys,xs=[.ref p]/\((SqL K H p ys/\∀l,H l=none->Q (.ref l) (upd H l (.tup ys)))∨(SqT K H p ys/\Q (.ref p) H))
def iG{X:Cx}{K:Ac}(h:X.K=K):eE X (.type "list") (aOo K):=by
 subst h;exact aEi
def xZ{X:Cx}{K:Ac}(h:X.K=K):eE X (.type "tuple") (aKb K):=by
 subst h;exact tL
def aYx(_ j:Int):Prop:=0<j/\j<2 ^ 62
def aPx:OpR X (binaryOp .FloorDiv) (rI aYx λi j=> .int (i / j)):=opI λi j _ _ _ _ _ hc q=>by
 have h1:(0:Int)<j:=hc.1;have h2:j<2 ^ 62:=hc.2;refine floordiv_int ∅ (by rw[Nv i ∅];exact q) (.inl (PyProof.noPylong_of_log2 ?_));have h3:j.natAbs<2 ^ 62:=by lia
 have:=(Xi ∅).mpr h3
 lia
variable {K:Ac}
def lD(P:Program)(w:World)(a:Addr)(xs:List ((Int×List Int)×Addr))(h:Heap):Prop:=∃o es ep t,h.get? a=some o/\o.ExactSet/\o.data=.set es ep t/\es.toList=xs.map (λx=>((cT (intKind P w)).hash x.1,An x.2))/\t.Good/\t.place.size=es.size/\(xs.map (·.1)).Nodup/\
 (∀(i j:Nat)(x:(Int×List Int)×Addr),t.place[i]? =some j->xs[i]? =some x->SetTable.qP t ((cT (intKind P w)).hash x.1) j)/\t.Small/\t.plain=true/\t.led= !w.params.followText "set-order"
def TKy(H:Hp)(x:List Int×Addr):Prop:=H x.2=some (.tup (x.1.map V.int))
def PKy(H:Hp)(x:(Int×List Int)×Addr):Prop:=∃q,H x.2=some (.tup [.int x.1.1,.ref q])/\TKy H (x.1.2,q)
section
variable {P:Program}{w:World}{H:Hp}{h:Heap}{a:Addr}{s:Shared}{xs:List ((Int×List Int)×Addr)}
def lD.stay(h1 h2:Heap)(p:lD P w a xs h1)(k:∀o,h1.get? a=some o->h2.get? a=some o):lD P w a xs h2:=let⟨o,es,ep,t,e,c⟩:=p;⟨o,es,ep,t,k _ e,c⟩
def lD.of(I:lB (cT (intKind P w)) s a (!w.params.followText "set-order") xs):lD P w a xs s.heap:=by
 obtain⟨o,es,ep,t,S,r1,r2,r3⟩:=I;exact⟨o,es,ep,t,S.ho,S.hex,S.hd,S.he,S.good,S.size,S.nd,S.way,r1,r2,r3⟩
def lD.is(I:lD P w a xs s.heap)(keys:∀x∈xs,bJ (intKind P w) s.heap x.1 x.2):lB (cT (intKind P w)) s a (!w.params.followText "set-order") xs:=by
 obtain⟨o,es,ep,t,a1,a2,a3,a4,a5,a6,a7,a8,r1,r2,r3⟩:=I;exact⟨o,es,ep,t,⟨a1,a2,a3,a4,a5,a6,keys,a7,a8⟩,r1,r2,r3⟩
def aKz{ns:List Int}:∀{us:List Value},Vals (ns.map V.int) us->ItemsAre (intKind P w) ns us:=by
 induction ns with
 |nil=>intro us r;rw[Dg]at r;cases r;exact .nil
 |cons n ns ih=>
  intro us r;rw[Au]at r;cases r with
  |@cons _ v _ _ r1 t=>
   obtain⟨tk,rfl⟩:=r1;exact .cons (by show Iw n (.int n tk)=true;simp[Iw]) (ih t)
def aTc{x:List Int×Addr}(ok:HOk P w H h)(e:TKy H x):IsTupleKey (intKind P w) h x.1 x.2:=by
 obtain⟨_,its,r,o,h1,h2,n,h3⟩:=(show cF P w H h x.2 (.tup (x.1.map V.int))from ok _ _ e);exact⟨o,its.toArray,n,h1,h2,h3,aKz r⟩
def pF{x:(Int×List Int)×Addr}(ok:HOk P w H h)(e:PKy H x):bJ (intKind P w) h x.1 x.2:=by
 obtain⟨q,e1,e2⟩:=e;obtain⟨_,its,r,o,h1,h2,n,h3⟩:=(show cF P w H h x.2 (.tup [.int x.1.1,.ref q])from ok _ _ e1);obtain⟨u,v,rfl,ru,rv⟩:=vals2 r;obtain⟨tk,rfl⟩:=ru;obtain rfl:v=An q:=rv;exact⟨o,_,q,n,h1,h2,h3,(by show Iw _ (.int _ tk)=true;simp[Iw]),aTc ok e2⟩
end
theorem aA4:∀{ps:List ((Int×List Int)×Addr)}{us:List Value},Vals (ps.map λx=>V.ref x.2) us->us=ps.map λx=>An x.2
 | [],_,.nil=>rfl
 |_::_,_,.cons (r1:_=An _) t=>by subst r1;rw[Au,aA4 t]
theorem uC:∀{ps:List ((Int×List Int)×Addr)},Vals (ps.map λx=>V.ref x.2) (ps.map λx=>An x.2)
 | []=> .nil
 |_::_=> .cons rfl uC
inductive aOl(P:Program)(w:World)(K:Ac)(xs:List V)(H:Hp)(Q:VK):Prop
 |mk (p:Addr) (ps:List ((Int×List Int)×Addr)) (q0_:xs=[.ref p]) (q1_:SqL K H p (ps.map λx=>V.ref x.2)) (q2_:(∀x∈ps,PKy H x)) (q3_:ps.length<=1000) (q4_:(∃ks:List (Int×List Int),ks.length<300/\∀x∈ps,x.1∈ks)) (q5_:∀(l:Addr)(zs:List ((Int×List Int)×Addr)),H l=none->(zs.map (·.1)).Nodup->(∀x∈zs,x∈ps)->(∀x∈ps,∃z∈zs,z.1=x.1)->zs.length<=ps.length->Q (.ref l) (upd H l (.ext (lD P w l zs)))):aOl P w K xs H Q
def aYr(P:Program)(w:World)(K:Ac):List V->Hp->VK->Prop:=λxs H Q=>aOl P w K xs H Q
inductive aC2(P:Program)(w:World)(xs:List V)(H:Hp)(Q:VK):Prop
 |mk (p:Addr) (ps:List ((Int×List Int)×Addr)) (q0_:xs=[.ref p]) (q1_:H p=some (.ext (lD P w p ps))) (q2_:(∀x∈ps,PKy H x)) (q3_:ps.length<64) (q4_:∀(l:Addr)(ys:List ((Int×List Int)×Addr)),H l=none->ys.Perm ps->ys.Pairwise (λx y=>iV x.1 y.1=true)->Q (.ref l) (upd H l (.lst (ys.map λx=>V.ref x.2)))):aC2 P w xs H Q
def aPf(P:Program)(w:World):List V->Hp->VK->Prop:=λxs H Q=>aC2 P w xs H Q
def aLu(hu:X.A.units+20<cLine)(hc:X.calm=true):eE X (.type "set") (aYr X.prog X.w X.K):=by
 intro pins s σ H xs us Q I r h;obtain⟨p,ps,rfl,hq,hk,hln,⟨ks,kl,km⟩,q⟩:=h;obtain⟨u,rfl,ru⟩:=vals1 r;cases ru;obtain⟨its,rv,pl,hz⟩:=I.list hq;have ei:=aA4 rv;have hlen:its.length=ps.length:=by rw[ei,Ab]
 have at_:∀i,i<ps.length->ps.getD i ((0,[]),0)∈ps:=λi hi=>by simp[Kv,hi]
 refine aA3 (knd:=cT (intKind X.prog X.w)) (items:=its.toArray) (val:=λi=>(ps.getD i ((0,[]),0)).1) (adr:=λi=>(ps.getD i ((0,[]),0)).2) (aMr λk v hv=>?_) (λA' hA=>?_) (I.ok.hd hc) pl.isList (λi v hv=>?_) (λj hj=>?_) (λi xs hi M nd=>?_) λh' tk zs S M hk'=>?_
 ·obtain⟨t,rfl⟩:=Dk hv;exact⟨_,_,rfl⟩
 ·show A'.units+1<cLine
  lia
 ·have hi:i<its.toArray.size:=(Array.getElem?_eq_some_iff.mp hv).1;rw[Ak,hlen]at hi;rw[Jq,ei]at hv;simp[hi]at hv;rw[<-hv];simp[Kv,hi]
 ·rw[Ak,hlen]at hj;exact pF I.hok (hk _ (at_ j hj))
 ·rw[Ak,hlen]at hi;have:=nd.length_le_of_subset (l₂:=ks) λk hk=>by
   obtain⟨x,hx,rfl⟩:=List.mem_map.mp hk;obtain⟨j,hj,e⟩:=M.from' x hx;rw[e];exact km _ (at_ j ∅)
  rw[Ab]at this
  lia
 ·have kp:∀b o,s.heap.get? b=some o->h'.get? b=some o:=λb o e=>hk' b o (Ar e) e;have so:=lD.of S;have nd:(zs.map (·.1)).Nodup:=by obtain⟨_,_,_,_,S,_⟩:=S;exact S.nd
  refine⟨.ref s.heap.objs.size,_,I.laid (t':=tk) (o:=.ext (lD X.prog X.w s.heap.objs.size zs)) kp (Am _) ⟨so,?_,λh1 h2 p k=>lD.stay h1 h2 p k⟩,rfl,q _ zs (I.hok.fresh (Am _)) nd (λx hx=>?_) (λx hx=>?_) ?_⟩
  ·obtain⟨o,_,_,_,e,_⟩:=so;exact⟨o,e⟩
  ·obtain⟨j,hj,e⟩:=M.from' x hx;rw[Ak,hlen]at hj;rw[e];exact at_ j hj
  ·obtain⟨j,hj,e⟩:=Ia hx;obtain⟨z,hz,ez⟩:=M.all j (by rw[Ak,hlen];exact hj);refine⟨z,hz,?_⟩;rw[ez, <-e];simp[Kv,hj]
  ·have:=M.len;rw[Ak,hlen]at this;exact this
def aEc(hu:X.A.units+40<cLine)(hc:X.calm=true):eE X (.builtin "sorted") (aPf X.prog X.w):=by
 intro pins s σ H xs us Q I r h;obtain⟨p,ps,rfl,hp,hk,h64,q⟩:=h;obtain⟨u,rfl,ru⟩:=vals1 r;cases ru;obtain⟨so,_,_⟩:=(show cF X.prog X.w H s.heap p (.ext (lD X.prog X.w p ps))from I.hok p _ hp);refine aH8 (aJu λk v hv=>by obtain⟨t,rfl⟩:=Dk hv;exact⟨_,_,rfl⟩) ∅ (I.ok.hd hc) (so.is λx hx=>pF I.hok (hk x hx)) (λ_ _=>trivial) h64 λh' tk l e ys py hy hl hg kp=>?_;refine⟨.ref l,_,I.laid (t':=tk) (o:=.lst (ys.map λx=>V.ref x.2)) kp hl ⟨?_,_,e,uC,hg⟩,rfl,q l ys (I.hok.fresh hl) py hy⟩;rw[Ab,py.length_eq,Cp]
 lia
def aB6(w:World)(a:Addr)(x:Nat)(b:Bool)(h:Heap):Prop:=∃o ep tk,h.get? a=some o/\o.ExactSet/\o.data=.set (kE (zs1 x b) tk) ep (aBv (!w.params.followText "set-order") (zs1 x b))
def xU(l:List Nat):List V:=l.map λk:Nat=> .int (k:Int)
inductive aQh(w:World)(K:Ac)(xs:List V)(H:Hp)(Q:VK):Prop
 |mk (p:Addr) (ns:List Nat) (x:Nat) (q0_:xs=[.ref p]) (q1_:SqL K H p (xU ns)) (q2_:(∀n∈ns,n=x)) (q3_:x∈[1,2,3]) (q4_:∀l:Addr,H l=none->Q (.ref l) (upd H l (.ext (aB6 w l x (decide (0<ns.length)))))):aQh w K xs H Q
def aZr(w:World)(K:Ac):List V->Hp->VK->Prop:=λxs H Q=>aQh w K xs H Q
inductive aCf(w:World)(xs:List V)(H:Hp)(Q:VK):Prop
 |mk (p:Addr) (x:Nat) (b:Bool) (q0_:xs=[.ref p]) (q1_:H p=some (.ext (aB6 w p x b))) (q2_:x∈[1,2,3]) (q3_:∀l,H l=none->Q (.ref l) (upd H l (.lst (xU (zs1 x b))))):aCf w xs H Q
def aNw(w:World):List V->Hp->VK->Prop:=λxs H Q=>aCf w xs H Q
theorem aFm{x:Nat}:∀{ns:List Nat}{us:List Value},(∀n∈ns,n=x)->Vals (xU ns) us->∀(i:Nat)(v:Value),us[i]? =some v->∃t,v=.int x t
 | [],_,_,.nil,i,v,h=>by simp at h
 |n::ns,u::us,hn,.cons r t,0,v,h=>by
  obtain⟨tk,e⟩:=r;have:u=v:=by simpa using h
  exact⟨tk,by rw[<-this,e, <-hn n Af]⟩
 |n::ns,u::us,hn,.cons r t,i+1,v,h=>aFm (λm hm=>hn m (Ae _ hm)) t i v (by simpa using h)
def aK9(hc:X.calm=true):eE X (.type "set") (aZr X.w X.K):=by
 intro pins s σ H xs us Q I r h;obtain⟨p,ns,x,rfl,hq,hn,h3,q⟩:=h;obtain⟨u,rfl,ru⟩:=vals1 r;cases ru;obtain⟨its,rv,pl,hz⟩:=I.list hq;have hlen:its.length=ns.length:=by rw[<-Vals.length rv];unfold xU;rw[Ab]
 refine aA9 (items:=its.toArray) (I.ok.hd hc) pl.isList (λi v hv=>aFm hn rv i v (by simpa using hv)) h3 λh' tk S kp'=>?_;have kp:∀b o,s.heap.get? b=some o->h'.get? b=some o:=λb o e=>kp' b o (Ar e) e;rw[show its.toArray.size=ns.length by rw[Ak,hlen]]at S;have so:aB6 X.w s.heap.objs.size x (decide (0<ns.length)) h':=S;refine⟨.ref s.heap.objs.size,_,I.laid (t':=tk) (o:=.ext (aB6 X.w s.heap.objs.size _ _)) kp (Am _) ⟨so,?_,λh1 h2 p k=>?_⟩,rfl,q _ (I.hok.fresh (Am _))⟩
 ·obtain⟨o,_,_,e,_⟩:=so;exact⟨o,e⟩
 ·obtain⟨o,ep,tk,e,c⟩:=p;exact⟨o,ep,tk,k _ e,c⟩
def aDy(hc:X.calm=true):eE X (.builtin "sorted") (aNw X.w):=by
 intro pins s σ H xs us Q I r h;obtain⟨p,x,b,rfl,hp,hx,q⟩:=h;obtain⟨u,rfl,ru⟩:=vals1 r;cases ru;obtain⟨so,_,_⟩:=(show cF X.prog X.w H s.heap p (.ext (aB6 X.w p x b))from I.hok p _ hp);obtain⟨o,ep,tk,ho,hex,hd⟩:=so;have l3:(zs1 x b).length<=1:=by cases b<;>simp[zs1]
 refine Ih Sy Rt Ru (Rx _) ?_;unfold Builtin.«sorted»;refine Aa (m:=checkCount "sorted" 1 1 _) (Ad ?_);have rise:SetTable.uF (aBv (!X.w.params.followText "set-order") (zs1 x b)).place:=by
  intro i j h1 h2;have:j<1:=Bg h2 (by show(zs1 x b).toArray.size<=1;rw[Ak];exact l3)
  lia
 refine Aa (mO (by simpa using I.ok.hd hc) ho hex hd (aPl hx) rise rfl rfl (by have:=aUh (x:=x) b tk;rw[Cp];lia) λh' tk' s1 hk=>?_);have ey:gU X.w p (kE (zs1 x b) tk) ep=(zs1 x b).map λz:Nat=>Cv (z:Int) (tk z):=by
  have:=jX X.w p (kE (zs1 x b) tk) ep;cases b
  ·exact this.eq_nil
  ·exact List.perm_singleton.mp this
 rw[ey];have hi:IntsAre ((zs1 x b).map λz:Nat=>Cv (z:Int) (tk z)) ((zs1 x b).map λz:Nat=>(z:Int)):=by
  cases b
  ·exact .nil
  ·exact .cons _ _ .nil
 generalize ((zs1 x b).map λz:Nat=>Cv (z:Int) (tk z))=vs at hi;have hal:vs.length=(zs1 x b).length:=by rw[hi.length,Ab]
 refine Aa (Md ?_ (by rw[Cp];lia));have hoL:(h'.push (seqObj "list" vs.toArray 0)).get? h'.objs.size=some (seqObj "list" vs.toArray 0):=Ap _ rfl;refine Aa (Bp (Ca slot_list_sort ⟨_,hoL,rfl⟩ entry_list_sort (list_sort_tree hoL hi ∅ λout ms a1 a2 a3=>⟨_,rfl,?_⟩) (Pq _)));refine Ad ⟨_,rfl,?_⟩;obtain⟨e,he⟩:=Qm (vs:=vs) (out:=out) hoL;have hsz:h'.objs.size<(h'.push (seqObj "list" vs.toArray 0)).objs.size:=by rw[Dp];exact El _
 have keep:∀b o,s.heap.get? b=some o->(sortedHeap (h'.push (seqObj "list" vs.toArray 0)) h'.objs.size vs out).get? b=some o:=λb o eb=>by
  have e1:=hk b o eb;have hlt:=Ar e1;rw[Pn (Az hlt) (Lx hlt hsz)];exact Ai _ e1
 have hge:s.heap.objs.size<=h'.objs.size:=En s1;have es:ms=(zs1 x b).map λz:Nat=>(z:Int):=by
  cases b
  ·exact a2.eq_nil
  ·exact List.perm_singleton.mp a2
 have en:ms.map V.int=xU (zs1 x b):=by rw[es,Bh];rfl
 refine⟨.ref h'.objs.size,_,I.laid (t':=tk') (o:=.lst (ms.map V.int)) keep hge ⟨?_,out.toList,e,aAc a1,by simpa using he⟩,rfl,by rw[en];exact q _ (I.hok.fresh hge)⟩;rw[Ab,a2.length_eq,Ab,Cp]
 lia
structure Dis(P:Program)(w:World)(K:Ac)(mg:Str->Option Value)(base:Heap)(CX:CXT)(k:Nat)(Cs:Addr->Prop)(m:Str)(ps:List Str)(sp:Addr->Sp):Prop where
 ex:∀C,Cs C->Cls K C/\∃f fd,Meth K C m f/\bC P w K mg base CX k f fd ps (sp C)/\Binds K fd ps []
def aRb(Cs:Addr->Prop)(m:Str)(sp:Addr->Sp)(E:XK)(ta:TE)(t:TA):TE:=λσ H Q=>ta σ H λx H1=>∃a C dx fs,x=.ref a/\H1 a=some (.ins C dx fs)/\Cs C/\fs.lookup m=none/\t σ H1 λvs H2=>sp C (.ref a::vs) H2 Q E
section
variable {X:Cx}{CX:CXT}{k:Nat}{Cs:Addr->Prop}{m:Str}{ps:List Str}{sp:Addr->Sp}{E:XK}{o e:Expr}{es:List Expr}{ta:TE}{t:TA}{apos pos:Pos}
def cL{pl:Sem Bool}(he:PE X o ta)(D:Dis X.prog X.w X.K X.mg X.base CX k Cs m ps sp)(hr:dG k X.A)(hx:pL CX X E)(ha:PA X (e::es) t)
  (hst:SE X e es:=by rfl) (hpl:BT X pos es:=by rfl)
  (ht:eval (.Call (.Attribute o m apos) (e::es) [] pos) X.env=(do
   let ov<-eval o X.env
   standAt apos.atName
   let(f,first)<-holding [ov] (getMethod ov m pl)
   callWith pos f first (backTo pos (starEach (e::es) X.env)) (backToKw pos (keywordEach [] X.env))):=by rfl):
  PE X (.Call (.Attribute o m apos) (e::es) [] pos) (aRb Cs m sp E ta t):=by
 intro pins s σ H Q I h;refine Oe (pl:=pl) (thn (he pins s σ H _ I h) λu s1 ⟨x,H1,I1,rx,a,C,dx,fs,ex,ea,hC,l,q⟩=>?_) ht;subst ex;obtain rfl:u=An a:=rx;obtain⟨c,f,fd,hm,F,hb⟩:=D.ex C hC;refine aA2 I1 ea c hm l ?_;refine Kc (first:=[.ref a]) (h₀:=X.base) I.ok.mod.kin hm.kp (thn (ha pos pins s1 σ H1 _ I1 q) λus s2 ⟨vs,H2,I2,r,q2⟩=>⟨I2.kIn,?_⟩) hst hpl;exact aHu (us:=.ref a::us) (vs:=.ref a::vs) F hr hb .nil hx I2 (.cons rfl r) (by rw[Bf];exact q2)
def bI{pl:Sem Bool}(he:PE X o ta)(D:Dis X.prog X.w X.K X.mg X.base CX k Cs m ps sp)(hr:dG k X.A)(hx:pL CX X E)
  (ht:eval (.Call (.Attribute o m apos) [] [] pos) X.env=(do
   let ov<-eval o X.env
   standAt apos.atName
   let(f,first)<-holding [ov] (getMethod ov m pl)
   callWith pos f first (backTo pos (starEach [] X.env)) (backToKw pos (keywordEach [] X.env))):=by rfl):
  PE X (.Call (.Attribute o m apos) [] [] pos) (aRb Cs m sp E ta aS2):=by
 intro pins s σ H Q I h;refine Oe (pl:=pl) (thn (he pins s σ H _ I h) λu s1 ⟨x,H1,I1,rx,a,C,dx,fs,ex,ea,hC,l,q⟩=>?_) ht;subst ex;obtain rfl:u=An a:=rx;obtain⟨c,f,fd,hm,F,hb⟩:=D.ex C hC;refine aA2 I1 ea c hm l ?_;exact PySem.W.callWith_K0 (first:=[.ref a]) I1.kIn hm.kp (aHu (us:=[.ref a]) (vs:=[.ref a]) F hr hb .nil hx I1 (.cons rfl .nil) q)
end
variable {o e:Expr}{apos cpos:Pos}{td ty:TE}
def aNp:eE X (.builtin "any") (λxs H Q=>∃(p:Addr)(bs:List Bool),xs=[.ref p]/\SqL X.K H p (bs.map V.bl)/\X.calm=true/\Q (.bl (bs.any id)) H):=by
 intro pins s σ H xs us Q I r h;obtain⟨p,bs,rfl,hq,hc,q⟩:=h;obtain⟨u,rfl,ru⟩:=vals1 r;cases ru;obtain⟨its,rv,pl,hz⟩:=I.list hq;have hl:=rv.length;rw[Ab]at hl;refine call_any_walk (Jm pl.isList ?_);have hlt:p<s.heap.objs.size:=by obtain⟨o,e,_⟩:=pl.isList;exact Ar e
 have hne:p≠s.heap.objs.size:=Az hlt;have hd:X.A.in1.handled=none:=I.ok.hd hc;refine⟨s.heap.objs.size,_,_,_,_,_,λi=>bs.getD i false,rfl,Nn hd s.heap.objs.size p hne its.toArray,⟨⟨_,Ap _ rfl,rfl,rfl⟩,pl.isList.push _⟩,λi v s' Q' E' hv hQ=>?_,λh' tk hk=>?_⟩
 ·have hv':its[i]? =some v:=by simpa using hv
  have hi:i<its.length:=(List.getElem?_eq_some_iff.mp hv').1;have hi':i<bs.length:=by lia
  have e1:(bs.map V.bl)[i]? =some (V.bl bs[i]):=by simp[hi']
  obtain⟨u,hu,ru⟩:=rv.get e1;rw[hv']at hu;cases hu;have ru':v=Gj bs[i]:=ru;subst ru';have e2:bs.getD i false=bs[i]:=by simp[hi']
  have hQ':Q' (bs.getD i false) s':=hQ;rw[e2]at hQ';exact Ck hQ'
 ·refine⟨.bl (bs.any id),H,?_,?_,q⟩
  ·exact I.kept (t':=tk) λb o e=>hk b o (by simp;exact Az (Ar e)) (Ai _ e)
  ·show Gj _=Gj _;congr 1;have e:its.toArray.size=bs.length:=by rw[Ak];lia
   rw[e];have:∀l:List Bool,(Br l.length).any (λi=>l.getD i false)=l.any id:=by
    intro l;induction l with
    |nil=>rfl
    |cons b l ih=>
     rw[Ah,Pb,Do,Do,List.any_map, <-ih];congr 1
   exact this bs
def tx(l:List Nat):Str:=⟨l.toArray⟩
def nO(l:List Nat):(tx l).cps.toList=l:=List.toList_toArray
def gM(l:List Nat):(tx l).length=l.length:=by show l.toArray.size=_;rw[Ak]
def jM{l m:List Nat}(h:tx l=tx m):l=m:=by rw[<-nO l,h,nO]
def aGd(z:Str):z=tx z.cps.toList:=by cases z;unfold tx;rw[Array.toArray_toList]
def gQ(l m:List Nat):tx l++tx m=tx (l++m):=by
 rw[aGd (tx l++tx m)];congr 1;show((tx l).cps++(tx m).cps).toList=_;rw[Array.toList_append,nO,nO]
inductive aU5(x:V)(lo:Option Int)(hi:Option Int)(H:Hp)(Q:VK):Prop
 |mk (z:List Nat) (a b:Nat) (q0_:x=.str (tx z)) (q1_:lo=some (a:Int)) (q2_:hi=some (b:Int)) (q3_:a<=b) (q4_:z.length<=sizeLine) (q5_:Q (.str (tx ((z.drop a).take (b-a)))) H):aU5 x lo hi H Q
def bBn:V->Option Int->Option Int->Hp->VK->Prop:=λx lo hi H Q=>aU5 x lo hi H Q
def Its(z:List Nat):It:=⟨λi _=>i<z.length,λi H x H'=>H'=H/\∃c,z[i]? =some c/\x=.str (tx [c]),λi _=>z.length<=i⟩
def aMu{w:World}{K:Ac}{tg:Expr}(it:Addr)(z:List Nat)(t:Tok):Turn P w K tg (Its z) [it] it (λi h=>h.IsStrIter it "str_ascii_iterator" (tx z) t i) where
 mem:=by simp
 obj:=λi h st b hb=>by
  have e:b=it:=by simpa using hb
  subst e;obtain⟨o,e,c,d⟩:=st;exact⟨o,e,λv z=>by rw[d]at z;cases z⟩
 keep:=λi h h' st k=>let⟨o,ho,r⟩:=st;⟨o,k it (by simp) o ho,r⟩
 item:=by
  intro X hP hw hK hc i pins s σ H E I hf st hg;subst hP hw hK;obtain⟨f0,f1,f2,f3,f4,f5⟩:=hf it (by simp);have hx:(tx z).cps[i]? =some (z[i]'hg):=by
   show z.toArray[i]? =_;rw[Jq,Aj hg]
  refine wpAny_pyNext_ascii_item st hx λh' st' sb=>?_;have I1:Inv X pins σ H {s with heap:=h',toks:=s.toks+1}:=I.turned (λb o hb e=>(sb.2 b hb).trans e) f0 f1 f3 f4 f5;obtain⟨o,e,c,d⟩:=id st';exact⟨_,rfl,aJ3 (s:={s with heap:=h',toks:=s.toks+1}) e c d ⋯ ⟨.str (tx [z[i]'hg]),H,I1,⟨_,rfl⟩,⟨rfl,_,Aj hg,rfl⟩,st',λb hb=>(hf b hb).1⟩⟩
 done:=by
  intro X hP hw hK hc i pins s σ H E I hf st hg;subst hP hw hK;obtain⟨f0,f1,f2,f3,f4,f5⟩:=hf it (by simp);have hx:(tx z).cps[i]? =none:=by
   show z.toArray[i]? =_;rw[Jq,Co hg]
  exact wpAny_pyNext_ascii_end (I.ok.hd hc) st hx λh' eb=>⟨rfl,I.turned (t':=s.toks) (λb o hb e=>eb b o hb e) f0 f1 f3 f4 f5⟩
 self:=λ_ _ _ _ _ st h=>wpAny_pyIter_striter_ascii st h
variable {tg:Expr}
def bCe(te:TE):TI:=λσ H R=>te σ H λx H1=>∃z:List Nat,x=.str (tx z)/\(∀c∈z,c<128)/\R (Its z) H1
def aYh{l:Expr}{tl:TE}(hl:PE X l tl):PI X tg l (bCe tl):=by
 intro pins s σ H R I h;refine thn (hl pins s σ H _ I h) λv s1 ⟨x,H1,I1,r1,q1⟩=>?_;obtain⟨z,rfl,ha,q⟩:=q1;obtain⟨t,rfl⟩:=r1;refine wpAny_pyIter_ascii (by
  show z.toArray.all (·<128)=true;rw[List.all_toArray,List.all_eq_true];exactλc hc=>decide_eq_true (ha c hc)) ?_
 refine⟨s1.heap.objs.size,[s1.heap.objs.size],_,_,H1,rfl,I1.kept (t':=s1.toks) λb o e=>Ai _ e,aMu _ z t,⟨_,Ap _ rfl,rfl,rfl⟩,λb hb=>?_,q⟩;have e:b=s1.heap.objs.size:=by simpa using hb
 subst e;exact I1.fpOk (Am _) (I1.hok.fresh (Am _))
def aR6{z:List Nat}{tb:TS}{D:Ends}{σ:St}{H:Hp}(Pv:Nat->St->Hp->Prop)(h0:Pv 0 σ H)
  (hs:∀i c σ H,z[i]? =some c->Pv i σ H->g (.str (tx [c])) σ H λσ2 H2=>tb {D with nx:=Pv (i+1),ct:=Pv (i+1),bk:=D.nx} σ2 H2) (hd:∀σ H,Pv z.length σ H->D.nx σ H):
  ∃W:Nat->Nat->St->Hp->Prop,(∃m,W 0 m σ H)/\∀i m σ H,W i m σ H->
   ((Its z).stop i H/\D.nx σ H)∨((Its z).go i H/\∃N:St->Hp->Prop,(∀σ' H',N σ' H'->∃m',m'<m/\W (i+1) m' σ' H')/\∀x H',(Its z).yld i H x H'->g x σ H' λσ2 H2=>tb {D with nx:=N,ct:=N,bk:=D.nx} σ2 H2):=by
 refine⟨λi m σ H=>m=z.length-i/\i<=z.length/\Pv i σ H,⟨z.length,by simp,Ay _,h0⟩,?_⟩;rintro i m σ H ⟨rfl,hi,p⟩;by_cases hlt:i<z.length
 ·refine .inr ⟨hlt,Pv (i+1),λσ' H' p'=>⟨z.length-(i+1),∅,rfl,hlt,p'⟩,λx H' y=>?_⟩;obtain⟨e,c,hc,ex⟩:=y;subst e ex;exact hs i c σ _ hc p
 ·have e:i=z.length:=by lia
  subst e;exact .inl ⟨Am _,hd σ H p⟩
def glu(sep:List Nat):List (List Nat)->List Nat
 | []=>[]
 | [x]=>x
 |x::y::r=>x++(sep++glu sep (y::r))
theorem aE8(sep:List Nat):∀ls:List (List Nat),Str.join (tx sep) (ls.map tx)=tx (glu sep ls)
 | []=>rfl
 | [x]=>rfl
 |x::y::r=>by
  show tx x++tx sep++Str.join (tx sep) ((y::r).map tx)=_;rw[aE8 sep (y::r),gQ,gQ,glu,Bi]
theorem aGg(n:Nat):∀(ls:List (List Nat))(a:Nat),(ls.map tx).foldl (λacc s=>acc+s.length+n) a=a+((ls.map Bj).sum+ls.length*n)
 | [],a=>by simp
 |x::r,a=>by
  rw[Au,Ed,aGg n r,gM,Au,Fy,Ah,Wm]
  lia
theorem aC0:∀{ls:List (List Nat)}{us:List Value},Vals (ls.map λl=>V.str (tx l)) us->∃l:List (Str×Tok),strValues l=us/\l.map (·.1)=ls.map tx
 | [],_,.nil=>⟨[],rfl,rfl⟩
 |x::ls,_,.cons r1 t=>by
  obtain⟨l,e1,e2⟩:=aC0 t;obtain⟨tk,rfl⟩:=r1;exact⟨(tx x,tk)::l,by rw[<-e1];rfl,by rw[Au,e2];rfl⟩
inductive aQj(x:V)(xs:List V)(H:Hp)(Q:VK):Prop
 |mk (sep:List Nat) (p:Addr) (ls:List (List Nat)) (q0_:x=.str (tx sep)) (q1_:xs=[.ref p]) (q2_:H p=some (.lst (ls.map λl=>V.str (tx l)))) (q3_:(ls.map Bj).sum+ls.length*sep.length<=100000) (q4_:Q (.str (tx (glu sep ls))) H):aQj x xs H Q
def rJoin:V->List V->Hp->VK->Prop:=λx xs H Q=>aQj x xs H Q
def aSj:MtR X "str.join" rJoin:=by
 intro pins s σ H x xs v us Q I rx rv h;obtain⟨sep,p,ls,rfl,rfl,hp,hz,q⟩:=h;obtain⟨t,rfl⟩:=rx;obtain⟨u,rfl,ru⟩:=vals1 rv;cases ru;obtain⟨its,r,pl,_⟩:=I.list (SqL.of hp);obtain⟨l,e1,e2⟩:=aC0 r;have ok:JoinOk (tx sep) (ls.map tx)=true:=by
  have:Nm ((ls.map tx).toArray.foldl (λacc s=>acc+s.length+(tx sep).length) 0)=false:=by
   rw[List.foldl_toArray,aGg,gM];unfold Nm;rw[decide_eq_false_iff_not,Cp]
   lia
  unfold JoinOk;rw[this];rfl
 refine SC.join (l:=l) (texts:=ls.map tx) (by rw[e1];exact pl.isList) e2 ok λt' k=>⟨.str (tx (glu sep ls)),H,I.tok k,⟨t',?_⟩,q⟩;show Kn (Xm (tx sep) (ls.map tx)) t'=_;rw[StrLaws.glued_eq_join,aE8]
inductive aE7(x:V)(xs:List V)(H:Hp)(Q:VK):Prop
 |mk (z y:List Nat) (q0_:x=.str (tx z)) (q1_:xs=[.str (tx y)]) (q2_:Q (.bl (decide (z.take y.length=y))) H):aE7 x xs H Q
def aSm:V->List V->Hp->VK->Prop:=λx xs H Q=>aE7 x xs H Q
def aL4:MtR X "str.startswith" aSm:=by
 intro pins s σ H x xs v us Q I rx rv h;obtain⟨z,y,rfl,rfl,q⟩:=h;obtain⟨t,rfl⟩:=rx;obtain⟨u,rfl,tk,rfl⟩:=vals1 rv;have e:Tx (tx z) (tx y)=decide (z.take y.length=y):=by
  unfold Tx;rw[StrLaws.subAt_eq,gM,gM,nO,nO,Hh,Ex,Ek,decide_eq_true_iff,beq_iff_eq,decide_eq_true_iff];constructor
  ·exactλh=>h.2
  ·intro h;refine⟨?_,h⟩;have:=congrArg Bj h;rw[Bu]at this
   lia
 refine SC.startswith ⟨.bl _,H,I,rfl,?_⟩;rw[e];exact q
inductive aQ8(xs:List V)(H:Hp)(Q:VK):Prop
 |mk (z:List Nat) (q0_:xs=[.str (tx z)]) (q1_:z≠[]) (q2_:Py z) (q3_:z.length<=640) (q4_:Q (.int ((Kt z:Nat):Int)) H):aQ8 xs H Q
def bAt:List V->Hp->VK->Prop:=λxs H Q=>aQ8 xs H Q
def aLi:eE X (.type "int") bAt:=by
 intro pins s σ H xs us Q I r h;obtain⟨z,rfl,h1,h2,h3,q⟩:=h;obtain⟨u,rfl,tk,rfl⟩:=vals1 r;have e:intText? (tx z)=some ((Kt z:Nat):Int):=by
  have:=intText_digits (x:=tx z) (by rw[nO];exact h2) (by rw[nO];exact h1) (by rw[gM];lia);rw[nO]at this;exact this
 exact W.KIN.call_text e (by rw[gM];exact h3) ⟨.int _,H,I.tok _,⟨_,rfl⟩,q⟩
def itx(i:Int):List Nat:=(As (toString i)).cps.toList
def aV9(i:Int):As (toString i)=tx (itx i):=aGd _
inductive aPg(xs:List V)(H:Hp)(Q:VK):Prop
 |mk (i:Int) (q0_:xs=[.int i]) (q1_:i.natAbs.log2<1920) (q2_:Q (.str (tx (itx i))) H):aPg xs H Q
def aVc:List V->Hp->VK->Prop:=λxs H Q=>aPg xs H Q
def sX:eE X (.type "str") aVc:=by
 intro pins s σ H xs us Q I r h;obtain⟨i,rfl,hi,q⟩:=h;exact aDk pins s σ H _ us Q I r ⟨i,rfl,hi,by show Q (.str (As (toString i))) H;rw[aV9];exact q⟩
def aT9:R2:=λx y H Q=>∃i j,x=.str i/\y=.str j/\i.length+j.length<=sizeLine/\Q (.str (i++j)) H
def aRp{X:Cx}:OpR X (binaryOp .Add) aT9:=aAi
def cR(v:Option Int)(d n:Nat):Nat:=match v with
 |none=>d
 |some i=>(max 0 (min (if i<0 then i+(n:Int)else i) (n:Int))).toNat
def zP{v:Option Int}{d n:Nat}(h:d<=n):cR v d n<=n:=by
 unfold cR;cases v with
 |none=>exact h
 |some i=>dsimp only;split<;>lia
def aGz(v:Option Int)(d n:Nat):((cR v d n:Nat):Int)=match v with|none=>(d:Int)|some i=>max 0 (min (if i<0 then i+(n:Int)else i) (n:Int)):=by
 cases v with
 |none=>rfl
 |some i=>show((max 0 (min (if i<0 then i+(n:Int)else i) (n:Int))).toNat:Int)=_;dsimp only;split<;>lia
def aAz{a b:Int}(h:b<=a):sliceRange a b 1=[]:=by
 unfold sliceRange;rw[if_pos ⋯];simp[show¬a<b by lia]
def aTl(lo hi:Option Int)(n:Nat):Cj lo hi 1 n=Cj (some ((cR lo 0 n:Nat):Int)) (some ((max (cR lo 0 n) (cR hi n n):Nat):Int)) 1 n:=by
 have l1:cR lo 0 n<=n:=zP (Ay _);have l2:cR hi n n<=n:=zP (Am _);have h0:Cj lo hi 1 n=sliceRange ((cR lo 0 n:Nat):Int) ((cR hi n n:Nat):Int) 1:=by
  rw[aGz,aGz];rfl
 have h1:Cj (some ((cR lo 0 n:Nat):Int)) (some ((max (cR lo 0 n) (cR hi n n):Nat):Int)) 1 n=sliceRange ((cR lo 0 n:Nat):Int) ((max (cR lo 0 n) (cR hi n n):Nat):Int) 1:=by
  have e1:max (0:Int) (min ((cR lo 0 n:Nat):Int) (n:Int))=((cR lo 0 n:Nat):Int):=by lia
  have e2:max (0:Int) (min ((max (cR lo 0 n) (cR hi n n):Nat):Int) (n:Int))=((max (cR lo 0 n) (cR hi n n):Nat):Int):=by lia
  simp only[Cj,show¬(((cR lo 0 n:Nat):Int)<0) by lia,show¬(((max (cR lo 0 n) (cR hi n n):Nat):Int)<0) by lia,if_false,e1,e2,show((1:Int)>0)=True from by simp,if_true]
 rw[h0,h1];rcases Nat.le_total (cR lo 0 n) (cR hi n n)with g|g
 ·rw[Nat.max_eq_right g]
 ·rw[Nat.max_eq_left g,aAz ∅,aAz ∅]
inductive aU7(x:V)(lo:Option Int)(hi:Option Int)(H:Hp)(Q:VK):Prop
 |mk (z:List Nat) (q0_:x=.str (tx z)) (q1_:z.length<=sizeLine) (q2_:Q (.str (tx ((z.drop (cR lo 0 z.length)).take (cR hi z.length z.length-cR lo 0 z.length)))) H):aU7 x lo hi H Q
def bCq:V->Option Int->Option Int->Hp->VK->Prop:=λx lo hi H Q=>aU7 x lo hi H Q
def yV{pins:List (Addr×Obj)}{s:Shared}{σ:St}{H:Hp}{z:List Nat}{t:Tok}{l u:Option (Int×Tok)}{sl:Addr}(I:Inv X pins σ H s)(hs:s.heap.IsSlice sl l u none)(hz:z.length<=sizeLine)
  (q:Q (.str (tx ((z.drop (cR (l.map (·.1)) 0 z.length)).take (cR (u.map (·.1)) z.length z.length-cR (l.map (·.1)) 0 z.length)))) H):wpAny (model X.prog X.w) X.A (getItem (.str (tx z) t) (.ref sl)) (EP X pins σ Q) X.xe s:=by
 refine wpAny_getItem_str_slice hs rfl ?_;have hl:=gM z;generalize ea:cR (l.map (·.1)) 0 z.length=a at q;generalize eb:cR (u.map (·.1)) z.length z.length=b at q;have la:a<=z.length:=by rw[<-ea];exact zP (Ay _)
 have lb:b<=z.length:=by rw[<-eb];exact zP (Am _)
 have pk0:slicePicked (tx z) l u none=Cj (some (a:Int)) (some ((max a b:Nat):Int)) 1 z.length:=by
  show Cj _ _ 1 (tx z).length=_;rw[hl,aTl,ea,eb]
 have pk:(slicePicked (tx z) l u none).filterMap ((tx z).cps[·]?)=(z.drop a).take (b-a):=by
  have h:=StrLaws.sliced_plain (tx z) (a:=a) (b:=max a b) ∅ ∅;rw[hl,nO,show max a b-a=b-a by lia]at h;rw[pk0];exact h
 unfold sliceMade;split
 ·rename_i hw;simp only[Option.map_none,Lb,beq_self_eq_true,Oo,beq_iff_eq]at hw;rw[pk0,StrLaws.strSliceIndices_plain ∅ ∅,Ab,Da,hl]at hw;have e:(z.drop a).take (b-a)=z:=by
   rcases Fh z.length with g|g
   ·rw[List.length_eq_zero_iff.mp g];simp
   ·have:a=0:=by lia
    subst this;rw[Hh];exact Gw ∅
  rw[e]at q;exact⟨.str (tx z),H,I,⟨t,rfl⟩,q⟩
 ·rw[pk];exact⟨by show(tx ((z.drop a).take (b-a))).length<=sizeLine;rw[gM,Bu,Ej];lia,.str (tx ((z.drop a).take (b-a))),H,I.tok _,⟨_,rfl⟩,q⟩
def aWs:SlR X bCq:=by
 intro pins s σ H x v vl vu lo hi sl Q I rx hs pl pu h;obtain⟨z,rfl,hz,q⟩:=h;obtain⟨t,rfl⟩:=rx;refine⟨"str",_,F.slot_str_getitem.lookup,Up _ _ _,?_⟩;cases pl with
 |int i ti=>
  cases pu with
  |int j tj=>exact yV (l:=some (i,ti)) (u:=some (j,tj)) I hs hz q
  |none=>exact yV (l:=some (i,ti)) (u:=none) I hs hz q
 |none=>
  cases pu with
  |int j tj=>exact yV (l:=none) (u:=some (j,tj)) I hs hz q
  |none=>exact yV (l:=none) (u:=none) I hs hz q
def aGx(k d n:Nat):cR (some (k:Int)) d n=min k n:=by
 unfold cR;dsimp only;rw[if_neg ∅]
 lia
def aPt:SlR X bBn:=λpins s σ H x v vl vu lo hi sl Q I rx hs pl pu h=>aWs pins s σ H x v vl vu lo hi sl Q I rx hs pl pu (by
 obtain⟨z,a,b,rfl,rfl,rfl,hab,hz,q⟩:=h;refine⟨z,rfl,hz,?_⟩;rw[aGx,aGx];have e:(z.drop (min a z.length)).take (min b z.length-min a z.length)=(z.drop a).take (b-a):=by
  rcases Gm a z.length with g|g
  ·rw[Te (En g)];rcases Gm b z.length with g2|g2
   ·rw[Te (En g2)]
   ·rw[So g2,Gw (by rw[Ej];lia),Gw (by rw[Ej];lia)]
  ·rw[So g,Gx (Am _),Gx g,Ud,Ud]
 rw[e];exact q)
structure Opq where
 φ:(Addr->Prop)->(Addr->Prop)->Hp->V->Prop
 mono:∀{W B B' H H'}{v:V},(∀b o,¬B b->H b=some o->¬B' b/\H' b=some o)->φ W B H v->φ W B' H' v
 wm:∀{W W' B H}{v:V},(∀p,W p->W' p)->φ W B H v->φ W' B H v
inductive U where
 |v (x:V)
 |tp (l:List U)
 |ls (l:List U)
 |ob (C:Addr) (ns:List Str) (us:List U)
 |dk (ns:List Str) (us:List U)
 |op (o:Opq)
 |wl
abbrev U.n(i:Int):U:=.v (.int i)
abbrev U.b(c:Bool):U:=.v (.bl c)
abbrev U.s(x:Str):U:=.v (.str x)
abbrev U.no:U:=.v .non
def Wll(H:Hp)(a:Addr):Prop:=∃x y z:Int,H a=some (.lst [.int x,.int y,.int z])
section
variable (W B:Addr->Prop)(H:Hp)
mutual
def DU:U->V->Prop
 |.v x,y=>y=x/\jK x=true
 |.tp l,y=>∃p xs,y=.ref p/\¬B p/\H p=some (.tup xs)/\DUs l xs
 |.ls l,y=>∃p xs,y=.ref p/\¬B p/\H p=some (.lst xs)/\DUs l xs
 |.ob C ns us,y=>∃p dx xs,y=.ref p/\¬B p/\H p=some (.ins C dx (ns.zip xs))/\ns.length=xs.length/\DUs us xs
 |.dk ns us,y=>∃p xs,y=.ref p/\¬B p/\H p=some (.dK ((ns.map Cq).zip xs))/\ns.length=xs.length/\DUs us xs
 |.op o,y=>o.φ W B H y
 |.wl,y=>∃p,y=.ref p/\W p
def DUs:List U->List V->Prop
 | [],xs=>xs=[]
 |u::l,xs=>∃x r,xs=x::r/\DU u x/\DUs l r
end
end
section
variable {W B B':Addr->Prop}{H H':Hp}
mutual
theorem DU.mono(k:∀b o,¬B b->H b=some o->¬B' b/\H' b=some o):∀(u:U){v:V},DU W B H u v->DU W B' H' u v
 |.v _,_,h=>h
 |.tp l,_,⟨p,xs,e,nb,hp,t⟩=>⟨p,xs,e,(k _ _ nb hp).1,(k _ _ nb hp).2,DUs.mono k l t⟩
 |.ls l,_,⟨p,xs,e,nb,hp,t⟩=>⟨p,xs,e,(k _ _ nb hp).1,(k _ _ nb hp).2,DUs.mono k l t⟩
 |.ob _ _ us,_,⟨p,dx,xs,e,nb,hp,hl,t⟩=>⟨p,dx,xs,e,(k _ _ nb hp).1,(k _ _ nb hp).2,hl,DUs.mono k us t⟩
 |.dk _ us,_,⟨p,xs,e,nb,hp,hl,t⟩=>⟨p,xs,e,(k _ _ nb hp).1,(k _ _ nb hp).2,hl,DUs.mono k us t⟩
 |.op o,_,h=>o.mono k h
 |.wl,_,h=>h
theorem DUs.mono(k:∀b o,¬B b->H b=some o->¬B' b/\H' b=some o):∀(l:List U){xs:List V},DUs W B H l xs->DUs W B' H' l xs
 | [],_,h=>h
 |u::l,_,⟨x,r,e,h,t⟩=>⟨x,r,e,DU.mono k u h,DUs.mono k l t⟩
end
def DUs.length:∀{l:List U}{xs:List V},DUs W B H l xs->l.length=xs.length
 | [],_,h=>by rw[show _=[]from h];rfl
 |_::_,_,⟨_,_,e,_,t⟩=>by rw[e,Ah,Ah,DUs.length t]
def DUs.get:∀{l:List U}{xs:List V}{i:Nat}{u:U},DUs W B H l xs->l[i]? =some u->∃x,xs[i]? =some x/\DU W B H u x
 | [],_,_,_,_,e=>by simp at e
 |_::_,_,0,_,⟨x,_,e,h,_⟩,q=>by simp at q;subst q e;exact⟨x,rfl,h⟩
 |_::_,_,i+1,_,⟨_,_,e,_,t⟩,q=>by
  obtain⟨y,h1,h2⟩:=DUs.get (i:=i) t (by simpa using q);exact⟨y,by rw[e];simpa using h1,h2⟩
def DUs.getV{l:List U}{x:V}(h:DUs W B H l xs)(e:xs[i]? =some x):∃u,l[i]? =some u/\DU W B H u x:=by
 have hi:i<l.length:=by rw[h.length];exact(List.getElem?_eq_some_iff.mp e).1
 obtain⟨y,h1,h2⟩:=h.get (Aj hi);rw[e]at h1;cases h1;exact⟨_,Aj hi,h2⟩
def DUs.app:∀{l m:List U}{xs ys:List V},DUs W B H l xs->DUs W B H m ys->DUs W B H (l++m) (xs++ys)
 | [],_,_,_,h,t=>by rw[show _=[]from h];exact t
 |_::_,_,_,_,⟨x,r,e,h,t⟩,t'=>⟨x,_,by rw[e];rfl,h,DUs.app t t'⟩
def DUs.drop:∀{l:List U}{xs:List V}(i:Nat),DUs W B H l xs->DUs W B H (l.drop i) (xs.drop i)
 |_,_,0,h=>h
 | [],_,_+1,h=>by rw[show _=[]from h];rfl
 |_::_,_,i+1,⟨_,_,e,_,t⟩=>by rw[e];exact DUs.drop i t
def DUs.take:∀{l:List U}{xs:List V}(i:Nat),DUs W B H l xs->DUs W B H (l.take i) (xs.take i)
 |_,_,0,_=>rfl
 | [],_,_+1,h=>by rw[show _=[]from h];rfl
 |_::_,_,i+1,⟨x,_,e,h,t⟩=>by rw[e];exact⟨x,_,rfl,h,DUs.take i t⟩
def DUs.one{u:U}{x:V}(h:DU W B H u x):DUs W B H [u] [x]:=⟨x,[],rfl,h,rfl⟩
end
section
variable {W W' B:Addr->Prop}{H:Hp}
mutual
theorem DU.wm(k:∀p,W p->W' p):∀(u:U){v:V},DU W B H u v->DU W' B H u v
 |.v _,_,h=>h
 |.tp l,_,⟨p,xs,e,nb,hp,t⟩=>⟨p,xs,e,nb,hp,DUs.wm k l t⟩
 |.ls l,_,⟨p,xs,e,nb,hp,t⟩=>⟨p,xs,e,nb,hp,DUs.wm k l t⟩
 |.ob _ _ us,_,⟨p,dx,xs,e,nb,hp,hl,t⟩=>⟨p,dx,xs,e,nb,hp,hl,DUs.wm k us t⟩
 |.dk _ us,_,⟨p,xs,e,nb,hp,hl,t⟩=>⟨p,xs,e,nb,hp,hl,DUs.wm k us t⟩
 |.op o,_,h=>o.wm k h
 |.wl,_,⟨p,e,h⟩=>⟨p,e,k p h⟩
theorem DUs.wm(k:∀p,W p->W' p):∀(l:List U){xs:List V},DUs W B H l xs->DUs W' B H l xs
 | [],_,h=>h
 |u::l,_,⟨x,r,e,h,t⟩=>⟨x,r,e,DU.wm k u h,DUs.wm k l t⟩
end
end
structure Fw(W:Addr->Prop)(H H':Hp):Prop where
 fr:∀b o,¬W b->H b=some o->H' b=some o
 wo:∀p,W p->Wll H' p
def Fw.trans{W:Addr->Prop}{H H1 H2:Hp}(a:Fw W H H1)(b:Fw W H1 H2):Fw W H H2:=⟨λc o n h=>b.fr c o n (a.fr c o n h),b.wo⟩
def Mt:HO->Prop
 |.lst _=>True
 |.ext _=>True
 |.dK _=>True
 |_=>False
structure EB(W B:Addr->Prop)(H:Hp):Prop where
 bl:∀p,B p->∃o,H p=some o/\Mt o
 wb:∀p,W p->B p
 wo:∀p,W p->Wll H p
structure Own where
 φ:(Addr->Prop)->(Addr->Prop)->(Addr->Prop)->Hp->Addr->Prop
 mono:∀{W B B' S H H'}{p:Addr},(∀b o,¬B b->H b=some o->¬B' b/\H' b=some o)->(∀b,S b->H' b=H b)->φ W B S H p->φ W B' S H' p
 wm:∀{W W' B S H}{p:Addr},(∀p,W p->W' p)->φ W B S H p->φ W' B S H p
 th:∀{W B S H}{p:Addr},φ W B S H p->∀b,S b->∃o,H b=some o/\Mt o
 hd:∀{W B S H}{p:Addr},φ W B S H p->S p
def Own.fz(o:Own):Opq:=⟨λW B H v=>∃p S,v=.ref p/\(∀b,S b->¬B b)/\o.φ W B S H p,λk ⟨p,S,e,n,h⟩=>⟨p,S,e,λb hb=>let⟨x,q,_⟩:=o.th h b hb;(k b x (n b hb) q).1,o.mono k (λb hb=>let⟨x,q,_⟩:=o.th h b hb;(k b x (n b hb) q).2.trans q.symm) h⟩,λk ⟨p,S,e,n,h⟩=>⟨p,S,e,n,o.wm k h⟩⟩
def bBf:Opq:=⟨λ_ _ _ _=>True,λ_ _=>trivial,λ_ _=>trivial⟩
inductive Sl where
 |no
 |sh (u:U)
 |ow (l:List U)
 |br (l:List U)
 |oo (o:Own)
 |bo (o:Own)
abbrev EV:=List Sl
def Sl.rd:Sl->U
 |.sh u=>u
 |.ow l=> .ls l
 |.br l=> .ls l
 |.no=> .wl
 |_=> .op bBf
def Sl.es:Sl->(U->Prop)->Prop
 |.sh u,R=>R u
 |.ow l,R=>R (.ls l)
 |.oo o,R=>R (.op o.fz)
 |_,_=>False
def lsO(l:List U):Own:=⟨λW B S H p=>(∀b,S b↔b=p)/\∃xs,H p=some (.lst xs)/\DUs W B H l xs,λk e ⟨s,xs,h,d⟩=>⟨s,xs,(e _ ((s _).mpr rfl)).trans h,DUs.mono k l d⟩,λk ⟨s,xs,h,d⟩=>⟨s,xs,h,DUs.wm k l d⟩,λ⟨s,_,h,_⟩ b hb=>by rw[(s b).mp hb];exact⟨_,h,trivial⟩,λ⟨s,_⟩=>(s _).mpr rfl⟩
def Sl.hold:Sl->Option Own
 |.ow l=>some (lsO l)
 |.br l=>some (lsO l)
 |.oo o=>some o
 |.bo o=>some o
 |_=>none
section
variable (W B:Addr->Prop)(H H':Hp)
def RO:Sl->V->Prop
 |.sh u,y=>DU W B H' u y
 |.ow l,y=>∃p xs,y=.ref p/\H p=none/\H' p=some (.lst xs)/\DUs W (λb=>B b∨b=p) H' l xs
 |.br l,y=>∃p xs,y=.ref p/\¬W p/\H' p=some (.lst xs)/\DUs W B H' l xs
 |.oo o,y=>∃p S,y=.ref p/\(∀b,S b->H b=none)/\o.φ W (λb=>B b∨S b) S H' p
 |.bo o,y=>∃p S,y=.ref p/\(∀b,S b->¬W b)/\o.φ W B S H' p
 |.no,_=>False
def DB(u:U)(y:V):Prop:=DU W B H u y∨∃l p xs,u=.ls l/\y=.ref p/\¬W p/\H p=some (.lst xs)/\DUs W B H l xs
structure EE(ρ:EV)(σ:St):Prop where
 eb:EB W B H
 len:ρ.length=σ.length
 sh:∀(i:Nat)(u:U),ρ[i]? =some (Sl.sh u)->∃v,σ[i]? =some (some v)/\DU W B H u v
 hd:∀(i:Nat)(s:Sl)(o:Own),ρ[i]? =some s->s.hold=some o->∃p S,σ[i]? =some (some (V.ref p))/\(∀b,S b->¬W b)/\o.φ W B S H p
end
def EE.ow{W B:Addr->Prop}{H:Hp}{ρ:EV}{σ:St}(e:EE W B H ρ σ)(i:Nat)(l:List U)(h:ρ[i]? =some (Sl.ow l)∨ρ[i]? =some (Sl.br l)):∃p xs,σ[i]? =some (some (V.ref p))/\¬W p/\H p=some (.lst xs)/\DUs W B H l xs:=by
 obtain⟨p,S,h1,h2,s,xs,h3⟩:∃p S,σ[i]? =some (some (V.ref p))/\(∀b,S b->¬W b)/\(lsO l).φ W B S H p:=h.elim (λh=>e.hd i _ _ h rfl) λh=>e.hd i _ _ h rfl;exact⟨p,xs,h1,h2 p ((s p).mpr rfl),h3⟩
section
variable {W B:Addr->Prop}{H H' H2:Hp}{ρ:EV}{σ:St}
def EB.keep(e:EB W B H)(f:Fw W H H'):∀b o,¬B b->H b=some o->¬B b/\H' b=some o:=λb o n h=>⟨n,f.fr b o (λw=>n (e.wb b w)) h⟩
def EB.dm(e:EB W B H):∀p,B p->H p≠none:=λp h n=>by
 obtain⟨xs,q,_⟩:=e.bl p h;rw[q]at n;cases n
def EB.to(e:EB W B H)(f:Fw W H H'):EB W B H':=by
 refine⟨λp hp=>?_,e.wb,f.wo⟩;by_cases w:W p
 ·obtain⟨x,y,z,q⟩:=f.wo p w;exact⟨_,q,trivial⟩
 ·obtain⟨xs,q,m⟩:=e.bl p hp;exact⟨xs,f.fr p _ w q,m⟩
def EB.refl(e:EB W B H):Fw W H H:=⟨λ_ _ _ h=>h,e.wo⟩
def EB.new(e:EB W B H){o:HO}(n:H p=none):Fw W H (upd H p o):=⟨λb u _ h=>by
 rw[aP (aQ h n)];exact h,λq hq=>by
 obtain⟨x,y,z,h⟩:=e.wo q hq;exact⟨x,y,z,by rw[aP (aQ h n)];exact h⟩⟩
def EB.nw(e:EB W B H)(n:H p=none):¬B p:=λh=>e.dm p h n
def EB.same(e:EB W B H)(s:fJ H H'):Fw W H H':=⟨λb o _ h=>s b o h,λp hp=>by
 obtain⟨x,y,z,h⟩:=e.wo p hp;exact⟨x,y,z,s _ _ h⟩⟩
def Own.to(o:Own)(e:EB W B H)(f:Fw W H H')(n:∀b,S b->¬W b)(h:o.φ W B S H p):o.φ W B S H' p:=o.mono (e.keep f) (λb hb=>let⟨x,q,_⟩:=o.th h b hb;(f.fr b x (n b hb) q).trans q.symm) h
def Own.less(o:Own){S T:Addr->Prop}(h:o.φ W (λb=>B b∨T b) S H p):o.φ W B S H p:=o.mono (λ_ _ n h=>⟨λz=>n (.inl z),h⟩) (λ_ _=>rfl) h
def EE.to(e:EE W B H ρ σ)(f:Fw W H H'):EE W B H' ρ σ:=
 ⟨e.eb.to f,e.len,λi u h=>let⟨v,h1,h2⟩:=e.sh i u h;⟨v,h1,DU.mono (e.eb.keep f) u h2⟩,λi s o h hs=>let⟨p,S,h1,h2,h3⟩:=e.hd i s o h hs;⟨p,S,h1,h2,o.to e.eb f h2 h3⟩⟩
def Fw.none_(f:Fw W H H')(n1:H' p=none):H p=none:=by
 cases hp:H p with
 |none=>rfl
 |some o=>
  by_cases w:W p
  ·obtain⟨_,_,_,z⟩:=f.wo p w;rw[z]at n1;cases n1
  ·rw[f.fr p o w hp]at n1;cases n1
def RO.back{s:Sl}(f:Fw W H H')(h:RO W B H' H2 s v):RO W B H H2 s v:=by
 match s,h with
 |.sh u,h=>exact h
 |.ow l,⟨p,xs,e1,n1,h2,h3⟩=>exact⟨p,xs,e1,f.none_ n1,h2,h3⟩
 |.br l,h=>exact h
 |.oo o,⟨p,S,e1,n1,h⟩=>exact⟨p,S,e1,λb hb=>f.none_ (n1 b hb),h⟩
 |.bo o,h=>exact h
def DB.to{u:U}(h:DB W B H u v)(e:EB W B H)(f:Fw W H H'):DB W B H' u v:=by
 rcases h with h|⟨l,p,xs,e1,e2,w,h1,h2⟩
 ·exact .inl (DU.mono (e.keep f) u h)
 ·exact .inr ⟨l,p,xs,e1,e2,w,f.fr _ _ w h1,DUs.mono (e.keep f) l h2⟩
def DUs.less{l:List U}(h:DUs W (λb=>B b∨b=p) H l xs):DUs W B H l xs:=DUs.mono (λ_ _ n e=>⟨λz=>n (.inl z),e⟩) l h
def RO.db{s:Sl}(e:EB W B H)(h:RO W B H H' s v):DB W B H' s.rd v:=by
 match s,h with
 |.sh u,h=>exact .inl h
 |.ow l,⟨p,xs,e1,h1,h2,h3⟩=>exact .inl ⟨p,xs,e1,e.nw h1,h2,h3.less⟩
 |.br l,⟨p,xs,e1,h1,h2,h3⟩=>exact .inr ⟨l,p,xs,rfl,e1,h1,h2,h3⟩
 |.oo _,_=>exact .inl trivial
 |.bo _,_=>exact .inl trivial
def RO.du{s:Sl}{R:U->Prop}(e:EB W B H)(h:RO W B H H' s v)(r:s.es R):∃u,R u/\DU W B H' u v:=by
 match s,h,r with
 |.sh u,h,r=>exact⟨u,r,h⟩
 |.ow l,⟨p,xs,e1,h1,h2,h3⟩,r=>exact⟨.ls l,r,p,xs,e1,e.nw h1,h2,h3.less⟩
 |.oo o,⟨p,S,e1,h1,h2⟩,r=>exact⟨.op o.fz,r,p,S,e1,λb hb=>e.nw (h1 b hb),o.less h2⟩
def DB.int{i:Int}(h:DB W B H (.n i) y):y=.int i:=by
 rcases h with h|⟨l,p,xs,e1,_⟩
 ·exact h.1
 ·cases e1
def DB.fl{x y:V}(h:DB W B H (.v x) y):y=x/\jK x=true:=by
 rcases h with h|⟨l,p,xs,e1,_⟩
 ·exact h
 ·cases e1
def DB.tp{l:List U}(h:DB W B H (.tp l) y):∃p xs,y=.ref p/\¬B p/\H p=some (.tup xs)/\DUs W B H l xs:=by
 rcases h with h|⟨l,p,xs,e1,_⟩
 ·exact h
 ·cases e1
def DB.ob{us:List U}(h:DB W B H (.ob C ns us) y):∃p dx xs,y=.ref p/\¬B p/\H p=some (.ins C dx (ns.zip xs))/\ns.length=xs.length/\DUs W B H us xs:=by
 rcases h with h|⟨l,p,xs,e1,_⟩
 ·exact h
 ·cases e1
def DB.dk{us:List U}(h:DB W B H (.dk ns us) y):∃p xs,y=.ref p/\¬B p/\H p=some (.dK ((ns.map Cq).zip xs))/\ns.length=xs.length/\DUs W B H us xs:=by
 rcases h with h|⟨l,p,xs,e1,_⟩
 ·exact h
 ·cases e1
def DB.ls{l:List U}(e:EB W B H)(h:DB W B H (.ls l) y):∃p xs,y=.ref p/\¬W p/\H p=some (.lst xs)/\DUs W B H l xs:=by
 rcases h with ⟨p,xs,e1,nb,h1,h2⟩|⟨l,p,xs,e1,e2,w,h1,h2⟩
 ·exact⟨p,xs,e1,λw=>nb (e.wb p w),h1,h2⟩
 ·cases e1;exact⟨p,xs,e2,w,h1,h2⟩
end
abbrev TV:=EV->(Sl->Prop)->Prop
def VT(t:TE)(F:TV):Prop:=∀{W B:Addr->Prop}{ρ:EV}{σ:St}{H:Hp}{R:Sl->Prop}{Q:VK},EE W B H ρ σ->F ρ R->(∀s v H',R s->Fw W H H'->RO W B H H' s v->Q v H')->t σ H Q
def VE(X:Cx)(e:Expr)(F:TV):Prop:=∃t,PE X e t/\VT t F
abbrev TVc:=EV->(Bool->Prop)->Prop
def VTc(t:TT)(F:TVc):Prop:=∀{W B:Addr->Prop}{ρ:EV}{σ:St}{H:Hp}{R:Bool->Prop}{Q:Bool->Hp->Prop},EE W B H ρ σ->F ρ R->(∀c H',R c->Fw W H H'->Q c H')->t σ H Q
def VC(X:Cx)(e:Expr)(F:TVc):Prop:=∃t,PT X e t/\VTc t F
def VW(X:Cx)(e:Expr)(F:TVc):Prop:=∃t,PW X e t/\VTc t F
abbrev TVa:=EV->(List U->Prop)->Prop
def VTa(n:Nat)(t:TA)(F:TVa):Prop:=∀{W B:Addr->Prop}{ρ:EV}{σ:St}{H:Hp}{R:List U->Prop}{Q:List V->Hp->Prop},EE W B H ρ σ->F ρ R->(∀us vs H',R us->us.length=n->Fw W H H'->DUs W B H' us vs->Q vs H')->t σ H Q
def VA(X:Cx)(es:List Expr)(F:TVa):Prop:=∃t,PA X es t/\VTa es.length t F
def DBs(W B:Addr->Prop)(H:Hp):List U->List V->Prop
 | [],xs=>xs=[]
 |u::l,xs=>∃x r,xs=x::r/\DB W B H u x/\DBs W B H l r
def DBs.to{W B:Addr->Prop}{H H':Hp}(e:EB W B H)(f:Fw W H H'):∀{us:List U}{vs:List V},DBs W B H us vs->DBs W B H' us vs
 | [],_,h=>h
 |_::_,_,⟨x,r,e1,h,t⟩=>⟨x,r,e1,h.to e f,DBs.to e f t⟩
def VTb(t:TA)(F:TVa):Prop:=∀{W B:Addr->Prop}{ρ:EV}{σ:St}{H:Hp}{R:List U->Prop}{Q:List V->Hp->Prop},EE W B H ρ σ->F ρ R->(∀us vs H',R us->Fw W H H'->DBs W B H' us vs->Q vs H')->t σ H Q
def VB(X:Cx)(es:List Expr)(F:TVa):Prop:=∃t,PA X es t/\VTb t F
def O2(r:R2)(g:U->U->(Sl->Prop)->Prop):Prop:=∀{W B:Addr->Prop}{H:Hp}{u v:U}{x y:V}{R:Sl->Prop}{Q:VK},EB W B H->DB W B H u x->DB W B H v y->g u v R->(∀s z H',R s->Fw W H H'->RO W B H H' s z->Q z H')->r x y H Q
def CB(r:List V->Hp->VK->Prop)(g:List U->(Sl->Prop)->Prop):Prop:=∀{W B:Addr->Prop}{H:Hp}{us:List U}{vs:List V}{R:Sl->Prop}{Q:VK},EB W B H->DBs W B H us vs->g us R->(∀s z H',R s->Fw W H H'->RO W B H H' s z->Q z H')->r vs H Q
def aQ4(i:Nat):TV:=λρ R=>match (ρ[i]? :Option Sl)with
 |some (.sh u)=>R (.sh u)
 |some (.ow l)=>R (.br l)
 |some (.br l)=>R (.br l)
 |some (.oo o)=>R (.bo o)
 |some (.bo o)=>R (.bo o)
 |_=>False
def vC(u:U):TV:=λ_ R=>R (.sh u)
def vOp(g:U->U->(Sl->Prop)->Prop)(a b:TV):TV:=λρ R=>a ρ λs=>b ρ λs'=>g s.rd s'.rd R
def qH(F:TV):TVc:=λρ R=>F ρ λs=>match s.rd with
 |.v (.bl c)=>R c
 |_=>False
def bBc(a b:TVc):TVc:=λρ R=>a ρ λc=>(c=true->b ρ R)/\(c=false->R false)
def vOr(a b:TVc):TVc:=λρ R=>a ρ λc=>(c=true->R true)/\(c=false->b ρ R)
def bAn(a:TVc):TVc:=λρ R=>a ρ λc=>R (!c)
def aPq:TVa:=λ_ R=>R []
def aJb(a:TV)(b:TVa):TVa:=λρ R=>a ρ λs=>s.es λu=>b ρ λus=>R (u::us)
def bA1(a:TV)(b:TVa):TVa:=λρ R=>a ρ λs=>b ρ λus=>R (s.rd::us)
def aZc(a:TVa):TV:=λρ R=>a ρ λus=>R (.sh (.tp us))
def bB3(a:TVa):TV:=λρ R=>a ρ λus=>R (.ow us)
def aZs(F:List U->(Sl->Prop)->Prop)(a:TVa):TV:=λρ R=>a ρ λus=>F us R
inductive aZe(F:List U->(Sl->Prop)->Prop)(vs:List V)(H:Hp)(Q:VK)(z3_:XK):Prop
 |mk (W B us R:_) (q0_:EB W B H) (q1_:DUs W B H us vs) (q2_:F us R) (q3_:∀s v H',R s->Fw W H H'->RO W B H H' s v->Q v H'):aZe F vs H Q z3_
def spV(F:List U->(Sl->Prop)->Prop):Sp:=λvs H Q z3_=>aZe F vs H Q z3_
def aA(i:Nat)(hN:X.N[i]? =some x:=by rfl)(hv:Vis X.env.scope x:=by trivial)(hd:ND x:=by decide)
  (hcd:NC x:=by decide):VE X (.Name x pos) (aQ4 i):=⟨_,iZ hN hv hd hcd,λ{W B ρ σ H R Q} e h q=>by
 unfold aQ4 at h;split at h
 ·rename_i u hu;obtain⟨v,h1,h2⟩:=e.sh i u hu;exact⟨v,h1,q _ _ _ h e.eb.refl h2⟩
 ·rename_i l hu;obtain⟨p,xs,h1,h2,h3,h4⟩:=e.ow i l (.inl hu);exact⟨_,h1,q _ _ _ h e.eb.refl ⟨p,xs,rfl,h2,h3,h4⟩⟩
 ·rename_i l hu;obtain⟨p,xs,h1,h2,h3,h4⟩:=e.ow i l (.inr hu);exact⟨_,h1,q _ _ _ h e.eb.refl ⟨p,xs,rfl,h2,h3,h4⟩⟩
 ·rename_i o hu;obtain⟨p,S,h1,h2,h3⟩:=e.hd i _ o hu rfl;exact⟨_,h1,q _ _ _ h e.eb.refl ⟨p,S,rfl,h2,h3⟩⟩
 ·rename_i o hu;obtain⟨p,S,h1,h2,h3⟩:=e.hd i _ o hu rfl;exact⟨_,h1,q _ _ _ h e.eb.refl ⟨p,S,rfl,h2,h3⟩⟩
 ·exact h.elim⟩
def aQc{x:V}(f:jK x=true):VT (tC x) (vC (.v x)):=λe h q=>q _ _ _ h e.eb.refl ⟨rfl,f⟩
def aG{i j pos}:VE X (.Constant (.int i) j pos) (vC (.n i)):=⟨_,dX,aQc rfl⟩
def bO{x j pos}:VE X (.Constant (.str x) j pos) (vC (.s x)):=⟨_,cA,aQc rfl⟩
def yF{b j pos}:VE X (.Constant (.bool b) j pos) (vC (.b b)):=⟨_,aZo,aQc rfl⟩
def pI{j pos}:VE X (.Constant .none j pos) (vC .no):=⟨_,aWl,aQc rfl⟩
def aJ7{r:R2}{g:U->U->(Sl->Prop)->Prop}{ta tb:TE}{F G:TV}(o:O2 r g)(ha:VT ta F)(hb:VT tb G):VT (tOp r ta tb) (vOp g F G):=λe h q=>by
 refine ha e h λs v H1 h1 f1 r1=>?_;have e1:=e.to f1;refine hb e1 h1 λs' v' H2 h2 f2 r2=>?_;refine o (e1.to f2).eb ((r1.db e.eb).to e1.eb f2) (r2.db e1.eb) h2 λs3 z H3 h3 f3 r3=>?_;exact q _ _ _ h3 ((f1.trans f2).trans f3) (r3.back (f1.trans f2))
def aX{op:Operator}{r:R2}{g:U->U->(Sl->Prop)->Prop}{a b:Expr}{F G:TV}(ho:OpR X (binaryOp op) r)(o:O2 r g)(ha:VE X a F)(hb:VE X b G):VE X (.BinOp a op b pos) (vOp g F G):=
 let⟨_,p,f⟩:=ha;let⟨_,p',f'⟩:=hb;⟨_,qI ho p p',aJ7 o f f'⟩
def bW{r:R2}{g:U->U->(Sl->Prop)->Prop}{a b:Expr}{F G:TV}(ho:IxR X r)(o:O2 r g)(ha:VE X a F)(hb:VE X b G)(hs:aJy b:=by exactλ_ _=>rfl):VE X (.Subscript a b pos) (vOp g F G):=
 let⟨_,p,f⟩:=ha;let⟨_,p',f'⟩:=hb;⟨_,xY ho p p' hs,aJ7 o f f'⟩
def aEd{op:CmpOp}{r:R2}{g:U->U->(Sl->Prop)->Prop}{a b:Expr}{F G:TV}(ho:OpR X (compareOp op) r)(o:O2 r g)(ha:VE X a F)(hb:VE X b G)(hm:behindInMarks op b=false:=by first|exact cZ _|rfl):VE X (.Compare a [op] [b] pos) (vOp g F G):=
 let⟨_,p,f⟩:=ha;let⟨_,p',f'⟩:=hb;⟨_,aEb ho p p' hm,aJ7 o f f'⟩
def vY{F:TV}(h:VT t F):VTc (aN4 t) (qH F):=λe h1 q=>h e h1 λs v H1 h2 f r=>by
 have d:=r.db e.eb;revert h2 d;generalize s.rd=u;intro h2 d;split at h2
 ·exact⟨_,d.fl.1,q _ _ h2 f⟩
 ·exact h2.elim
def cO{op:CmpOp}{r:R2}{g:U->U->(Sl->Prop)->Prop}{a b:Expr}{F G:TV}(ho:OpR X (compareOp op) r)(o:O2 r g)(ha:VE X a F)(hb:VE X b G)(hm:behindInMarks op b=false:=by first|exact cZ _|rfl):VC X (.Compare a [op] [b] pos) (qH (vOp g F G)):=
 let⟨_,p,f⟩:=ha;let⟨_,p',f'⟩:=hb;⟨_,cM ho p p' hm,vY (aJ7 o f f')⟩
def iH{F:TV}(ha:VE X a F)(he:∀whole,isTrue a X.env whole=(do let v<-whole;standAt a.pos;holding [v] (truthy v)):=by intro _;rfl):VC X a (qH F):=
 let⟨_,p,f⟩:=ha;⟨_,aAh p he,vY f⟩
def gK{F:TVc}(ha:VC X a F):VC X (.UnaryOp .Not a pos) (bAn F):=let⟨_,p,f⟩:=ha;⟨_,aDv p,λe h q=>f e h λc H1 h1 f1=>q _ _ h1 f1⟩
def wD{F:TVc}(ha:VW X a F):VC X a F:=let⟨_,p,f⟩:=ha;⟨_,p.pt,f⟩
def aSi{F:TVc}(ha:VC X a F):VW X (.BoolOp .And [a] pos) F:=let⟨_,p,f⟩:=ha;⟨_,aDc p,f⟩
def rF{F:TVc}(ha:VC X a F):VW X (.BoolOp .Or [a] pos) F:=let⟨_,p,f⟩:=ha;⟨_,aQ9 p,f⟩
def aXy{a b:Expr}{F G:TVc}(ha:VC X a F)(hb:VW X (.BoolOp .And (b::rest) pos) G):VW X (.BoolOp .And (a::b::rest) pos) (bBc F G):=
 let⟨_,p,f⟩:=ha;let⟨_,p',f'⟩:=hb;⟨_,aHg p p',λe h q=>f e h λc H1 h1 f1=>by
  cases c with
  |true=>exact aGf (f' (e.to f1) (h1.1 rfl) λc H2 h2 f2=>q _ _ h2 (f1.trans f2))
  |false=>exact qK (q _ _ (h1.2 rfl) f1)⟩
def vL{a b:Expr}{F G:TVc}(ha:VC X a F)(hb:VW X (.BoolOp .Or (b::rest) pos) G):VW X (.BoolOp .Or (a::b::rest) pos) (vOr F G):=
 let⟨_,p,f⟩:=ha;let⟨_,p',f'⟩:=hb;⟨_,aVl p p',λe h q=>f e h λc H1 h1 f1=>by
  cases c with
  |true=>exact aGf (q _ _ (h1.1 rfl) f1)
  |false=>exact qK (f' (e.to f1) (h1.2 rfl) λc H2 h2 f2=>q _ _ h2 (f1.trans f2))⟩
def vB(F:TVc):TV:=λρ R=>F ρ λc=>R (.sh (.b c))
def aVo{F:TV}{ρ:EV}{σ:St}{W B:Addr->Prop}{H:Hp}{R:Bool->Prop}(f:VT t F)(e:EE W B H ρ σ)(h:qH F ρ R)(q:∀c H1,R c->Fw W H H1->Q (.bl c) H1):t σ H Q:=f e h λs v H1 h1 f1 r=>by
 have d:=r.db e.eb;revert h1 d;generalize s.rd=u;intro h2 d;split at h2
 ·rw[d.fl.1];exact q _ _ h2 f1
 ·exact h2.elim
def aC7{a b:Expr}{F G:TV}(ha:VE X a F)(hb:VE X (.BoolOp .And (b::rest) pos) G):VE X (.BoolOp .And (a::b::rest) pos) (vB (bBc (qH F) (qH G))):=
 let⟨ta,p,f⟩:=ha;let⟨_,p',f'⟩:=hb;⟨_,aPj p p',λe h q=>show ta _ _ _ from aVo f e h λc H1 h1 f1=>by
  refine⟨c,rfl,?_⟩;cases c with
  |true=>exact aGf (aVo f' (e.to f1) (h1.1 rfl) λc H2 h2 f2=>q _ _ _ h2 (f1.trans f2) ⟨rfl,rfl⟩)
  |false=>exact qK (q _ _ _ (h1.2 rfl) f1 ⟨rfl,rfl⟩)⟩
def aWb{F:TV}(ha:VE X a F):VE X (.UnaryOp .Not a pos) (vB (bAn (qH F))):=
 let⟨ta,p,f⟩:=ha;⟨_,aWf p,λe h q=>show ta _ _ _ from aVo f e h λc H1 h1 f1=>⟨c,rfl,q _ _ _ h1 f1 ⟨rfl,rfl⟩⟩⟩
def aH:VA X [] aPq:=⟨_,aZ,λe h q=>q _ _ _ h rfl e.eb.refl rfl⟩
def aB{es:List Expr}{F:TV}{G:TVa}(ha:VE X a F)(hb:VA X es G)(hs:SE X a es:=by rfl):VA X (a::es) (aJb F G):=
 let⟨_,p,f⟩:=ha;let⟨_,p',f'⟩:=hb;⟨_,aM p p' hs,λe h q=>f e h λs v H1 h1 f1 r1=>by
  obtain⟨u,h1,d⟩:=r1.du e.eb h1;exact f' (e.to f1) h1 λus vs H2 h2 l2 f2 d2=>q _ _ _ h2 (by rw[Ah,l2];rfl) (f1.trans f2) ⟨v,vs,rfl,DU.mono ((e.to f1).eb.keep f2) u d,d2⟩⟩
def aU:VB X [] aPq:=⟨_,aZ,λe h q=>q _ _ _ h e.eb.refl rfl⟩
def aN{es:List Expr}{F:TV}{G:TVa}(ha:VE X a F)(hb:VB X es G)(hs:SE X a es:=by rfl):VB X (a::es) (bA1 F G):=
 let⟨_,p,f⟩:=ha;let⟨_,p',f'⟩:=hb;⟨_,aM p p' hs,λe h q=>f e h λs v H1 h1 f1 r1=>
  f' (e.to f1) h1 λus vs H2 h2 f2 d2=>q _ _ _ h2 (f1.trans f2) ⟨v,vs,rfl,(r1.db e.eb).to (e.to f1).eb f2,d2⟩⟩
def cY{es:List Expr}{x1}{F:TVa}(h:VA X es F)(hl:es.length<=100:=by decide):VE X (.Tuple es x1 pos) (aZc F):=
 let⟨_,p,f⟩:=h;⟨_,aVw p,λe h q=>f e h λus vs H1 h1 l1 f1 d=>⟨by
  have:=d.length;have:(100:Nat)<=sizeLine:=by decide
  lia,λp n=>by
  have e1:=(e.to f1).eb;have f2:=e1.new (o:=.tup vs) n;exact q _ _ _ h1 (f1.trans f2) ⟨p,vs,rfl,e1.nw n,aJ,DUs.mono (e1.keep f2) us d⟩⟩⟩
def bZ{es:List Expr}{F:TVa}(h:VA X es F)(hl:es.length<=100:=by decide):VE X (.List es pos) (bB3 F):=
 let⟨_,p,f⟩:=h;⟨_,aOw p,λ{W B ρ σ H R Q} e h q=>f e h λus vs H1 h1 l1 f1 d=>⟨by
  have:=d.length;have:(100:Nat)<=sizeLine:=by decide
  lia,λp n=>by
  have e1:=(e.to f1).eb;have f2:=e1.new (o:=.lst vs) n;exact q _ _ _ h1 (f1.trans f2) (RO.back (s:=.ow us) f1 ⟨p,vs,rfl,n,aJ,DUs.mono (λb o nb h=>⟨λz=>z.elim nb (aQ h n),(e1.keep f2 b o nb h).2⟩) us d⟩)⟩⟩
def aO{F:List U->(Sl->Prop)->Prop}{es:List Expr}{G:TVa}{p pos:Pos}(C:Cal X.prog X.w X.K X.mg X.base CX0 k x ps (spV F))(hr:dG k X.A)(hg:Gl X x)
  (ha:VA X (a::es) G) (hdb:ND x:=by decide) (he:SE X a es:=by rfl) (hpl:BT X pos es:=by rfl):
  VE X (.Call (.Name x p) (a::es) [] pos) (aZs F G):=
 let⟨_,p,f⟩:=ha;⟨_,aR2 C hr hg bH p hdb he hpl,λe h q=>f e h λus vs H1 h1 l1 f1 d=>by
  refine⟨_,_,us,_,(e.to f1).eb,(by rw[Bf];exact d),h1,λs v H2 h2 f2 r2=>q _ _ _ h2 (f1.trans f2) (r2.back f1)⟩⟩
structure Cfl(K:Ac)(C:Addr)(fs:List Str):Prop where
 cl:Cls K C
 na:∀f∈fs,kW K C f
def wQ(f:Str):List Str->List U->(Sl->Prop)->Prop
 |n::ns,u::us,R=>(n=f/\R (.sh u))∨(n≠f/\wQ f ns us R)
 |_,_,_=>False
theorem aI1{W B:Addr->Prop}{H:Hp}{f:Str}{R:Sl->Prop}:∀{ns:List Str}{us:List U}{xs:List V},DUs W B H us xs->wQ f ns us R->∃u v,R (.sh u)/\DU W B H u v/\(ns.zip xs).lookup f=some v
 |_::_,u::us,_,⟨x,r,e,h,t⟩,q=>by
  subst e;rcases q with ⟨rfl,q⟩|⟨n,q⟩
  ·exact⟨u,x,q,h,by simp[Bq]⟩
  ·obtain⟨u',v,h1,h2,h3⟩:=aI1 t q;refine⟨u',v,h1,h2,?_⟩;rw[Gr,Bq,show(f==_)=false from beq_eq_false_iff_ne.mpr (Cy n)];exact h3
def vFl(C:Addr)(a:TV)(f:Str):TV:=λρ R=>a ρ λs=>match s.rd with
 |.ob C' ns us=>C'=C/\wQ f ns us R
 |_=>False
def dO{fs:List Str}{f:Str}{F:TV}(c:Cfl X.K C fs)(ha:VE X a F)(hf:f∈fs:=by decide)(hb:attributeBase a f X.env (eval a X.env)=eval a X.env:=by rfl):VE X (.Attribute a f pos) (vFl C F f):=
 let⟨_,p,g⟩:=ha;⟨_,mC p hb,λe h q=>g e h λs v H1 h1 f1 r1=>by
  have d:=r1.db e.eb;revert h1 d;generalize s.rd=u;intro h1 d;split at h1
  ·obtain⟨rfl,h1⟩:=h1;obtain⟨p,dx,xs,rfl,_,hp,hl,ds⟩:=d.ob;obtain⟨u,v,h2,h3,h4⟩:=aI1 ds h1;exact⟨p,_,dx,_,v,rfl,hp,c.cl,c.na f hf,h4,q _ _ _ h2 f1 h3⟩
  ·exact h1.elim⟩
def mOb(Cs:Addr->Prop)(m:Str)(F:Addr->List U->(Sl->Prop)->Prop)(G:TVa)(ρ:EV)(R:Sl->Prop):U->Prop
 |.ob C ns us=>Cs C/\ns.elem m=false/\G ρ λvs=>F C (.ob C ns us::vs) R
 |_=>False
def aT8(Cs:Addr->Prop)(m:Str)(F:Addr->List U->(Sl->Prop)->Prop)(a:TV)(G:TVa):TV:=λρ R=>a ρ λs=>s.es (mOb Cs m F G ρ R)
theorem aHe{m:Str}:∀{ns:List Str}{xs:List V},ns.elem m=false->(ns.zip xs).lookup m=none
 | [],_,_=>by simp
 |_::_,[],_=>by simp
 |n::ns,x::xs,h=>by
  simp only[Tj]at h;rw[Gr,Bq];cases e:m==n with
  |true=>rw[e]at h;cases h
  |false=>
   rw[e]at h;exact aHe h
def aEu{m:Str}{F:Addr->List U->(Sl->Prop)->Prop}{o a:Expr}{es:List Expr}{apos pos:Pos}{Fo:TV}{G:TVa}{pl:Sem Bool}(ho:VE X o Fo)(D:Dis X.prog X.w X.K X.mg X.base CX0 k Cs m ps λC=>spV (F C))(hr:dG k X.A)(ha:VA X (a::es) G)
  (hst:SE X a es:=by rfl) (hpl:BT X pos es:=by rfl)
  (ht:eval (.Call (.Attribute o m apos) (a::es) [] pos) X.env=(do
   let ov<-eval o X.env
   standAt apos.atName
   let(f,first)<-holding [ov] (getMethod ov m pl)
   callWith pos f first (backTo pos (starEach (a::es) X.env)) (backToKw pos (keywordEach [] X.env))):=by rfl):
  VE X (.Call (.Attribute o m apos) (a::es) [] pos) (aT8 Cs m F Fo G):=
 let⟨_,p,g⟩:=ho;let⟨_,p',g'⟩:=ha;⟨_,cL p D hr bH p' hst hpl ht,λe h q=>g e h λs v H1 h1 f1 r1=>by
  obtain⟨u,h1,d⟩:=r1.du e.eb h1;match u,h1,d with
  |.ob C ns us,⟨hC,hm,h1⟩,d=>
   obtain⟨p,dx,xs,rfl,nb,hp,hl,ds⟩:=id d;refine⟨p,C,dx,_,rfl,hp,hC,aHe hm,g' (e.to f1) h1 λvs ws H2 h2 _ f2 d2=>?_⟩;have e2:=(e.to f1).eb;exact⟨_,_,.ob C ns us::vs,_,e2.to f2,⟨_,_,rfl,DU.mono (e2.keep f2) _ d,d2⟩,h2,λs v H3 h3 f3 r3=>q _ _ _ h3 ((f1.trans f2).trans f3) (r3.back (f1.trans f2))⟩⟩
def cI{m:Str}{F:Addr->List U->(Sl->Prop)->Prop}{o:Expr}{apos pos:Pos}{Fo:TV}{pl:Sem Bool}(ho:VE X o Fo)(D:Dis X.prog X.w X.K X.mg X.base CX0 k Cs m ps λC=>spV (F C))(hr:dG k X.A)
  (ht:eval (.Call (.Attribute o m apos) [] [] pos) X.env=(do
   let ov<-eval o X.env
   standAt apos.atName
   let(f,first)<-holding [ov] (getMethod ov m pl)
   callWith pos f first (backTo pos (starEach [] X.env)) (backToKw pos (keywordEach [] X.env))):=by rfl):
  VE X (.Call (.Attribute o m apos) [] [] pos) (aT8 Cs m F Fo aPq):=
 let⟨_,p,g⟩:=ho;⟨_,bI p D hr bH ht,λe h q=>g e h λs v H1 h1 f1 r1=>by
  obtain⟨u,h1,d⟩:=r1.du e.eb h1;match u,h1,d with
  |.ob C ns us,⟨hC,hm,h1⟩,d=>
   obtain⟨p,dx,xs,rfl,nb,hp,hl,ds⟩:=id d;exact⟨p,C,dx,_,rfl,hp,hC,aHe hm,_,_,[.ob C ns us],_,(e.to f1).eb,⟨_,_,rfl,d,rfl⟩,h1,λs v H3 h3 f3 r3=>q _ _ _ h3 (f1.trans f3) (r3.back f1)⟩⟩
def gI(f:Int->Int->V):U->U->(Sl->Prop)->Prop
 |.v (.int i),.v (.int j),R=>R (.sh (.v (f i j)))
 |_,_,_=>False
def gIC(C:Int->Int->Prop)(f:Int->Int->V):U->U->(Sl->Prop)->Prop
 |.v (.int i),.v (.int j),R=>C i j/\R (.sh (.v (f i j)))
 |_,_,_=>False
def cH(hf:∀i j,jK (f i j)=true:=by intros;rfl):O2 (rI0 f) (gI f):=λ{W B H u v x y R Q} e d1 d2 h q=>by
 unfold gI at h;split at h
 ·rename_i i j;exact⟨i,j,d1.int,d2.int,q _ _ _ h e.refl ⟨rfl,hf i j⟩⟩
 ·exact h.elim
def jL{C:Int->Int->Prop}(hf:∀i j,jK (f i j)=true:=by intros;rfl):O2 (rI C f) (gIC C f):=λ{W B H u v x y R Q} e d1 d2 h q=>by
 unfold gIC at h;split at h
 ·rename_i i j;exact⟨i,j,d1.int,d2.int,h.1,q _ _ _ h.2 e.refl ⟨rfl,hf i j⟩⟩
 ·exact h.elim
def aRq{α β:Type}{xs:List α}{ys:List β}{i:Int}{x:α}(e:xs.length=ys.length)(h:atI xs i=some x):∃(j:Nat)(y:β),xs[j]? =some x/\ys[j]? =some y/\atI ys i=some y:=by
 unfold atI at h⊢;rw[<-e];cases q:ixN xs.length i with
 |none=>rw[q]at h;cases h
 |some j=>
  rw[q]at h;have h':xs[j]? =some x:=h;have hj:=(List.getElem?_eq_some_iff.mp h').1;exact⟨j,_,h',Aj (by rw[<-e];exact hj),Aj (by rw[<-e];exact hj)⟩
def DUs.atI{W B:Addr->Prop}{H:Hp}{l:List U}{i:Int}{u:U}(d:DUs W B H l xs)(h:atI l i=some u):∃x,L2.atI xs i=some x/\DU W B H u x:=by
 obtain⟨j,x,h1,h2,h3⟩:=aRq d.length h;obtain⟨y,h4,h5⟩:=d.get h1;rw[h2]at h4;cases h4;exact⟨x,h3,h5⟩
def aZf:U->U->(Sl->Prop)->Prop
 |.ls l,.v (.int i),R=>∃u,atI l i=some u/\R (.sh u)
 |_,_,_=>False
def bAp:U->U->(Sl->Prop)->Prop
 |.tp l,.v (.int i),R=>∃u,atI l i=some u/\R (.sh u)
 |_,_,_=>False
def aX3{K:Ac}:O2 (aYb K) aZf:=λ{W B H u v x y R Q} e d1 d2 h q=>by
 unfold aZf at h;split at h
 ·obtain⟨w,h1,h2⟩:=h;obtain⟨p,xs,rfl,_,hp,ds⟩:=d1.ls e;obtain⟨z,h3,h4⟩:=ds.atI h1;exact⟨p,xs,_,z,rfl,d2.int,SqL.of hp,h3,q _ _ _ h2 e.refl h4⟩
 ·exact h.elim
def aV4{K:Ac}:O2 (aXe K) bAp:=λ{W B H u v x y R Q} e d1 d2 h q=>by
 unfold bAp at h;split at h
 ·obtain⟨w,h1,h2⟩:=h;obtain⟨p,xs,rfl,_,hp,ds⟩:=d1.tp;obtain⟨z,h3,h4⟩:=ds.atI h1;exact⟨p,xs,_,z,rfl,d2.int,SqT.of hp,h3,q _ _ _ h2 e.refl h4⟩
 ·exact h.elim
mutual
def U.d:U->D
 |.v x=> .fl x
 |.tp l=> .tp (U.ds l)
 |.ls l=> .ls (U.ds l)
 |_=> .fl .non
def U.ds:List U->List D
 | []=>[]
 |u::l=>U.d u::U.ds l
end
mutual
def U.dt:Nat->U->Prop
 |_,.v _=>True
 |n+1,.tp l=>U.dts n l
 |n+1,.ls l=>U.dts n l
 |_,_=>False
def U.dts:Nat->List U->Prop
 |_,[]=>True
 |n,u::l=>U.dt n u/\U.dts n l
end
section
variable {W B:Addr->Prop}{H:Hp}{K:Ac}
mutual
theorem DU.den:∀(n:Nat)(u:U){v:V},u.dt n->DU W B H u v->Den K H u.d v
 |_,.v _,_,_,h=>h
 |n+1,.tp l,_,t,⟨p,xs,e,_,hp,ds⟩=>⟨p,xs,e,SqT.of hp,DUs.dens n l t ds⟩
 |n+1,.ls l,_,t,⟨p,xs,e,_,hp,ds⟩=>⟨p,xs,e,SqL.of hp,DUs.dens n l t ds⟩
theorem DUs.dens:∀(n:Nat)(l:List U){xs:List V},U.dts n l->DUs W B H l xs->wW K H (U.ds l) xs
 |_,[],_,_,h=>h
 |n,u::l,_,⟨t,t'⟩,⟨x,r,e,h,h'⟩=>⟨x,r,e,DU.den n u t h,DUs.dens n l t' h'⟩
end
mutual
theorem U.dep:∀(n:Nat)(u:U),u.dt n->u.d.dep<=n
 |_,.v _,_=>Ay _
 |n+1,.tp l,t=>Mg (U.deps n l t)
 |n+1,.ls l,t=>Mg (U.deps n l t)
theorem U.deps:∀(n:Nat)(l:List U),U.dts n l->D.deps (U.ds l)<=n
 |_,[],_=>Ay _
 |n,u::l,⟨t,t'⟩=>Nat.max_le.mpr ⟨U.dep n u t,U.deps n l t'⟩
end
def DB.den{n:Nat}{u:U}(t:u.dt n)(h:DB W B H u v):Den K H u.d v:=by
 rcases h with h|⟨l,p,xs,rfl,rfl,w,h1,h2⟩
 ·exact DU.den n u t h
 ·match n,t with
  |n+1,t=>exact⟨p,xs,rfl,SqL.of h1,DUs.dens n l t h2⟩
end
def U.eq(u v:U):Bool:=u.d.eq v.d
def gEq(neg:Bool):U->U->(Sl->Prop)->Prop:=λu v R=>u.dt 40/\v.dt 40/\R (.sh (.b (if neg then !u.eq v else u.eq v)))
def lG{K:Ac}{neg:Bool}:O2 (aX2 K neg) (gEq neg):=λ{W B H u v x y R Q} e d1 d2 ⟨t1,t2,h⟩ q=>by
 have h1:=U.dep 40 u t1;have h2:=U.dep 40 v t2;exact⟨u.d,v.d,d1.den t1,d2.den t2,∅,q _ _ _ h e.refl ⟨rfl,rfl⟩⟩
structure aF4 where
 nx:EV->Prop
 rt:Sl->Prop
 bk:EV->Prop:=λ_=>False
 ct:EV->Prop:=λ_=>False
 mr:EV->U->Prop:=λ_ _=>False
abbrev TVS:=aF4->EV->Prop
def Bx(B:Addr->Prop)(A:Nat->Addr->Prop)(p:Addr):Prop:=B p∨∃i,A i p
def Sl.brd:Sl->Bool
 |.br _=>true
 |.bo _=>true
 |_=>false
structure EO(W B:Addr->Prop)(H0:Hp)(A:Nat->Addr->Prop)(ρ:EV)(σ:St)(H:Hp):Prop where
 eb:EB W B H0
 fw:Fw W H0 H
 len:ρ.length=σ.length
 an:∀i p,A i p->H0 p=none
 aw:∀i p,A i p->∃o,H p=some o/\Mt o
 inj:∀i j p,A i p->A j p->i=j
 sh:∀(i:Nat)(u:U),ρ[i]? =some (Sl.sh u)->∃v,σ[i]? =some (some v)/\DU W (Bx B A) H u v
 hd:∀(i:Nat)(s:Sl)(w:Own),ρ[i]? =some s->s.hold=some w->∃p,σ[i]? =some (some (V.ref p))/\w.φ W (Bx B A) (A i) H p
 nb:∀(i:Nat)(s:Sl),ρ[i]? =some s->s.brd=false
def EO.ow{W B:Addr->Prop}{H0 H:Hp}{A:Nat->Addr->Prop}{ρ:EV}{σ:St}(o:EO W B H0 A ρ σ H)(i:Nat)(l:List U)(h:ρ[i]? =some (Sl.ow l)):∃p xs,σ[i]? =some (some (V.ref p))/\(∀b,A i b↔b=p)/\H p=some (.lst xs)/\DUs W (Bx B A) H l xs:=let⟨p,h1,h2,xs,h3⟩:=o.hd i _ _ h rfl;⟨p,xs,h1,h2,h3⟩
structure bBo(W B:Addr->Prop)(H0:Hp)(E:aF4)(D:Ends):Prop where
 nx:∀{A ρ σ H},EO W B H0 A ρ σ H->E.nx ρ->D.nx σ H
 bk:∀{A ρ σ H},EO W B H0 A ρ σ H->E.bk ρ->D.bk σ H
 ct:∀{A ρ σ H},EO W B H0 A ρ σ H->E.ct ρ->D.ct σ H
 rt:∀{s v H},Fw W H0 H->RO W B H0 H s v->E.rt s->D.rt v H
 mr:∀{A ρ σ H u v},EO W B H0 A ρ σ H->DU W (Bx B A) H u v->E.mr ρ u->D.rt v H
def VTs(t:TS)(G:TVS):Prop:=∀{W B:Addr->Prop}{H0:Hp}{A:Nat->Addr->Prop}{ρ:EV}{σ:St}{H:Hp}{E:aF4}{D:Ends},EO W B H0 A ρ σ H->G E ρ->bBo W B H0 E D->t D σ H
def VS(X:Cx)(st:Stmt)(G:TVS):Prop:=∃t,PS X st t/\VTs t G
def VSs(X:Cx)(st:List Stmt)(G:TVS):Prop:=∃t,PSs X st t/\VTs t G
section
variable {W B:Addr->Prop}{H0 H H1:Hp}{A:Nat->Addr->Prop}{ρ:EV}{σ:St}
def EO.now(o:EO W B H0 A ρ σ H)(h:H0 p=none):¬B p:=λz=>o.eb.dm p z h
def EO.awn(o:EO W B H0 A ρ σ H)(h:A i p):H p≠none:=λn=>by
 obtain⟨xs,q,_⟩:=o.aw i p h;rw[q]at n;cases n
def EO.nw(o:EO W B H0 A ρ σ H)(h:A i p):¬W p:=λz=>o.now (o.an i p h) (o.eb.wb p z)
def EO.ee(o:EO W B H0 A ρ σ H):EE W (Bx B A) H ρ σ:=
 ⟨⟨λp h=>h.elim ((o.eb.to o.fw).bl p) λ⟨i,h⟩=>o.aw i p h,λp w=> .inl (o.eb.wb p w),o.fw.wo⟩,o.len,o.sh,λi s w h hs=>let⟨p,h1,h3⟩:=o.hd i s w h hs;⟨p,_,h1,λ_=>o.nw,h3⟩⟩
def EO.to(o:EO W B H0 A ρ σ H)(f:Fw W H H1):EO W B H0 A ρ σ H1:=by
 have e:=o.ee;have e1:=e.to f;refine⟨o.eb,o.fw.trans f,o.len,o.an,λi p h=>e1.eb.bl p (.inr ⟨i,h⟩),o.inj,e1.sh,λi s w h hs=>?_,o.nb⟩;obtain⟨p,h1,h3⟩:=o.hd i s w h hs;exact⟨p,h1,w.to e.eb f (λ_=>o.nw) h3⟩
def cW{l:List α}{i j:Nat}{x y:α}(h:(l.set i x)[j]? =some y):(j=i/\y=x/\i<l.length)∨(j≠i/\l[j]? =some y):=by
 rw[Ld]at h;split at h
 ·rename_i e;split at h
  ·cases h;exact .inl ⟨e.symm,rfl,by assumption⟩
  ·cases h
 ·rename_i e;exact .inr ⟨λz=>e z.symm,h⟩
def get_set{l:List α}{x:α}(h:i<l.length):(l.set i x)[i]? =some x:=by rw[Ld];simp[h]
def eV{l:List α}{i j:Nat}{x:α}(h:j≠i):(l.set i x)[j]? =l[j]? :=by rw[Ld,if_neg (Cy h)]
def EO.kp:∀b o,¬Bx B A b->H b=some o->¬Bx B (λj q=>j≠i/\A j q) b/\H b=some o:=λb o n h=>⟨λz=>n (z.elim .inl λ⟨j,h⟩=> .inr ⟨j,h.2⟩),h⟩
def Own.at_(w:Own){S T:Addr->Prop}(h:w.φ W B S H p)(e:∀b,T b↔S b):w.φ W B T H p:=by
 rw[show T=S from funext λb=>propext (e b)];exact h
def aG8{i j:Nat}(n:j≠i):∀b,(j≠i/\A j b)↔A j b:=λ_=>⟨λh=>h.2,λh=>⟨n,h⟩⟩
def EO.setSh(o:EO W B H0 A ρ σ H){u:U}(d:DU W (Bx B A) H u v):EO W B H0 (λj q=>j≠i/\A j q) (ρ.set i (.sh u)) (σ.set i (some v)) H:=by
 refine⟨o.eb,o.fw,by rw[Cm,Cm,o.len],λj p h=>o.an j p h.2,λj p h=>o.aw j p h.2,λj j' p h h'=>o.inj j j' p h.2 h'.2,λj u' h=>?_,λj s w h hs=>?_,λj s h=>?_⟩
 ·rcases cW h with ⟨rfl,e,hl⟩|⟨ne,h⟩
  ·cases e;exact⟨v,get_set (o.len▸hl),DU.mono EO.kp u d⟩
  ·obtain⟨v',h1,h2⟩:=o.sh j u' h;exact⟨v',by rw[eV ne];exact h1,DU.mono EO.kp u' h2⟩
 ·rcases cW h with ⟨rfl,rfl,hl⟩|⟨ne,h⟩
  ·cases hs
  ·obtain⟨p,h1,h3⟩:=o.hd j s w h hs;exact⟨p,by rw[eV ne];exact h1,w.at_ (w.mono EO.kp (λ_ _=>rfl) h3) (aG8 ne)⟩
 ·rcases cW h with ⟨rfl,rfl,hl⟩|⟨ne,h⟩
  ·rfl
  ·exact o.nb j s h
def EO.setOo(o:EO W B H0 A ρ σ H)(f:Fw W H H1){s:Sl}{w:Own}(hs:s.hold=some w)(hb:s.brd=false)(n:∀b,S b->H b=none)(d:w.φ W (λb=>Bx B A b∨S b) S H1 p):
  EO W B H0 (λj q=>(j=i/\S q)∨(j≠i/\A j q)) (ρ.set i s) (σ.set i (some (.ref p))) H1:=by
 have o1:=o.to f;have k0:∀b o,¬(Bx B A b∨S b)->H1 b=some o->¬Bx B (λj q=>(j=i/\S q)∨(j≠i/\A j q)) b/\H1 b=some o:=λb o n h=>⟨λz=>n (z.elim (λz=> .inl (.inl z)) λ⟨j,h⟩=>h.elim (λz=> .inr z.2) λz=> .inl (.inr ⟨j,z.2⟩)),h⟩;have k:∀b o,¬Bx B A b->H b=some o->¬Bx B (λj q=>(j=i/\S q)∨(j≠i/\A j q)) b/\H1 b=some o:=λb x nb h=>k0 b x (λz=>z.elim nb λz=>by rw[n b z]at h;cases h) (o.ee.eb.keep f b x nb h).2;refine⟨o.eb,o1.fw,by rw[Cm,Cm,o.len],λj q h=>?_,λj q h=>?_,λj j' q h h'=>?_,λj u' h=>?_,λj s' w' h hs'=>?_,λj s' h=>?_⟩
 ·rcases h with ⟨_,h⟩|⟨_,h⟩
  ·exact o.fw.none_ (n q h)
  ·exact o.an j q h
 ·rcases h with ⟨_,h⟩|⟨_,h⟩
  ·exact w.th d q h
  ·exact o1.aw j q h
 ·rcases h with ⟨e1,e2⟩|⟨_,h⟩
  ·rcases h' with ⟨e3,_⟩|⟨_,h'⟩
   ·rw[e1,e3]
   ·exact(o.awn h' (n q e2)).elim
  ·rcases h' with ⟨_,e3⟩|⟨_,h'⟩
   ·exact(o.awn h (n q e3)).elim
   ·exact o.inj j j' q h h'
 ·rcases cW h with ⟨rfl,rfl,hl⟩|⟨ne,h⟩
  ·cases hs
  ·obtain⟨v',h1,h2⟩:=o.sh j u' h;exact⟨v',by rw[eV ne];exact h1,DU.mono k u' h2⟩
 ·rcases cW h with ⟨rfl,rfl,hl⟩|⟨ne,h⟩
  ·rw[hs]at hs';cases hs';exact⟨p,get_set (o.len▸hl),w.at_ (w.mono k0 (λ_ _=>rfl) d) λb=>⟨λh=>h.elim (λh=>h.2) λh=>absurd rfl h.1,λh=> .inl ⟨rfl,h⟩⟩⟩
  ·obtain⟨q,h1,h3⟩:=o.hd j s' w' h hs';exact⟨q,by rw[eV ne];exact h1,w'.at_ (w'.mono k (λb hb=>let⟨x,hx,_⟩:=w'.th h3 b hb;(f.fr b x (o.nw hb) hx).trans hx.symm) h3) λb=>⟨λh=>h.elim (λh=>absurd h.1 ne) λh=>h.2,λh=> .inr ⟨ne,h⟩⟩⟩
 ·rcases cW h with ⟨rfl,rfl,hl⟩|⟨ne,h⟩
  ·exact hb
  ·exact o.nb j s' h
def EO.setOw(o:EO W B H0 A ρ σ H)(f:Fw W H H1){l:List U}(n:H p=none)(hp:H1 p=some (.lst xs))(d:DUs W (λb=>Bx B A b∨b=p) H1 l xs):
  EO W B H0 (λj q=>(j=i/\q=p)∨(j≠i/\A j q)) (ρ.set i (.ow l)) (σ.set i (some (.ref p))) H1:=o.setOo f (s:=.ow l) (S:=(·=p)) rfl rfl (λb hb=>by rw[hb];exact n) ⟨λ_=>Ls,xs,hp,d⟩
end
section
variable {W B:Addr->Prop}{H0 H H1:Hp}{A:Nat->Addr->Prop}{ρ:EV}{σ:St}
def EO.chg(o:EO W B H0 A ρ σ H){s':Sl}{w':Own}{x:HO}{p q:Addr}(hg:σ[i]? =some (some (V.ref p)))(hq:A i q)(hs':s'.hold=some w')(hb:s'.brd=false)(d:w'.φ W (Bx B A) (A i) (upd H q x) p):EO W B H0 A (ρ.set i s') σ (upd H q x):=by
 have k:∀b y,¬Bx B A b->H b=some y->¬Bx B A b/\upd H q x b=some y:=λb y n h=>⟨n,(aP (λz:b=q=>n (by rw[z];exact .inr ⟨i,hq⟩))).trans h⟩;refine⟨o.eb,⟨λb y w h=>?_,λr hr=>?_⟩,by rw[Cm,o.len],o.an,λj r h=>?_,o.inj,λj u h=>?_,λj m v h hm=>?_,λj m h=>?_⟩
 ·rw[aP (aQ h (o.an i q hq))];exact o.fw.fr b y w h
 ·obtain⟨x,y,z,h⟩:=o.fw.wo r hr;exact⟨x,y,z,(aP (λe:r=q=>o.nw hq (by rw[<-e];exact hr))).trans h⟩
 ·by_cases e:r=q
  ·rw[e];exact w'.th d q hq
  ·rw[aP e];exact o.aw j r h
 ·rcases cW h with ⟨rfl,rfl,hl⟩|⟨ne,h⟩
  ·cases hs'
  ·obtain⟨v',h1,h2⟩:=o.sh j u h;exact⟨v',h1,DU.mono k u h2⟩
 ·rcases cW h with ⟨rfl,rfl,hl⟩|⟨ne,h⟩
  ·rw[hs']at hm;cases hm;exact⟨p,hg,d⟩
  ·obtain⟨r,h1,h3⟩:=o.hd j m v h hm;exact⟨r,h1,v.mono k (λb hb=>aP (λe:b=q=>ne (o.inj j i q (by rw[<-e];exact hb) hq))) h3⟩
 ·rcases cW h with ⟨rfl,rfl,hl⟩|⟨ne,h⟩
  ·exact hb
  ·exact o.nb j m h
def EO.own(o:EO W B H0 A ρ σ H){l':List U}{xs':List V}(hg:σ[i]? =some (some (V.ref p)))(hp:∀b,A i b↔b=p)(d:DUs W (Bx B A) H l' xs'):EO W B H0 A (ρ.set i (.ow l')) σ (upd H p (.lst xs')):=
 o.chg hg ((hp p).mpr rfl) (s':=.ow l') rfl rfl ⟨hp,xs',aJ,DUs.mono (λb y n h=>⟨n,(aP (λz:b=p=>n (by rw[z];exact .inr ⟨i,(hp p).mpr rfl⟩))).trans h⟩) l' d⟩
def EO.frz(o:EO W B H0 A ρ σ H){i:Nat}{s:Sl}{w:Own}{u:U}(hi:ρ[i]? =some s)(hs:s.hold=some w)(hu:∀{W B S H p},(∀b,S b->¬B b)->w.φ W B S H p->DU W B H u (.ref p)):EO W B H0 (λj q=>j≠i/\A j q) (ρ.set i (.sh u)) σ H:=by
 refine⟨o.eb,o.fw,by rw[Cm,o.len],λj p h=>o.an j p h.2,λj p h=>o.aw j p h.2,λj j' p h h'=>o.inj j j' p h.2 h'.2,λj u' h=>?_,λj m v h hm=>?_,λj m h=>?_⟩
 ·rcases cW h with ⟨rfl,e,hl⟩|⟨ne,h⟩
  ·cases e;obtain⟨p,h1,h3⟩:=o.hd j s w hi hs;exact⟨_,h1,hu (λb hb z=>z.elim (o.now (o.an j b hb)) λ⟨j',h⟩=>h.1 (o.inj j' j b h.2 hb)) (w.mono EO.kp (λ_ _=>rfl) h3)⟩
  ·obtain⟨v',h1,h2⟩:=o.sh j u' h;exact⟨v',h1,DU.mono EO.kp u' h2⟩
 ·rcases cW h with ⟨rfl,rfl,hl⟩|⟨ne,h⟩
  ·cases hm
  ·obtain⟨p,h1,h3⟩:=o.hd j m v h hm;exact⟨p,h1,v.at_ (v.mono EO.kp (λ_ _=>rfl) h3) (aG8 ne)⟩
 ·rcases cW h with ⟨rfl,rfl,hl⟩|⟨ne,h⟩
  ·rfl
  ·exact o.nb j m h
def bAl{l:List U}:∀{W B S H p},(∀b,S b->¬B b)->(lsO l).φ W B S H p->DU W B H (.ls l) (.ref p):=λn ⟨s,xs,h,d⟩=>⟨_,xs,rfl,n _ ((s _).mpr rfl),h,d⟩
def bA9{w:Own}:∀{W B S H p},(∀b,S b->¬B b)->w.φ W B S H p->DU W B H (.op w.fz) (.ref p):=λn h=>⟨_,_,rfl,n,h⟩
structure Rb(W:Addr->Prop)(H0 H1:Hp):Prop where
 le:∀b o,¬W b->H0 b=some o->H1 b=some o
 no:∀p,H1 p=none->H0 p=none
def EO.un{H0':Hp}(o:EO W B H0' A ρ σ H)(e:EB W B H0)(r:Rb W H0 H0'):EO W B H0 A ρ σ H:=
 ⟨e,⟨λb x w h=>o.fw.fr b x w (r.le b x w h),o.fw.wo⟩,o.len,λi p h=>r.no p (o.an i p h),o.aw,o.inj,o.sh,o.hd,o.nb⟩
def RO.un{H0':Hp}{s:Sl}(r:Rb W H0 H0')(h:RO W B H0' H s v):RO W B H0 H s v:=by
 match s,h with
 |.sh u,h=>exact h
 |.ow l,⟨p,xs,e1,n1,h2,h3⟩=>exact⟨p,xs,e1,r.no p n1,h2,h3⟩
 |.br l,h=>exact h
 |.oo w,⟨p,S,e1,n1,h⟩=>exact⟨p,S,e1,λb hb=>r.no b (n1 b hb),h⟩
 |.bo w,h=>exact h
open Classical in
def EO.reb(o:EO W B H0 A ρ σ H):∃H0',EO W B H0' A ρ σ H/\Rb W H0 H0'/\∀b x,(¬ ∃i,A i b)->H b=some x->H0' b=some x:=by
 refine⟨λb=>if∃i,A i b then none else H b,?_,?_,λb x n h=>(if_neg n).trans h⟩
 ·have nb:∀p,B p->¬ ∃i,A i p:=λp hp ⟨i,h⟩=>o.now (o.an i p h) hp;refine⟨⟨λp hp=>by rw[if_neg (nb p hp)];exact o.ee.eb.bl p (.inl hp),o.eb.wb,λp hp=>?_⟩,⟨λb x w h=>?_,o.fw.wo⟩,o.len,λi p h=>if_pos ⟨i,h⟩,o.aw,o.inj,o.sh,o.hd,o.nb⟩
  ·obtain⟨x,y,z,h⟩:=o.fw.wo p hp;exact⟨x,y,z,(if_neg (nb p (o.eb.wb p hp))).trans h⟩
  ·split at h
   ·cases h
   ·exact h
 ·refine⟨λb x w h=>?_,λp h=>?_⟩
  ·refine(if_neg λ⟨i,q⟩=>?_).trans (o.fw.fr b x w h);rw[o.an i b q]at h;cases h
  ·split at h
   ·rename_i q;obtain⟨i,q⟩:=q;exact o.an i p q
   ·cases q:H0 p with
    |none=>rfl
    |some x=>
     by_cases w:W p
     ·obtain⟨_,_,_,z⟩:=o.fw.wo p w;rw[z]at h;cases h
     ·rw[o.fw.fr p x w q]at h;cases h
end
def bCg(t u:TVS):TVS:=λE ρ=>t {E with nx:=u E} ρ
def bAg:TVS:=λE ρ=>E.nx ρ
def vIf(c:TVc)(t u:TVS):TVS:=λE ρ=>c ρ λb=>(b=true->t E ρ)/\(b=false->u E ρ)
def aZ5(i:Nat)(ρ:EV)(k:EV->Prop):Sl->Prop
 |.sh u=>k (ρ.set i (.sh u))
 |.ow l=>k (ρ.set i (.ow l))
 |.oo w=>k (ρ.set i (.oo w))
 |_=>False
def aZj(i:Nat)(F:TV):TVS:=λE ρ=>F ρ (aZ5 i ρ E.nx)
def bBj(F:TV):TVS:=λE ρ=>F ρ λs=>match s with
 |.br _=>False
 |.bo _=>False
 |s=>E.rt s
def aPw(i:Nat):TVS:=λE ρ=>match (ρ[i]? :Option Sl)with
 |some (.sh u)=>E.rt (.sh u)
 |some (.ow l)=>E.rt (.ow l)
 |some (.oo w)=>E.rt (.oo w)
 |_=>False
def vDo(F:TV):TVS:=λE ρ=>F ρ λ_=>E.nx ρ
def bAk(i:Nat)(G:TVS):TVS:=λE ρ=>match (ρ[i]? :Option Sl)with
 |some (.ow l)=>G E (ρ.set i (.sh (.ls l)))
 |some (.oo w)=>G E (ρ.set i (.sh (.op w.fz)))
 |_=>G E ρ
def aYp(i:Nat)(F:TV):TVS:=λE ρ=>match (ρ[i]? :Option Sl)with
 |some (.ow l)=>l.length<10000/\F ρ λs=>s.es λu=>E.nx (ρ.set i (.ow (l++[u])))
 |_=>False
def aV1(i:Nat)(F:TV):TVS:=λE ρ=>match (ρ[i]? :Option Sl)with
 |some (.ow l)=>F ρ λs=>match s.rd with
  |.ls m=>l.length+m.length<10000/\E.nx (ρ.set i (.ow (l++m)))
  |_=>False
 |_=>False
abbrev TVg:=U->EV->(EV->Prop)->Prop
def VTg(g:TG)(G:TVg):Prop:=∀{W B:Addr->Prop}{H0:Hp}{A:Nat->Addr->Prop}{ρ:EV}{σ:St}{H:Hp}{u:U}{v:V}{k:EV->Prop}{Q:St->Hp->Prop},EO W B H0 A ρ σ H->DU W (Bx B A) H u v->G u ρ k->(∀A' ρ' σ',EO W B H0 A' ρ' σ' H->k ρ'->Q σ' H)->g v σ H Q
def VG(X:Cx)(tg:Expr)(G:TVg):Prop:=∃g,PG X tg g/\VTg g G
def bB1(g:TGs)(is:List Nat):Prop:=∀{W B:Addr->Prop}{H0:Hp}{A:Nat->Addr->Prop}{ρ:EV}{σ:St}{H:Hp}{us:List U}{vs:List V}{k:EV->Prop}{Q:St->Hp->Prop},EO W B H0 A ρ σ H->DUs W (Bx B A) H us vs->us.length=is.length->k ((is.zip us).foldl (λρ x=>ρ.set x.1 (.sh x.2)) ρ)->(∀A' ρ' σ',EO W B H0 A' ρ' σ' H->k ρ'->Q σ' H)->g vs σ H Q
def VGs(X:Cx)(es:List Expr)(is:List Nat):Prop:=∃g,PGs X es g/\bB1 g is
def uB(i:Nat):TVg:=λu ρ k=>k (ρ.set i (.sh u))
def aUs(is:List Nat):TVg:=λu ρ k=>match u with
 |.tp us=>us.length=is.length/\k ((is.zip us).foldl (λρ x=>ρ.set x.1 (.sh x.2)) ρ)
 |_=>False
def mX(g:TVg)(b:TVS)(E:aF4):List U->EV->Prop
 | [],ρ=>E.nx ρ
 |u::r,ρ=>g u ρ λρ1=>b {E with nx:=mX g b E r,ct:=mX g b E r,bk:=E.nx} ρ1
def bB4(g:TVg)(F:TVa)(b:TVS):TVS:=λE ρ=>F ρ λl=>mX g b E l ρ
def bB9(g:TVg)(F:TV):TVS:=λE ρ=>F ρ λs=>s.es λu=>g u ρ E.nx
def bN:VSs X [] bAg:=⟨_,cC,λo h i=>i.nx o h⟩
def aF{st:Stmt}{G:TVS}(h:VS X st G):VSs X [st] G:=let⟨_,p,f⟩:=h;⟨_,aR p,f⟩
def aD{st:Stmt}{rest:List Stmt}{F G:TVS}(h:VS X st F)(h':VSs X rest G):VSs X (st::rest) (bCg F G):=
 let⟨_,p,f⟩:=h;let⟨_,p',f'⟩:=h';⟨_,aK p p',λo h i=>f o h ⟨λo1 h1=>f' o1 h1 i,i.bk,i.ct,i.rt,i.mr⟩⟩
def lR{st:List Stmt}{G:TVS}(i:Nat)(h:VSs X st G):VSs X st (bAk i G):=let⟨_,p,f⟩:=h;⟨_,p,λo h j=>by
 unfold bAk at h;split at h
 ·rename_i hi;exact f (o.frz hi rfl bAl) h j
 ·rename_i hi;exact f (o.frz hi rfl bA9) h j
 ·exact f o h j⟩
def dF{a b:List Stmt}{C:TVc}{F G:TVS}(hc:VC X c C)(ha:VSs X a F)(hb:VSs X b G):VS X (.If c a b pos) (vIf C F G):=
 let⟨_,p,f⟩:=hc;let⟨_,p1,f1⟩:=ha;let⟨_,p2,f2⟩:=hb;⟨_,fD p p1 p2,λo h i=>f o.ee h λc H1 h1 w=>by
  cases c with
  |true=>exact aGf (f1 (o.to w) (h1.1 rfl) i)
  |false=>exact qK (f2 (o.to w) (h1.2 rfl) i)⟩
def aN3{W B:Addr->Prop}{H0 H H1:Hp}{A:Nat->Addr->Prop}{ρ:EV}{σ:St}{s:Sl}{k:EV->Prop}{Q:St->Hp->Prop}(o:EO W B H0 A ρ σ H)(f:Fw W H H1)(r:RO W (Bx B A) H H1 s v)(h:aZ5 i ρ k s)(q:∀{A' ρ' σ'},EO W B H0 A' ρ' σ' H1->k ρ'->Q σ' H1):Q (σ.set i (some v)) H1:=by
 match s,r,h with
 |.sh u,r,h=>exact q ((o.to f).setSh r) h
 |.ow l,⟨p,xs,e1,h1,h2,h3⟩,h=>
  subst e1;exact q (o.setOw f h1 h2 h3) h
 |.oo w,⟨p,S,e1,h1,h2⟩,h=>
  subst e1;exact q (o.setOo f (s:=.oo w) rfl rfl h1 h2) h
def bA{e:Expr}{pos pos':Pos}{F:TV}(hN:X.N.Nodup)(he:VE X e F)(hi:X.N[i]? =some x:=by rfl)(hx:Loc X.env.scope x:=by first|exact Cw rfl|exact Eb rfl)(hs:swapsWith e (some (.Name x pos')) pos.line X.env=pure false:=by rfl)(hf:FL X x:=by trivial):
  VS X (.Assign [.Name x pos'] e pos) (aZj i F):=
 let⟨_,p,f⟩:=he;⟨_,iB hN hi hx p hs hf,λo h j=>f o.ee h λs v H1 h1 w r=>aN3 o w r h1 j.nx⟩
def aY{e:Expr}{F:TV}(he:VE X e F):VS X (.Return (some e) pos) (bBj F):=
 let⟨_,p,f⟩:=he;⟨_,cV p,λ{W B H0 A ρ σ H E D} o h j=>f o.ee h λs v H1 h1 w r=>by
  have fw:=o.fw.trans w;have less:∀{H:Hp} b(x:HO),¬Bx B A b->H b=some x->¬B b/\H b=some x:=λb x n h=>⟨λz=>n (.inl z),h⟩;match s,h1,r with
  |.sh u,h1,r=>exact j.rt fw (s:=.sh u) (DU.mono less u r) h1
  |.ow l,h1,⟨p,xs,e1,h2,h3,h4⟩=>
   refine j.rt fw (s:=.ow l) ?_ h1;exact RO.back (s:=.ow l) o.fw ⟨p,xs,e1,h2,h3,DUs.mono (λb x n h=>⟨λz=>n (z.elim (λz=> .inl (.inl z)) .inr),h⟩) l h4⟩
  |.oo w,h1,⟨p,S,e1,h2,h3⟩=>
   refine j.rt fw (s:=.oo w) ?_ h1;exact RO.back (s:=.oo w) o.fw ⟨p,S,e1,h2,w.mono (λb x n h=>⟨λz=>n (z.elim (λz=> .inl (.inl z)) .inr),h⟩) (λ_ _=>rfl) h3⟩
  |.no,_,r=>exact r.elim⟩
def eU{pos p':Pos}(i:Nat)(hN:X.N[i]? =some x:=by rfl)(hv:Vis X.env.scope x:=by trivial)(hd:ND x:=by decide)
  (hcd:NC x:=by decide):VS X (.Return (some (.Name x p')) pos) (aPw i):=⟨_,cV (iZ hN hv hd hcd),λ{W B H0 A ρ σ H E D} o h j=>by
 unfold aPw at h;have less:∀{H:Hp} b(x:HO),¬Bx B A b->H b=some x->¬B b/\H b=some x:=λb x n h=>⟨λz=>n (.inl z),h⟩;split at h
 ·rename_i u hs;obtain⟨v,h1,h2⟩:=o.sh i u hs;exact⟨v,h1,j.rt (s:=.sh u) o.fw (DU.mono less u h2) h⟩
 ·rename_i l hs;obtain⟨p,xs,h1,h2,h3,h4⟩:=o.ow i l hs;exact⟨_,h1,j.rt (s:=.ow l) o.fw ⟨p,xs,rfl,o.an i p ((h2 p).mpr rfl),h3,DUs.mono (λb x n h=>⟨λz=>n (z.elim .inl λe=> .inr ⟨i,(h2 b).mpr e⟩),h⟩) l h4⟩ h⟩
 ·rename_i w hs;obtain⟨p,h1,h3⟩:=o.hd i _ w hs rfl;exact⟨_,h1,j.rt (s:=.oo w) o.fw ⟨p,_,rfl,o.an i,w.mono (λb x n h=>⟨λz=>n (z.elim .inl λe=> .inr ⟨i,e⟩),h⟩) (λ_ _=>rfl) h3⟩ h⟩
 ·exact h.elim⟩
def aD9{p' apos cpos pos:Pos}{F:TV}(i:Nat)(ha:VE X a F)(hN:X.N[i]? =some x:=by rfl)(hv:Vis X.env.scope x:=by trivial)(hd:ND x:=by decide)
  (hcd:NC x:=by decide)
  (hbase:attributeBase (.Name x p') "append" X.env (eval (.Name x p') X.env)=eval (.Name x p') X.env:=by rfl)
  (hfew:((backTo cpos (starEach [a] X.env)).all (λx=> !x.1) && (backToKw cpos (keywordEach [] X.env)).all (λx=>x.1.isSome)
   && decide ([a].length+([]:List Keyword).length+(if([]:List Keyword).isEmpty then 0 else 1)<30))=true:=by rfl)
  (hline:EL apos cpos:=by rfl) (hs:SE X a []:=by rfl) (hplain:BT X cpos []:=by rfl)
  (hsw:swapsWith (.Call (.Attribute (.Name x p') "append" apos) [a] [] cpos) none pos.line X.env=pure false:=by rfl):
  VS X (.Expr (.Call (.Attribute (.Name x p') "append" apos) [a] [] cpos) pos) (aYp i F):=
 let⟨_,p,f⟩:=ha;⟨_,cQ (vW De Gf Ge oO (iZ hN hv hd hcd) (aM p aZ hs) hbase hfew hline hs hplain) hsw,λ{W B H0 A ρ σ H E D} o h j=>by
  unfold aYp at h;split at h
  ·rename_i l hi;obtain⟨q,xs,h1,h2,h3,h4⟩:=o.ow i l hi;refine⟨_,h1,.inl ⟨rfl,_,SqL.of h3⟩,f o.ee h.2 λs v H1 h5 w r=>?_⟩;obtain⟨u,h6,d⟩:=r.du o.ee.eb h5;have o1:=o.to w;obtain⟨q',ys,g1,g2,g3,g4⟩:=o1.ow i l hi;rw[h1]at g1;cases g1;refine⟨q,ys,v,rfl,rfl,g3,?_,j.nx (o1.own h1 h2 (g4.app (DUs.one d))) h6⟩;have:=g4.length;have:(10000:Nat)<=sizeLine:=by decide
   lia
  ·exact h.elim⟩
def aOy{p' apos cpos pos:Pos}{F:TV}(i:Nat)(ha:VE X a F)(hN:X.N[i]? =some x:=by rfl)(hv:Vis X.env.scope x:=by trivial)(hd:ND x:=by decide)
  (hcd:NC x:=by decide)
  (hbase:attributeBase (.Name x p') "extend" X.env (eval (.Name x p') X.env)=eval (.Name x p') X.env:=by rfl)
  (hfew:((backTo cpos (starEach [a] X.env)).all (λx=> !x.1) && (backToKw cpos (keywordEach [] X.env)).all (λx=>x.1.isSome)
   && decide ([a].length+([]:List Keyword).length+(if([]:List Keyword).isEmpty then 0 else 1)<30))=true:=by rfl)
  (hline:EL apos cpos:=by rfl) (hs:SE X a []:=by rfl) (hplain:BT X cpos []:=by rfl)
  (hsw:swapsWith (.Call (.Attribute (.Name x p') "extend" apos) [a] [] cpos) none pos.line X.env=pure false:=by rfl):
  VS X (.Expr (.Call (.Attribute (.Name x p') "extend" apos) [a] [] cpos) pos) (aV1 i F):=
 let⟨_,p,f⟩:=ha;⟨_,cQ (vW De PySem.F.slot_list_extend PySem.F.type_list_extend aMe (iZ hN hv hd hcd) (aM p aZ hs) hbase hfew hline hs hplain) hsw,λ{W B H0 A ρ σ H E D} o h j=>by
  unfold aV1 at h
  split at h
  ·rename_i l hi
   obtain⟨q,xs,h1,h2,h3,h4⟩:=o.ow i l hi
   refine⟨_,h1,.inl ⟨rfl,_,SqL.of h3⟩,f o.ee h λs v H1 h5 w r=>?_⟩
   have d:=r.db o.ee.eb
   revert h5 d
   generalize s.rd=u
   intro h5 d
   split at h5<;>try exact h5.elim
   rename_i m
   have o1:=o.to w
   obtain⟨q',ys,g1,g2,g3,g4⟩:=o1.ow i l hi
   rw[h1]at g1
   cases g1
   obtain⟨b,zs,rfl,_,b2,b3⟩:=d.ls (o.ee.to w).eb
   refine⟨q,b,ys,zs,rfl,rfl,g3,b2,?_,j.nx (o1.own h1 h2 (g4.app b3)) h5.2⟩
   have:=g4.length
   have:=b3.length
   have:(10000:Nat)<=sizeLine:=by decide
   lia
  ·exact h.elim⟩
def cX(hN:X.N.Nodup)(hi:X.N[i]? =some x:=by rfl)(hx:Loc X.env.scope x:=by first|exact Cw rfl|exact Eb rfl)(hf:FL X x:=by trivial):VG X (.Name x pos) (uB i):=
 ⟨_,bR hN hi hx hf,λo d h q=>q _ _ _ (o.setSh d) h⟩
def sU:VGs X [] []:=⟨_,zQ,λ{W B H0 A ρ σ H us vs k Q} o d l h q=>by
 match us,l with
 | [],_=>exact⟨d,q _ _ _ o h⟩⟩
def fG{is:List Nat}{es:List Expr}(hN:X.N.Nodup)(h2:VGs X es is)(hi:X.N[i]? =some x:=by rfl)(hx:Loc X.env.scope x:=by first|exact Cw rfl|exact Eb rfl)(hf:FL X x:=by trivial)
  (hs:(assignEach (.Name x pos::es) X.env).map (·.2)=assign (.Name x pos) X.env::(assignEach es X.env).map (·.2):=by rfl):VGs X (.Name x pos::es) (i::is):=
 let⟨_,p,f⟩:=h2;⟨_,mJ (bR hN hi hx hf) p hs,λ{W B H0 A ρ σ H us vs k Q} o d l h q=>by
  match us,d,l with
  |u::us,⟨v,r,e,d1,d2⟩,l=>
   refine⟨v,r,e,f (o.setSh (i:=i) d1) (DUs.mono (λb x n h=>⟨λz=>n (z.elim .inl λ⟨j,e⟩=> .inr ⟨j,e.2⟩),h⟩) us d2) (Es l) h q⟩⟩
def wO{es:List Expr}{c:Nat}{is:List Nat}{n:Nat}(hc:X.calm=true)(h:VGs X es is)(hl:is.length=n:=by rfl)(hn:(assignEach es X.env).length=n:=by rfl)(hst:(assignEach es X.env).findIdx? (·.1)=none:=by rfl):VG X (.Tuple es c pos) (aUs is):=
 let⟨_,p,f⟩:=h;⟨_,aDo hc p hn hst,λ{W B H0 A ρ σ H u v k Q} o d h q=>by
  match u,d,h with
  |.tp us,⟨a,xs,e,_,ha,ds⟩,⟨l,h⟩=>exact⟨a,xs,e,SqT.of ha,by rw[<-ds.length,l,hl],f o ds l h q⟩⟩
def aWu{tg e:Expr}{F:TV}{G:TVg}(he:VE X e F)(hg:VG X tg G)(hs:swapsWithSole [tg] e pos.line X.env=pure false:=by rfl)(hw:swappedStores [tg] e X.env=pure none:=by rfl)(h1:(assignEach [tg] X.env).map (·.2)=[assign tg X.env]:=by rfl):VS X (.Assign [tg] e pos) (bB9 G F):=
 let⟨_,p,f⟩:=he;let⟨_,p',f'⟩:=hg;⟨_,aHj p p' hs hw h1,λo h j=>f o.ee h λs v H1 h1 w r=>by
  obtain⟨u,h2,d⟩:=r.du o.ee.eb h1;exact f' (o.to w) d h2 λA' ρ' σ' o' h'=>j.nx o' h'⟩
abbrev Tr(B:Addr->Prop)(H1:Hp)(B2:Addr->Prop)(H2:Hp):Prop:=∀b o,¬B b->H1 b=some o->¬B2 b/\H2 b=some o
structure WkU(W B:Addr->Prop)(H1:Hp)(J:It)(l:List U):Prop where
 stop:∀{B2 H2},Tr B H1 B2 H2->J.stop l.length H2
 go:∀{B2 H2} i,Tr B H1 B2 H2->i<l.length->J.go i H2
 yld:∀{B2 H2}(i:Nat){x H' u},EB W B2 H2->Tr B H1 B2 H2->l[i]? =some u->J.yld i H2 x H'->Fw W H2 H'/\DU W B2 H' u x
def VTi(wi:TI)(F:TVa):Prop:=∀{W B:Addr->Prop}{ρ:EV}{σ:St}{H:Hp}{R:List U->Prop}{Q:It->Hp->Prop},EE W B H ρ σ->F ρ R->(∀l J H',R l->Fw W H H'->WkU W B H' J l->Q J H')->wi σ H Q
def VI(X:Cx)(tg iter:Expr)(F:TVa):Prop:=∃wi,PI X tg iter wi/\VTi wi F
def vLs(F:TV):TVa:=λρ R=>F ρ λs=>s.es λu=>match u with
 |.ls l=>R l
 |_=>False
def vTp(F:TV):TVa:=λρ R=>F ρ λs=>s.es λu=>match u with
 |.tp l=>R l
 |_=>False
def aR8{W B:Addr->Prop}{H:Hp}{K:Ac}{a:Addr}{l:List U}(nb:¬B a)(ha:H a=some (.lst xs))(ds:DUs W B H l xs):WkU W B H (Itl K a) l:=
 ⟨λt=>⟨xs,SqL.of (t a _ nb ha).2,by rw[ds.length];exact Am _⟩,λi t h=>⟨xs,xs[i]'(by rw[<-ds.length];exact h),SqL.of (t a _ nb ha).2,Aj _⟩,λi x H' u e t h y=>by
  obtain⟨rfl,y⟩:=y;obtain⟨x',h1,d⟩:=ds.get h;rw[y xs (SqL.of (t a _ nb ha).2)]at h1;cases h1;exact⟨e.refl,DU.mono t u d⟩⟩
def aVv{W B:Addr->Prop}{H:Hp}{K:Ac}{a:Addr}{l:List U}(nb:¬B a)(ha:H a=some (.tup xs))(ds:DUs W B H l xs):WkU W B H (Itt K a) l:=
 ⟨λt=>⟨xs,SqT.of (t a _ nb ha).2,by rw[ds.length];exact Am _⟩,λi t h=>⟨xs,xs[i]'(by rw[<-ds.length];exact h),SqT.of (t a _ nb ha).2,Aj _⟩,λi x H' u e t h y=>by
  obtain⟨rfl,y⟩:=y;obtain⟨x',h1,d⟩:=ds.get h;rw[y xs (SqT.of (t a _ nb ha).2)]at h1;cases h1;exact⟨e.refl,DU.mono t u d⟩⟩
def qJ(lo:Int)(n:Nat):List U:=(Br n).map λi:Nat=> .n (lo+(i:Int))
def aFw{W B:Addr->Prop}{H:Hp}{lo:Int}{n:Nat}:WkU W B H (Itr lo n) (qJ lo n):=
 ⟨λ_=>by show n<=_;simp[qJ],λi _ h=>by show i<n;simpa[qJ]using h,λi x H' u e _ h y=>by
  obtain⟨rfl,rfl⟩:=y;unfold qJ at h;rw[Ax]at h;cases q:(Br n)[i]? with
  |none=>rw[q]at h;cases h
  |some j=>
   rw[q]at h;cases h;have hj:=(List.getElem?_eq_some_iff.mp q).2;rw[List.getElem_range]at hj;subst hj;exact⟨e.refl,rfl,rfl⟩⟩
def bV{tg e:Expr}{F:TV}(h:VE X e F):VI X tg e (vLs F):=let⟨_,p,f⟩:=h;⟨_,aR7 p,λe h q=>f e h λs v H1 h1 w r=>by
 obtain⟨u,h2,d⟩:=r.du e.eb h1;match u,h2,d with
 |.ls l,h2,⟨a,xs,e1,nb,ha,ds⟩=>exact⟨a,e1,⟨xs,SqL.of ha⟩,q l _ _ h2 w (aR8 nb ha ds)⟩⟩
def aMk{tg e:Expr}{F:TV}(h:VE X e F):VI X tg e (vTp F):=let⟨_,p,f⟩:=h;⟨_,aRh p,λe h q=>f e h λs v H1 h1 w r=>by
 obtain⟨u,h2,d⟩:=r.du e.eb h1;match u,h2,d with
 |.tp l,h2,⟨a,xs,e1,nb,ha,ds⟩=>exact⟨a,e1,⟨xs,SqT.of ha⟩,q l _ _ h2 w (aVv nb ha ds)⟩⟩
def vRg(F:TVa):TVa:=λρ R=>F ρ λus=>match us with
 | [.v (.int j)]=> -(2 ^ 62)<=j/\j<2 ^ 62/\R (qJ 0 j.toNat)
 |_=>False
def bBm(F:TVa):TVa:=λρ R=>F ρ λus=>match us with
 | [.v (.int i),.v (.int j)]=>(-(2 ^ 62)<=i/\i<2 ^ 62/\ -(2 ^ 62)<=j/\j<2 ^ 62)/\R (qJ i (j-i).toNat)
 |_=>False
def jC{tg a:Expr}{F:TVa}{p pos:Pos}(hm:X.mg "range"=none)(hi:VB X [a] F)(hgl:Gl X "range":=by rfl)(hs1:starEach [a] X.env=[(false,eval a X.env)]:=by rfl):VI X tg (.Call (.Name "range" p) [a] [] pos) (vRg F):=
 let⟨_,p,f⟩:=hi;⟨_,aK8 hgl hm p hs1,λe h q=>f e h λus vs H1 h1 w d=>by
  match us,h1,d with
  | [.v (.int i)],⟨h2,h3,h4⟩,⟨x,r,e,d1,d2⟩=>
   obtain rfl:r=[]:=d2;rw[d1.int]at e;exact⟨i,e,h2,h3,q _ _ _ h4 w aFw⟩⟩
def xM{tg a b:Expr}{F:TVa}{p pos:Pos}(hm:X.mg "range"=none)(hi:VB X [a,b] F)(hgl:Gl X "range":=by rfl)(hs1:starEach [a,b] X.env=[(false,eval a X.env),(false,eval b X.env)]:=by rfl)(hs2:starEach [b] X.env=[(false,eval b X.env)]:=by rfl):VI X tg (.Call (.Name "range" p) [a,b] [] pos) (bBm F):=
 let⟨_,p,f⟩:=hi;⟨_,aLy hgl hm p hs1 hs2,λe h q=>f e h λus vs H1 h1 w d=>by
  match us,h1,d with
  | [.v (.int i),.v (.int j)],⟨h2,h4⟩,d=>
   obtain⟨x,_,e,d1,y,r,rfl,d2,d3⟩:=d;obtain rfl:r=[]:=d3;rw[d1.int,d2.int]at e;exact⟨i,j,e,h2,q _ _ _ h4 w aFw⟩⟩
def yH(l:List U):List U:=l.zipIdx.map λx=> .tp [.n (x.2:Nat),x.1]
def aTf{W B:Addr->Prop}{H:Hp}{K:Ac}{a:Addr}{l:List U}(nb:¬B a)(ha:H a=some (.lst xs))(ds:DUs W B H l xs):WkU W B H (Ite K a) (yH l):=
 ⟨λt=>⟨xs,SqL.of (t a _ nb ha).2,by simp[yH,ds.length]⟩,λi t h=>⟨xs,xs[i]'(by rw[<-ds.length];simpa[yH]using h),SqL.of (t a _ nb ha).2,Aj _⟩,λi x H' u e t h y=>by
  obtain⟨p,x',n,rfl,rfl,y⟩:=y;have hx:=y xs (SqL.of (t a _ nb ha).2);obtain⟨u',hu,d⟩:=ds.getV hx;have hu2:(yH l)[i]? =some (.tp [.n (i:Nat),u']):=by simp[yH,Ax,List.getElem?_zipIdx,hu]
  rw[h]at hu2;cases hu2;have f:=e.new (o:=.tup [.int i,x']) n;exact⟨f,p,_,rfl,e.nw n,aJ,_,_,rfl,⟨rfl,rfl⟩,_,_,rfl,DU.mono (λb o n h=>e.keep f b o (t b o n h).1 (t b o n h).2) u' d,rfl⟩⟩
def vEn(F:TVa):TVa:=λρ R=>F ρ λus=>match us with
 | [.ls l]=>R (yH l)
 |_=>False
def zB{es:List Expr}{pos':Pos}{F:TVa}{p pos:Pos}(hm:X.mg "enumerate"=none)(hi:VA X [a] F)(hgl:Gl X "enumerate":=by rfl)(hs1:starEach [a] X.env=[(false,eval a X.env)]:=by rfl):VI X (.Tuple es k pos') (.Call (.Name "enumerate" p) [a] [] pos) (vEn F):=
 let⟨_,p,f⟩:=hi;⟨_,aS1 hgl hm p hs1,λe h q=>f e h λus vs H1 h1 _ w d=>by
  match us,h1,d with
  | [.ls l],h4,d=>
   obtain⟨x,r,e,⟨a,xs,rfl,nb,ha,ds⟩,d2⟩:=d;obtain rfl:r=[]:=d2;exact⟨a,e,⟨xs,SqL.of ha⟩,q _ _ _ h4 w (aTf nb ha ds)⟩⟩
def dC{tg iter:Expr}{F:TVa}{G:TVg}{b:TVS}(hp:PassesOwn (model X.prog X.w) X.A X.env X.xe)(hc:X.calm=true)(hi:VI X tg iter F)(hg:VG X tg G)(hb:VSs X body b)
  (hs:FS X iter:=by intro _;rfl):VS X (.For tg iter body [] pos) (bB4 G F b):=
 let⟨_,p,f⟩:=hi;let⟨_,p1,f1⟩:=hg;let⟨_,p2,f2⟩:=hb;⟨_,aP9 hp hc p p1 p2 hs,λ{W B H0 A0 ρ0 σ0 H E D} o0 h j=>f o0.ee h λl J H1 h1 w wk=>by
  have o:=o0.to w;obtain⟨H0',o',rb,kp⟩:=o.reb;have st:∀{A ρ σ H},EO W B H0' A ρ σ H->Tr (Bx B A0) H1 (Bx B A) H:=λ{A ρ σ H} o2 p x n hp=>by
   have h0:=kp p x (λz=>n (.inr z)) hp;refine⟨λz=>z.elim (λz=>n (.inl z)) λ⟨i,z⟩=>?_,o2.fw.fr p x (λw=>n (.inl (o.eb.wb p w))) h0⟩;rw[o2.an i p z]at h0;cases h0
  refine⟨λi m σ H=>m=l.length-i/\i<=l.length/\∃A ρ,EO W B H0' A ρ σ H/\mX G b E (l.drop i) ρ,⟨l.length,by simp,Ay _,A0,ρ0,o',h1⟩,?_⟩;rintro i m σ H ⟨rfl,hi,A,ρ,o2,h2⟩;by_cases hlt:i<l.length
  ·have e:l.drop i=l[i]::l.drop (i+1):=Bd hlt;rw[e]at h2;refine .inr ⟨wk.go i (st o2) hlt,λσ H=>∃A ρ,EO W B H0' A ρ σ H/\mX G b E (l.drop (i+1)) ρ,λσ' H' h=>⟨l.length-(i+1),∅,rfl,hlt,h⟩,λx H' y=>?_⟩;obtain⟨w2,d⟩:=wk.yld i o2.ee.eb (st o2) (Aj hlt) y;exact f1 (o2.to w2) d h2 λA' ρ' σ' o3 h3=>f2 o3 h3 ⟨λo4 h4=>⟨_,_,o4,h4⟩,λo4 h4=>j.nx (o4.un o.eb rb) h4,λo4 h4=>⟨_,_,o4,h4⟩,λw r h4=>j.rt ⟨λb x nw hb=>w.fr b x nw (rb.le b x nw hb),w.wo⟩ (r.un rb) h4,λo4 d4 h4=>j.mr (o4.un o.eb rb) d4 h4⟩
  ·have e:i=l.length:=by lia
   subst e;rw[Ly]at h2;exact .inl ⟨wk.stop (st o2),j.nx (o2.un o.eb rb) h2⟩⟩
def vfn{w:World}{K:Ac}{mg:Str->Option Value}{base:Heap}{x qual:Str}{st:Stmt}{f:Addr}{fd:FuncData}{N ps:List Str}{G:TVS}{F:List U->(Sl->Prop)->Prop}(Fn:Fun K x qual st f fd)(S:aL N ps (aC st))
  (hb:∀(cdv:Value)(A:Around)(outer:List Env)(s:Shared)(H:Hp)(E:XK),dG k (A.deeper (envOfC qual (aC st) s.heap.objs.size f cdv))->VSs (aF9 CX0 P w K mg base N qual (aC st) f cdv A outer s H E).nox (gJ st) G)
  (hF:∀us R,F us R->us.length=ps.length/\G {nx:=λ_=>R (.sh .no),rt:=R} (us.map .sh++Ke (N.length-us.length) .no)):bC P w K mg base CX0 (k+1) f fd ps (spV F):=by
 refine Fn.ok S (λvs H Q E h=>?_) (λcdv A outer s H vs Q E hr h=>?_)
 ·obtain⟨W,B,us,R,eb,d,h,_⟩:=h;rw[<-d.length];exact(hF us R h).1
 ·obtain⟨t,p,g⟩:=hb cdv A outer s H E hr;obtain⟨W,B,us,R,eb,d,h,q⟩:=h;refine⟨t,p,g (W:=W) (B:=B) (H0:=H) (A:=λ_ _=>False) ⟨eb,eb.refl,?_,λ_ _ z=>z.elim,λ_ _ z=>z.elim,λ_ _ _ z=>z.elim,λi u h=>?_,λi s w h hs=>?_,λi s h=>?_⟩ (hF us R h).2 ⟨λo h=>?_,λ_ z=>z.elim,λ_ z=>z.elim,λw r h=>q _ _ _ h w r,λ_ _ z=>z.elim⟩⟩
  ·simp only[start,Ag,Ab,Em,d.length]
  ·rw[Ho]at h;split at h
   ·rename_i hl;rw[Ab]at hl;rw[Ax,Aj hl]at h;cases h;obtain⟨v,h1,h2⟩:=d.get (Aj hl);refine⟨v,?_,DU.mono (λb x n h=>⟨λz=>z.elim n λ⟨_,z⟩=>z,h⟩) _ h2⟩;unfold start;rw[Ep (by rw[Ab, <-d.length];exact hl),Ax,h1];rfl
   ·rw[Ea]at h;split at h<;>cases h
  ·rw[Ho]at h;split at h
   ·rw[Ax]at h;cases hu:us[i]? <;>rw[hu]at h<;>cases h;cases hs
   ·rw[Ea]at h;split at h<;>cases h;cases hs
  ·rw[Ho]at h;split at h
   ·rw[Ax]at h;cases hu:us[i]? <;>rw[hu]at h<;>cases h;rfl
   ·rw[Ea]at h;split at h<;>cases h;rfl
  ·exact q _ _ _ h o.fw ⟨rfl,rfl⟩
inductive ItV(F:TV)(σ:St)(H:Hp)(Q:VK):Prop
 |mk (W B ρ R:_) (q0_:EE W B H ρ σ) (q1_:F ρ R) (q2_:∀s v H',R s->Fw W H H'->RO W B H H' s v->Q v H'):ItV F σ H Q
def tV(F:TV):TE:=λσ H Q=>ItV F σ H Q
inductive bAu(F:TVc)(σ:St)(H:Hp)(Q:(Bool->Hp->Prop)):Prop
 |mk (W B ρ R:_) (q0_:EE W B H ρ σ) (q1_:F ρ R) (q2_:∀c H',R c->Fw W H H'->Q c H'):bAu F σ H Q
def tVc(F:TVc):TT:=λσ H Q=>bAu F σ H Q
def VE.can{X:Cx}{e:Expr}{F:TV}(h:VE X e F):PE X e (tV F):=let⟨_,p,f⟩:=h;λpins s σ H Q I ⟨_,_,_,_,e,h,q⟩=>p pins s σ H Q I (f e h q)
def VC.can{X:Cx}{e:Expr}{F:TVc}(h:VC X e F):PT X e (tVc F):=let⟨_,p,f⟩:=h;λpins s σ H Q I ⟨_,_,_,_,e,h,q⟩=>p pins s σ H Q I (f e h q)
def VTh(own:Nat)(g:TG)(G:TVg):Prop:=∀{W B:Addr->Prop}{H:Hp}{ρ:EV}{σ:St}{u:U}{v:V}{k:EV->Prop}{Q:St->Hp->Prop},EE W B H ρ σ->DU W B H u v->G u ρ k->(∀ρ' σ',EE W B H ρ' σ'->σ'.length=σ.length->(∀i,own<=i->σ'[i]? =σ[i]?)->k ρ'->Q σ' H)->g v σ H Q
def EE.set{W B:Addr->Prop}{H:Hp}{ρ:EV}{σ:St}{u:U}(e:EE W B H ρ σ)(d:DU W B H u v):EE W B H (ρ.set i (.sh u)) (σ.set i (some v)):=by
 refine⟨e.eb,by rw[Cm,Cm,e.len],λj u' h=>?_,λj s w h hs=>?_⟩
 ·rcases cW h with ⟨rfl,q,hl⟩|⟨ne,h⟩
  ·cases q;exact⟨v,get_set (e.len▸hl),d⟩
  ·obtain⟨v',h1,h2⟩:=e.sh j u' h;exact⟨v',by rw[eV ne];exact h1,h2⟩
 ·rcases cW h with ⟨rfl,rfl,hl⟩|⟨ne,h⟩
  ·cases hs
  ·obtain⟨p,S,h1,h2⟩:=e.hd j s w h hs;exact⟨p,S,by rw[eV ne];exact h1,h2⟩
def dM{own i:Nat}(h:i<own):VTh own (tW i) (uB i):=λe d h1 q=>q _ _ (e.set d) (Cm ..) (λj hj=>eV ∅) h1
def aIt:List Nat->TGs
 | []=>bAi
 |i::is=>aT5 (tW i) (aIt is)
theorem aE2{own:Nat}{W B:Addr->Prop}{H:Hp}{Q:St->Hp->Prop}{k:EV->Prop}:∀{is:List Nat}{us:List U}{vs:List V}{ρ:EV}{σ:St},(∀i∈is,i<own)->EE W B H ρ σ->DUs W B H us vs->us.length=is.length->k ((is.zip us).foldl (λρ x=>ρ.set x.1 (.sh x.2)) ρ)->
  (∀ρ' σ',EE W B H ρ' σ'->σ'.length=σ.length->(∀i,own<=i->σ'[i]? =σ[i]?)->k ρ'->Q σ' H)->aIt is vs σ H Q
 | [],[],_,_,_,_,e,d,_,h,q=>⟨d,q _ _ e rfl (λ_ _=>rfl) h⟩
 |i::is,u::us,_,ρ,σ,hi,e,⟨v,r,e1,d1,d2⟩,l,h,q=>⟨v,r,e1,aE2 (λj hj=>hi j (Ae _ hj)) (e.set (i:=i) d1) d2 (Es l) h λρ' σ' e' l' a' h'=>q ρ' σ' e' (l'.trans (Cm ..)) (λj hj=>(a' j hj).trans (eV (by have:=hi i Af;lia))) h'⟩
def aH9{own:Nat}{K:Ac}{is:List Nat}{n:Nat}(hl:is.length=n)(h:∀i∈is,i<own):VTh own (bAc K n (aIt is)) (aUs is):=λ{W B H ρ σ u v k Q} e d h1 q=>by
 match u,d,h1 with
 |.tp us,⟨a,xs,e1,_,ha,ds⟩,⟨l,h1⟩=>exact⟨a,xs,e1,SqT.of ha,by rw[<-ds.length,l,hl],aE2 h e ds l h1 q⟩
def aWg:Sl->Sl
 |.ow l=> .br l
 |.oo w=> .bo w
 |s=>s
def aKr:∀s:Sl,(aWg s).hold=s.hold
 |.no=>rfl
 |.sh _=>rfl
 |.ow _=>rfl
 |.br _=>rfl
 |.oo _=>rfl
 |.bo _=>rfl
def wM(no:Nat)(cap:List (Str×Nat))(ρ:EV):EV:=Ke no .no++cap.map λp=>match (ρ[p.2]? :Option Sl)with
 |some s=>aWg s
 |_=> .no
def aEe{no:Nat}{cap:List (Str×Nat)}{ρ:EV}{s:Sl}(h:(wM no cap ρ)[i]? =some s)(hs:s≠.no):∃(j:Nat)(s0:Sl),no<=i/\(∀σ:St,(oF no cap σ)[i]? =some ((σ[j]? :Option (Option V))).join)/\ρ[j]? =some s0/\s=aWg s0:=by
 unfold wM at h;rw[Ho]at h;split at h
 ·rw[Ea]at h;split at h
  ·cases h;exact(hs rfl).elim
  ·cases h
 ·rename_i hn;rw[Em]at hn h;rw[Ax]at h;cases hc:cap[i-no]? with
  |none=>rw[hc]at h;cases h
  |some p=>
   rw[hc]at h;have h':=Bk h;dsimp only at h';split at h'
   ·rename_i s0 h0;refine⟨p.2,s0,∅,λσ=>?_,h0,h'.symm⟩;unfold oF;rw[Eh (by rw[Em];lia),Em,Ax,hc];rfl
   ·exact(hs h'.symm).elim
def EE.cap{W B:Addr->Prop}{H:Hp}{ρ:EV}{σ:St}{no:Nat}{cap:List (Str×Nat)}(e:EE W B H ρ σ):EE W B H (wM no cap ρ) (oF no cap σ):=by
 refine⟨e.eb,by simp[wM,oF],λi u h=>?_,λi s w h hs=>?_⟩
 ·obtain⟨j,s0,_,c,h,e0⟩:=aEe h (by intro z;cases z);have:s0=.sh u:=by cases s0<;>cases e0<;>rfl
  obtain⟨v,h1,h2⟩:=e.sh j u (this▸h);exact⟨v,by rw[c,h1];rfl,h2⟩
 ·obtain⟨j,s0,_,c,h0,rfl⟩:=aEe h (by rintro rfl;cases hs);rw[aKr]at hs;obtain⟨p,S,h1,h2⟩:=e.hd j s0 w h0 hs;exact⟨p,S,by rw[c,h1];rfl,h2⟩
def iK(f:U->(Option U->Prop)->Prop):List U->List U->(List U->Prop)->Prop
 | [],acc,R=>R acc
 |u::r,acc,R=>f u λo=>match o with
  |some x=>iK f r (acc++[x]) R
  |none=>iK f r acc R
def aY7(G:TVg)(F:TV)(ρ:EV):U->(Option U->Prop)->Prop:=λu k=>G u ρ λρ1=>F ρ1 λs=>s.es λx=>k (some x)
def aXi(G:TVg)(C:TVc)(F:TV)(ρ:EV):U->(Option U->Prop)->Prop:=λu k=>G u ρ λρ1=>C ρ1 λc=>(c=true->F ρ1 λs=>s.es λx=>k (some x))/\(c=false->k none)
structure CI(W B:Addr->Prop)(H1:Hp)(D:Addr)(ρ:EV)(us:List U)(acc:List V)(σ:St)(H:Hp):Prop where
 ee:EE W (λb=>B b∨b=D) H ρ σ
 od:∀(i:Nat)(s:Sl)(w:Own),ρ[i]? =some s->s.hold=some w->∃p S,σ[i]? =some (some (V.ref p))/\(∀b,S b->¬W b)/\¬S D/\w.φ W (λb=>B b∨b=D) S H p
 fw:Fw W H1 H
 dl:H D=some (.lst acc)
 du:DUs W (λb=>B b∨b=D) H us acc
def EE.plus{W B:Addr->Prop}{H:Hp}{ρ:EV}{σ:St}{D:Addr}{x:HO}(e:EE W B H ρ σ)(n:H D=none)(m:Mt x:=by trivial):EE W (λb=>B b∨b=D) (upd H D x) ρ σ:=by
 have f:=e.eb.new (o:=x) n;have k:∀b o,¬B b->H b=some o->¬(B b∨b=D)/\upd H D x b=some o:=λb o nb h=>⟨λz=>z.elim nb (aQ h n),(e.eb.keep f b o nb h).2⟩;refine⟨⟨λp hp=>?_,λp hp=> .inl (e.eb.wb p hp),f.wo⟩,e.len,λi u h=>?_,λi s w h hs=>?_⟩
 ·rcases hp with hp|hp
  ·exact(e.eb.to f).bl p hp
  ·rw[hp,aJ];exact⟨_,rfl,m⟩
 ·obtain⟨v,h1,h2⟩:=e.sh i u h;exact⟨v,h1,DU.mono k u h2⟩
 ·obtain⟨p,S,h1,h2,h3⟩:=e.hd i s w h hs;exact⟨p,S,h1,h2,w.mono k (λb hb=>let⟨y,hx,_⟩:=w.th h3 b hb;aP (aQ hx n)) h3⟩
def EE.as{W B:Addr->Prop}{H:Hp}{ρ:EV}{σ σ':St}(e:EE W B H ρ σ)(ρo:∀(i:Nat)(s:Sl),ρ[i]? =some s->s≠Sl.no->σ'[i]? =σ[i]?)(l:σ'.length=σ.length):EE W B H ρ σ':=
 ⟨e.eb,e.len.trans l.symm,λi u h=>by rw[ρo i _ h (by intro z;cases z)];exact e.sh i u h,λi s w h hs=>by
  rw[ρo i s h (by rintro rfl;cases hs)];exact e.hd i s w h hs⟩
def CI.to{W B:Addr->Prop}{H1 H H2:Hp}{D:Addr}{ρ:EV}{us:List U}{σ σ':St}(c:CI W B H1 D ρ us acc σ H)(nw:¬W D)(f:Fw W H H2)(ρo:∀(i:Nat)(s:Sl),ρ[i]? =some s->s≠Sl.no->σ'[i]? =σ[i]?)(l:σ'.length=σ.length):CI W B H1 D ρ us acc σ' H2:=
 ⟨(c.ee.to f).as ρo l,λi m w h hs=>by
  rw[ρo i m h (by rintro rfl;cases hs)];obtain⟨p,S,h1,h2,h3,h4⟩:=c.od i m w h hs;exact⟨p,S,h1,h2,h3,w.to c.ee.eb f h2 h4⟩,c.fw.trans f,f.fr _ _ nw c.dl,DUs.mono (c.ee.eb.keep f) us c.du⟩
def CI.put{W B:Addr->Prop}{H1 H:Hp}{D:Addr}{ρ:EV}{us:List U}{σ:St}{u:U}(c:CI W B H1 D ρ us acc σ H)(n1:H1 D=none)(nw:¬W D)(d:DU W (λb=>B b∨b=D) H u v):CI W B H1 D ρ (us++[u]) (acc++[v]) σ (upd H D (.lst (acc++[v]))):=by
 have k:∀b o,¬(B b∨b=D)->H b=some o->¬(B b∨b=D)/\upd H D (.lst (acc++[v])) b=some o:=λb o nb h=>⟨nb,(aP (λz=>nb (.inr z))).trans h⟩;have ww:∀p,W p->Wll (upd H D (.lst (acc++[v]))) p:=λp hp=>by
  obtain⟨x,y,z,h⟩:=c.fw.wo p hp;exact⟨x,y,z,(aP (λq:p=D=>nw (by rw[<-q];exact hp))).trans h⟩
 have od:∀(i:Nat)(s:Sl)(w:Own),ρ[i]? =some s->s.hold=some w->∃p S,σ[i]? =some (some (V.ref p))/\(∀b,S b->¬W b)/\¬S D/\w.φ W (λb=>B b∨b=D) S (upd H D (.lst (acc++[v]))) p:=λi s w h hs=>by
  obtain⟨p,S,h1,h2,h3,h4⟩:=c.od i s w h hs;exact⟨p,S,h1,h2,h3,w.mono k (λb hb=>aP (λq:b=D=>h3 (by rw[<-q];exact hb))) h4⟩
 refine⟨⟨⟨λp hp=>?_,c.ee.eb.wb,ww⟩,c.ee.len,λi u' h=>?_,λi m w h hs=>let⟨p,S,h1,h2,_,h4⟩:=od i m w h hs;⟨p,S,h1,h2,h4⟩⟩,od,⟨λb o w h=>?_,ww⟩,aJ,DUs.mono k _ (c.du.app (DUs.one d))⟩
 ·by_cases z:p=D
  ·rw[z,aJ];exact⟨_,rfl,trivial⟩
  ·rw[aP z];exact c.ee.eb.bl p hp
 ·obtain⟨v',h1,h2⟩:=c.ee.sh i u' h;exact⟨v',h1,DU.mono k u' h2⟩
 ·rw[aP (aQ h n1)];exact c.fw.fr b o w h
def aRa{no:Nat}{cap:List (Str×Nat)}{ρ:EV}{σ σ':St}(a:∀i,no<=i->σ'[i]? =σ[i]?):∀(i:Nat)(s:Sl),(wM no cap ρ)[i]? =some s->s≠Sl.no->σ'[i]? =σ[i]? :=λi s h n=>let⟨_,_,q,_⟩:=aEe h n;a i q
structure WkC(W B:Addr->Prop)(H1:Hp)(J:It)(l:List U):Prop where
 stop:∀{B2 H2},Tr B H1 B2 H2->Fw W H1 H2->J.stop l.length H2
 go:∀{B2 H2} i,Tr B H1 B2 H2->Fw W H1 H2->i<l.length->J.go i H2
 yld:∀{B2 H2}(i:Nat){x H' u},EB W B2 H2->Tr B H1 B2 H2->Fw W H1 H2->l[i]? =some u->J.yld i H2 x H'->Fw W H2 H'/\DU W B2 H' u x
def aYd(wi:TI)(F:TVa):Prop:=∀{W B:Addr->Prop}{ρ:EV}{σ:St}{H:Hp}{R:List U->Prop}{Q:It->Hp->Prop},EE W B H ρ σ->F ρ R->(∀l J H',R l->Fw W H H'->WkC W B H' J l->Q J H')->wi σ H Q
def VIc(X:Cx)(tg iter:Expr)(F:TVa):Prop:=∃wi,PI X tg iter wi/\aYd wi F
def vic{X:Cx}{tg iter:Expr}{F:TVa}(h:VI X tg iter F):VIc X tg iter F:=let⟨wi,p,f⟩:=h;⟨wi,p,λe h q=>f e h λl J H' h1 w k=>q l J H' h1 w ⟨λt _=>k.stop t,λi t _ hi=>k.go i t hi,λi _ _ _ e t _ h y=>k.yld i e t h y⟩⟩
def aGw(no:Nat)(cap:List (Str×Nat))(Fi:TVa)(G:TVg)(F:TV):TV:=λρ R=>Fi ρ λl=>l.length<=10000/\iK (aY7 G F (wM no cap ρ)) l [] λus=>R (.ow us)
def aMo(no:Nat)(cap:List (Str×Nat))(Fi:TVa)(G:TVg)(C:TVc)(F:TV):TV:=λρ R=>Fi ρ λl=>l.length<=10000/\iK (aXi G C F (wM no cap ρ)) l [] λus=>R (.ow us)
def CW(W B:Addr->Prop)(H1:Hp)(D:Addr)(ρ:EV)(l:List U)(f:U->(Option U->Prop)->Prop)(R:List U->Prop)(i m:Nat)(σ:St)(H:Hp):Prop:=m=l.length-i/\i<=l.length/\∃us acc,CI W B H1 D ρ us acc σ H/\us.length<=i/\iK f (l.drop i) us R
def CW.beg{W B:Addr->Prop}{H1:Hp}{D:Addr}{ρ:EV}{σ:St}{no:Nat}{cap:List (Str×Nat)}{l:List U}{f:U->(Option U->Prop)->Prop}{R:List U->Prop}(e:EE W B H1 ρ σ)(n1:H1 D=none)(h:iK f l [] R):CW W B H1 D (wM no cap ρ) l f R 0 l.length (oF no cap σ) (upd H1 D (.lst [])):=by
 refine⟨by simp,Ay _,[],[],⟨e.cap.plus n1,λi m w h hs=>?_,e.eb.new n1,aJ,rfl⟩,Am _,h⟩;obtain⟨p,S,h1,h2,h3⟩:=e.cap.hd i m w h hs;have f:=e.eb.new (o:=.lst []) n1;refine⟨p,S,h1,h2,λz=>?_,w.mono (λb o nb h=>⟨λz=>z.elim nb (aQ h n1),(e.eb.keep f b o nb h).2⟩) (λb hb=>let⟨x,hx,_⟩:=w.th h3 b hb;aP (aQ hx n1)) h3⟩;obtain⟨x,hx,_⟩:=w.th h3 D z;rw[n1]at hx;cases hx
def CW.turn{W B:Addr->Prop}{H1 H H3:Hp}{D:Addr}{ρ:EV}{σ σ0:St}{no:Nat}{cap:List (Str×Nat)}{l:List U}{f:U->(Option U->Prop)->Prop}{R:List U->Prop}{i m:Nat}{J:It}{x:V}(e:EE W B H1 ρ σ0)(n1:H1 D=none)(ll:l.length<=10000)(wk:WkC W B H1 J l)(hlt:i<l.length)(c:CW W B H1 D (wM no cap ρ) l f R i m σ H)(y:J.yld i H x H3):
  ∃u us,EE W (λb=>B b∨b=D) H3 (wM no cap ρ) σ/\DU W (λb=>B b∨b=D) H3 u x/\f u (λo=>match o with|some y=>iK f (l.drop (i+1)) (us++[y]) R|none=>iK f (l.drop (i+1)) us R)/\
   (∀(y:U)(v:V)(σ':St)(H':Hp),iK f (l.drop (i+1)) (us++[y]) R->Fw W H3 H'->DU W (λb=>B b∨b=D) H' y v->σ'.length=σ.length->(∀i,no<=i->σ'[i]? =σ[i]?)->∃ys,H' D=some (.lst ys)/\ys.length<sizeLine/\∃m',m'<m/\CW W B H1 D (wM no cap ρ) l f R (i+1) m' σ' (upd H' D (.lst (ys++[v]))))/\
   (∀(σ':St)(H':Hp),iK f (l.drop (i+1)) us R->Fw W H3 H'->σ'.length=σ.length->(∀i,no<=i->σ'[i]? =σ[i]?)->∃m',m'<m/\CW W B H1 D (wM no cap ρ) l f R (i+1) m' σ' H'):=by
 have nw:¬W D:=λw=>e.eb.dm D (e.eb.wb D w) n1;obtain⟨rfl,hi,us,acc,c,hl,h2⟩:=c;rw[Bd hlt]at h2;have tr:Tr B H1 (λb=>B b∨b=D) H:=λb o nb h=>⟨λz=>z.elim nb (aQ h n1),(e.eb.keep c.fw b o nb h).2⟩;obtain⟨w3,d⟩:=wk.yld i c.ee.eb tr c.fw (Aj hlt) y;have c3:=c.to (σ':=σ) nw w3 (λ_ _ _ _=>rfl) rfl;have hz:(10000:Nat)<sizeLine:=by decide
 refine⟨l[i],us,c3.ee,d,h2,λy v σ' H' h3 f3 d3 l3 a3=>?_,λσ' H' h3 f3 l3 a3=>⟨l.length-(i+1),∅,rfl,hlt,us,acc,c3.to nw f3 (aRa a3) l3,∅,h3⟩⟩;have c4:=c3.to nw f3 (aRa a3) l3;have hz2:=c4.du.length;refine⟨acc,c4.dl,∅,l.length-(i+1),∅,rfl,hlt,us++[y],acc++[v],c4.put n1 nw d3,?_,h3⟩;rw[Ag];show us.length+1<=i+1
 lia
def CW.end_{W B:Addr->Prop}{H0 H1 H:Hp}{D:Addr}{ρ:EV}{σ:St}{l:List U}{f:U->(Option U->Prop)->Prop}{R:Sl->Prop}(w:Fw W H0 H1)(n1:H1 D=none)(c:CW W B H1 D ρ l f (λus=>R (.ow us)) l.length m σ H)(q:∀s v H',R s->Fw W H0 H'->RO W B H0 H' s v->Q v H'):Q (.ref D) H:=by
 obtain⟨_,_,us,acc,c,_,h2⟩:=c;rw[Ly]at h2;exact q _ _ _ h2 (w.trans c.fw) (RO.back (s:=.ow us) w ⟨D,acc,rfl,n1,c.dl,c.du⟩)
def aDp{no:Nat}{cap:List (Str×Nat)}{Fi:TVa}{G:TVg}{F:TV}(hi:aYd wi Fi)(hg:VTh no g G):VT (aB0 no cap wi g (tV F)) (aGw no cap Fi G F):=λ{W B ρ σ H R Q} e h q=>hi e h λl J H1 h1 w wk D n1=>by
 have e1:=e.to w;refine⟨CW W B H1 D (wM no cap ρ) l _ _,⟨_,CW.beg e1 n1 h1.2⟩,λi m σ2 H2 c=>?_⟩;have tr:Tr B H1 (λb=>B b∨b=D) H2:=let⟨_,_,_,_,c,_⟩:=c;λb o nb h=>⟨λz=>z.elim nb (aQ h n1),(e1.eb.keep c.fw b o nb h).2⟩;have fw:Fw W H1 H2:=let⟨_,_,_,_,c,_⟩:=c;c.fw;by_cases hlt:i<l.length
 ·refine .inr ⟨wk.go i tr fw hlt,λx H3 y=>?_⟩;obtain⟨u,us,e3,d3,h3,put,_⟩:=c.turn e1 n1 h1.1 wk hlt y;refine hg e3 d3 h3 λρ' σ' e' l' a' h'=>⟨W,_,ρ',_,e',h',λs v H5 h5 w5 r5=>?_⟩;obtain⟨y,hy,dy⟩:=r5.du e'.eb h5;exact put y v σ' H5 hy w5 dy l' a'
 ·have hi':=c.2.1;obtain rfl:i=l.length:=by lia
  exact .inl ⟨wk.stop tr fw,c.end_ w n1 q⟩
def aP8{no:Nat}{cap:List (Str×Nat)}{Fi:TVa}{G:TVg}{C:TVc}{F:TV}(hi:aYd wi Fi)(hg:VTh no g G):VT (zZ no cap wi g (tVc C) (tV F)) (aMo no cap Fi G C F):=λ{W B ρ σ H R Q} e h q=>hi e h λl J H1 h1 w wk D n1=>by
 have e1:=e.to w;refine⟨CW W B H1 D (wM no cap ρ) l _ _,⟨_,CW.beg e1 n1 h1.2⟩,λi m σ2 H2 c=>?_⟩;have tr:Tr B H1 (λb=>B b∨b=D) H2:=let⟨_,_,_,_,c,_⟩:=c;λb o nb h=>⟨λz=>z.elim nb (aQ h n1),(e1.eb.keep c.fw b o nb h).2⟩;have fw:Fw W H1 H2:=let⟨_,_,_,_,c,_⟩:=c;c.fw;by_cases hlt:i<l.length
 ·refine .inr ⟨wk.go i tr fw hlt,λx H3 y=>?_⟩;obtain⟨u,us,e3,d3,h3,put,skip⟩:=c.turn e1 n1 h1.1 wk hlt y;refine hg e3 d3 h3 λρ' σ' e' l' a' h'=>⟨W,_,ρ',_,e',h',λc H4 h4 w4=>?_⟩;cases c with
  |true=>
   refine aGf ⟨W,_,ρ',_,e'.to w4,h4.1 rfl,λs v H5 h5 w5 r5=>?_⟩;obtain⟨y,hy,dy⟩:=r5.du (e'.to w4).eb h5;exact put y v σ' H5 hy (w4.trans w5) dy l' a'
  |false=>exact qK (skip σ' H4 (h4.2 rfl) w4 l' a')
 ·have hi':=c.2.1;obtain rfl:i=l.length:=by lia
  exact .inl ⟨wk.stop tr fw,c.end_ w n1 q⟩
def lY{elt iter tg:Expr}{own:List Str}{cap:List (Str×Nat)}{Fi:TVa}{G:TVg}{F:TV}(sc0:Scope)(N0:List Str)(hsc:X.env.scope=sc0)(hN:X.N=N0)(hcell:HC X)
  (ok:uO scope sc0 cap N0) (hc:X.calm=true) (hi:VIc X tg iter Fi) (hg:∀cl C s2 H2 fp,PG (bT X (eQ own cap) scope cl C s2 H2 fp) tg g) (hG:VTh own.length g G) (he:∀cl C s2 H2 fp,VE (bT X (eQ own cap) scope cl C s2 H2 fp) elt F)
  (hs:FS X iter:=by intro _;rfl):VE X (.ListComp elt [⟨tg,iter,[],0⟩] scope pos) (aGw own.length cap Fi G F):=
 let⟨_,p,f⟩:=hi;⟨_,aUd sc0 N0 hsc hN hcell ok hc p hg (λcl C s2 H2 fp=>(he cl C s2 H2 fp).can) hs,aDp f hG⟩
def aVx{elt iter tg ci:Expr}{own:List Str}{cap:List (Str×Nat)}{Fi:TVa}{G:TVg}{C:TVc}{F:TV}(sc0:Scope)(N0:List Str)(hsc:X.env.scope=sc0)(hN:X.N=N0)(hcell:HC X)
  (ok:uO scope sc0 cap N0) (hc:X.calm=true) (hi:VIc X tg iter Fi) (hg:∀cl C s2 H2 fp,PG (bT X (eQ own cap) scope cl C s2 H2 fp) tg g) (hG:VTh own.length g G) (hC:∀cl C' s2 H2 fp,VC (bT X (eQ own cap) scope cl C' s2 H2 fp) ci C) (he:∀cl C s2 H2 fp,VE (bT X (eQ own cap) scope cl C s2 H2 fp) elt F)
  (hs:FS X iter:=by intro _;rfl):VE X (.ListComp elt [⟨tg,iter,[ci],0⟩] scope pos) (aMo own.length cap Fi G C F):=
 let⟨_,p,f⟩:=hi;⟨_,aWn sc0 N0 hsc hN hcell ok hc p hg (λcl C s2 H2 fp=>(hC cl C s2 H2 fp).can) (λcl C s2 H2 fp=>(he cl C s2 H2 fp).can) hs,aP8 f hG⟩
def aJh{elt iter tg:Expr}{own:List Str}{cap:List (Str×Nat)}{pos spos py:Pos}{Fi:TVa}{G:TVg}{F:TV}(hnd:X.N.Nodup)(sc0:Scope)(N0:List Str)(hsc:X.env.scope=sc0)(hN:X.N=N0)(hcell:HC X)
  (ok:uO scope sc0 cap N0) (hc:X.calm=true) (hi:VIc X tg iter Fi) (hg:∀cl C s2 H2 fp,PG (bT X (eQ own cap) scope cl C s2 H2 fp) tg g) (hG:VTh own.length g G) (he:∀cl C s2 H2 fp,VE (bT X (eQ own cap) scope cl C s2 H2 fp) elt F)
  (hi':X.N[i]? =some x:=by rfl) (hx:Loc X.env.scope x:=by exact Cw rfl) (hsw:swapsWith (.ListComp elt [⟨tg,iter,[],0⟩] scope pos) (some (.Name x py)) spos.line X.env=pure true:=by rfl)
  (hs:FS X iter:=by intro _;rfl) (hf:FL X x:=by trivial):VS X (.Assign [.Name x py] (.ListComp elt [⟨tg,iter,[],0⟩] scope pos) spos) (aZj i (aGw own.length cap Fi G F)):=
 let⟨_,p,f⟩:=hi;⟨_,bAm hnd hi' hx sc0 N0 hsc hN hcell ok hc p hg (λcl C s2 H2 fp=>(he cl C s2 H2 fp).can) hsw hs hf,λo h j=>aDp f hG o.ee h λs v H1 h1 w r=>aN3 o w r h1 j.nx⟩
def aXn{elt iter tg:Expr}{own:List Str}{Fi:TVa}{G:TVg}{F:TV}(ok:aDj scope)(hc:X.calm=true)(hi:VIc X tg iter Fi)
  (hg:∀cl C s2 H2 fp,PG (bT X (eQ own []) scope cl C s2 H2 fp) tg g) (hG:VTh own.length g G) (he:∀cl C s2 H2 fp,VE (bT X (eQ own []) scope cl C s2 H2 fp) elt F)
  (hs:FS X iter:=by intro _;rfl):VE X (.ListComp elt [⟨tg,iter,[],0⟩] scope pos) (aGw own.length [] Fi G F):=
 let⟨_,p,f⟩:=hi;⟨_,aW4 ok hc p hg (λcl C s2 H2 fp=>(he cl C s2 H2 fp).can) hs,aDp f hG⟩
def aD2{op}{F:TV}(h:VE X a F):VE X (.BoolOp op [a] pos) F:=let⟨_,p,f⟩:=h;⟨_,aO0 p,f⟩
def aOi(g:List U->(Sl->Prop)->Prop)(G:TVa):TV:=λρ R=>G ρ λus=>g us R
def bD{id:String}{g:List U->(Sl->Prop)->Prop}{es:List Expr}{G:TVa}{p pos:Pos}(hc:eE X (.builtin id) r)(cb:CB r g)(hm:X.mg x=none)(hv:bootBuiltins x=some (.builtin id))(ha:VB X (a::es) G)(hg:Gl X x:=by rfl)(hn:x≠"__name__":=by decide)(hdb:ND x:=by decide)
  (he:SE X a es:=by rfl) (hpl:BT X pos es:=by rfl):VE X (.Call (.Name x p) (a::es) [] pos) (aOi g G):=
 let⟨_,p,f⟩:=ha;⟨_,fQ hc hg hm hv p hn hdb he hpl,λe h q=>f e h λus vs H1 h1 w d=>cb (e.to w).eb d h1 λs z H2 h2 w2 r=>q _ _ _ h2 (w.trans w2) (r.back w)⟩
def dH{T:String}{g:List U->(Sl->Prop)->Prop}{es:List Expr}{G:TVa}{p pos:Pos}(hc:eE X (.type T) r)(cb:CB r g)(hm:X.mg x=none)(hv:bootBuiltins x=some (.type T))(ha:VB X (a::es) G)(hg:Gl X x:=by rfl)(hn:x≠"__name__":=by decide)(hdb:ND x:=by decide)
  (he:SE X a es:=by rfl) (hpl:BT X pos es:=by rfl):VE X (.Call (.Name x p) (a::es) [] pos) (aOi g G):=
 let⟨_,p,f⟩:=ha;⟨_,lU hc hg hm hv p hn hdb he hpl,λe h q=>f e h λus vs H1 h1 w d=>cb (e.to w).eb d h1 λs z H2 h2 w2 r=>q _ _ _ h2 (w.trans w2) (r.back w)⟩
def gIx:U->U->(Sl->Prop)->Prop
 |.ls l,.v (.int i),R=>∃u,atI l i=some u/\R (.sh u)
 |.tp l,.v (.int i),R=>∃u,atI l i=some u/\R (.sh u)
 |_,_,_=>False
def bY{K:Ac}:O2 (rIx K) gIx:=λ{W B H u v x y R Q} e d1 d2 h q=>by
 unfold gIx at h;split at h
 ·exact .inl (aX3 e d1 d2 h q)
 ·exact .inr (.inl (aV4 e d1 d2 h q))
 ·exact h.elim
def aYf:U->U->(Sl->Prop)->Prop
 |.v (.int i),.v (.int j),R=>R (.sh (.n (i+j)))
 |.v (.str a),.v (.str b),R=>a.length+b.length<=10000/\R (.sh (.s (a++b)))
 |.ls l,.ls m,R=>l.length+m.length<=10000/\R (.ow (l++m))
 |.tp l,.tp m,R=>l.length+m.length<=10000/\R (.sh (.tp (l++m)))
 |_,_,_=>False
def sz4{n:Nat}(h:n<=10000):n<=sizeLine:=Cc h ⋯
def aU0(X:Cx):R2:=λx y H Q=>(∃i j,x=.int i/\y=.int j/\Q (.int (i+j)) H)∨(∃i j,x=.str i/\y=.str j/\i.length+j.length<=sizeLine/\Q (.str (i++j)) H)∨aZh x y H Q∨aUz X.K x y H Q∨∃a b ys,x=.ref a/\y=.ref b/\SqT X.K H a []/\SqT X.K H b ys/\Q (.ref b) H
def bB:OpR X (binaryOp .Add) (aU0 X):=uD.or (aAi.or (aXj.or (aTu.or aQq)))
def bK:O2 (aU0 X) aYf:=λ{W B H u v x y R Q} e d1 d2 h q=>by
 unfold aYf at h;split at h
 ·exact .inl ⟨_,_,d1.int,d2.int,q _ _ _ h e.refl ⟨rfl,rfl⟩⟩
 ·exact .inr (.inl ⟨_,_,d1.fl.1,d2.fl.1,sz4 h.1,q _ _ _ h.2 e.refl ⟨rfl,rfl⟩⟩)
 ·obtain⟨p,xs,rfl,_,h1,ds⟩:=d1.ls e;obtain⟨p',ys,rfl,_,h2,ds'⟩:=d2.ls e;have:=ds.length;have:=ds'.length;refine .inr (.inr (.inl ⟨p,p',xs,ys,rfl,rfl,h1,h2,sz4 ∅,λr n=>?_⟩));have f:=e.new (o:=.lst (xs++ys)) n;exact q _ _ _ h.2 f ⟨r,_,rfl,n,aJ,DUs.mono (λb o nb h=>⟨λz=>z.elim nb (aQ h n),(e.keep f b o nb h).2⟩) _ (ds.app ds')⟩
 ·rename_i l m;obtain⟨p,xs,rfl,_,h1,ds⟩:=d1.tp;obtain⟨p',ys,rfl,nb,h2,ds'⟩:=d2.tp;have:=ds.length;have:=ds'.length;cases l with
  |nil=>
   rw[show xs=[]from ds]at h1;exact .inr (.inr (.inr (.inr ⟨p,p',ys,rfl,rfl,SqT.of h1,SqT.of h2,q (.sh (.tp m)) _ _ h.2 e.refl ⟨p',ys,rfl,nb,h2,ds'⟩⟩)))
  |cons a l=>
   refine .inr (.inr (.inr (.inl ⟨p,p',xs,ys,rfl,rfl,SqT.of h1,SqT.of h2,?_,sz4 ∅,λz=>?_,λ_ r n=>?_⟩)))
   ·intro z;rw[z]at ds;obtain⟨_,_,e1,_⟩:=ds;cases e1
   ·subst z;have hm:m=[]:=List.length_eq_zero_iff.mp (by simpa using this);subst hm;exact q _ _ _ h.2 e.refl ⟨p,xs,rfl,by assumption,h1,by rw[Bf];exact ds⟩
   ·have f:=e.new (o:=.tup (xs++ys)) n;exact q _ _ _ h.2 f ⟨r,_,rfl,e.nw n,aJ,DUs.mono (e.keep f) _ (ds.app ds')⟩
 ·exact h.elim
def aHn(g g':U->U->(Sl->Prop)->Prop)(a b c:TV):TV:=λρ R=>a ρ λs=>b ρ λs'=>g s.rd s'.rd λr=>match r.rd with
 |.v (.bl k)=>(k=true->c ρ λs''=>g' s'.rd s''.rd R)/\(k=false->R (.sh (.b false)))
 |_=>False
def aFj{r r':R2}{g g':U->U->(Sl->Prop)->Prop}{ta tb tc:TE}{F G E:TV}(o:O2 r g)(o':O2 r' g')(ha:VT ta F)(hb:VT tb G)(hc:VT tc E):VT (aH1 r r' ta tb tc) (aHn g g' F G E):=λe h q=>by
 refine ha e h λs v H1 h1 f1 r1=>?_;have e1:=e.to f1;refine hb e1 h1 λs' v' H2 h2 f2 r2=>?_;have e2:=e1.to f2;have db2:=r2.db e1.eb;refine o e2.eb ((r1.db e.eb).to e1.eb f2) db2 h2 λs3 z H3 h3 f3 r3=>?_;have d:=r3.db e2.eb;revert h3 d;generalize s3.rd=u;intro h3 d;split at h3
 ·rename_i k;refine⟨k,d.fl.1,?_⟩;have e3:=e2.to f3;cases k with
  |true=>
   refine aGf (hc e3 (h3.1 rfl) λs4 v4 H4 h4 f4 r4=>?_);refine o' (e3.to f4).eb ((db2.to e2.eb f3).to e3.eb f4) (r4.db e3.eb) h4 λs5 v5 H5 h5 f5 r5=>?_;have ff:=((f1.trans f2).trans f3).trans f4;exact q _ _ _ h5 (ff.trans f5) (r5.back ff)
  |false=>exact qK (q _ _ _ (h3.2 rfl) ((f1.trans f2).trans f3) ⟨rfl,rfl⟩)
 ·exact h3.elim
def aEy{op op':CmpOp}{r r':R2}{g g':U->U->(Sl->Prop)->Prop}{a b c:Expr}{F G E:TV}(ho:OpR X (compareOp op) r)(ho':OpR X (compareOp op') r')(o:O2 r g)(o':O2 r' g')(ha:VE X a F)(hb:VE X b G)(hc:VE X c E)(hm:lastMarks [op,op'] [b,c]=false:=by with_unfolding_all rfl):VE X (.Compare a [op,op'] [b,c] pos) (aHn g g' F G E):=
 let⟨_,p,f⟩:=ha;let⟨_,p1,f1⟩:=hb;let⟨_,p2,f2⟩:=hc;⟨_,aMn ho ho' p p1 p2 hm,aFj o o' f f1 f2⟩
def vO{op op':CmpOp}{r r':R2}{g g':U->U->(Sl->Prop)->Prop}{a b c:Expr}{F G E:TV}(ho:OpR X (compareOp op) r)(ho':OpR X (compareOp op') r')(o:O2 r g)(o':O2 r' g')(ha:VE X a F)(hb:VE X b G)(hc:VE X c E)(hm:lastMarks [op,op'] [b,c]=false:=by with_unfolding_all rfl):VC X (.Compare a [op,op'] [b,c] pos) (qH (aHn g g' F G E)):=
 let⟨_,p,f⟩:=ha;let⟨_,p1,f1⟩:=hb;let⟨_,p2,f2⟩:=hc;⟨_,aOc ho ho' p p1 p2 hm,vY (aFj o o' f f1 f2)⟩
def vUn(g:Int->Int)(a:TV):TV:=λρ R=>a ρ λs=>match s.rd with
 |.v (.int i)=>R (.sh (.n (g i)))
 |_=>False
def aNn{F:TV}(ha:VE X a F):VE X (.UnaryOp .USub a pos) (vUn (λi=> -i) F):=let⟨_,p,f⟩:=ha;⟨_,aNv aHb p,λe h q=>f e h λs v H1 h1 f1 r=>by
 have d:=r.db e.eb;revert h1 d;generalize s.rd=u;intro h1 d;split at h1
 ·exact⟨_,d.int,q _ _ _ h1 f1 ⟨rfl,rfl⟩⟩
 ·exact h1.elim⟩
def bB2(a:TV)(k:Str):TV:=λρ R=>a ρ λs=>match s.rd with
 |.dk ns us=>wQ k ns us R
 |_=>False
theorem zM{W B:Addr->Prop}{H:Hp}{f:Str}{R:Sl->Prop}:∀{ns:List Str}{us:List U}{xs:List V},DUs W B H us xs->wQ f ns us R->∃u v,R (.sh u)/\DU W B H u v/\mL ((ns.map Cq).zip xs:List (Key×V)) (Cq f)=some v
 |n::ns,u::us,_,⟨x,r,e,h,t⟩,q=>by
  subst e;rcases q with ⟨rfl,q⟩|⟨ne,q⟩
  ·exact⟨u,x,q,h,by rw[Au,Gr,oR rfl]⟩
  ·obtain⟨u',v,h1,h2,h3⟩:=zM t q;refine⟨u',v,h1,h2,?_⟩;rw[Au,Gr,oA (λz=>ne (Ov z))];exact h3
def lA{k:Str}{j pos p}{F:TV}(hu:X.A.units+1<cLine)(ha:VE X a F)(hs:aLf (.Constant (.str k) j p):=by exactλ_ _=>rfl):VE X (.Subscript a (.Constant (.str k) j p) pos) (bB2 F k):=let⟨_,p,f⟩:=ha;⟨_,aD0 hu p cA hs,λe h q=>f e h λs v H1 h1 f1 r=>by
 have d:=r.db e.eb;revert h1 d;generalize s.rd=u;intro h1 d;split at h1
 ·obtain⟨p,xs,rfl,_,hp,_,ds⟩:=d.dk;obtain⟨u,v,h2,h3,h4⟩:=zM ds h1;refine⟨p,v,rfl,?_,q _ _ _ h2 f1 h3⟩;rw[<-h4];exact aBa.k (k:=Cq k) hp
 ·exact h1.elim⟩
def DBs.one{W B:Addr->Prop}{H:Hp}{u:U}{vs:List V}(h:DBs W B H [u] vs):∃x,vs=[x]/\DB W B H u x:=by
 obtain⟨x,r,e,d,t⟩:=h;obtain rfl:r=[]:=t;exact⟨x,e,d⟩
def DBs.two{W B:Addr->Prop}{H:Hp}{u v:U}{vs:List V}(h:DBs W B H [u,v] vs):∃x y,vs=[x,y]/\DB W B H u x/\DB W B H v y:=by
 obtain⟨x,r,e,d,y,r',rfl,d',t⟩:=h;obtain rfl:r'=[]:=t;exact⟨x,y,e,d,d'⟩
def bA5:List U->(Sl->Prop)->Prop
 | [.ls l],R=>R (.sh (.n l.length))
 | [.tp l],R=>R (.sh (.n l.length))
 |_,_=>False
def dI{K:Ac}:CB (λxs H Q=>∃p ys,xs=[.ref p]/\(SqL K H p ys∨SqT K H p ys)/\Q (.int ys.length) H) bA5:=λ{W B H us vs R Q} e d h q=>by
 unfold bA5 at h;split at h
 ·obtain⟨x,rfl,dd⟩:=DBs.one d;obtain⟨p,xs,rfl,_,hp,ds⟩:=dd.ls e;exact⟨p,xs,rfl,.inl (SqL.of hp),by rw[<-ds.length];exact q _ _ _ h e.refl ⟨rfl,rfl⟩⟩
 ·obtain⟨x,rfl,dd⟩:=DBs.one d;obtain⟨p,xs,rfl,_,hp,ds⟩:=dd.tp;exact⟨p,xs,rfl,.inr (SqT.of hp),by rw[<-ds.length];exact q _ _ _ h e.refl ⟨rfl,rfl⟩⟩
 ·exact h.elim
def DUs.bls{W B:Addr->Prop}{H:Hp}:∀{bs:List Bool}{xs:List V},DUs W B H (bs.map U.b) xs->xs=bs.map V.bl
 | [],_,h=>h
 |_::_,_,⟨x,r,e,d,t⟩=>by rw[e,d.1,DUs.bls t];rfl
def DUs.ints{W B:Addr->Prop}{H:Hp}:∀{ns:List Int}{xs:List V},DUs W B H (ns.map U.n) xs->xs=ns.map V.int
 | [],_,h=>h
 |_::_,_,⟨x,r,e,d,t⟩=>by rw[e,d.1,DUs.ints t];rfl
inductive aVm(f:List Bool->Bool)(us:List U)(R:(Sl->Prop)):Prop
 |mk (bs:List Bool) (q0_:us=[.ls (bs.map U.b)]) (q1_:R (.sh (.b (f bs)))):aVm f us R
def bBs(f:List Bool->Bool):List U->(Sl->Prop)->Prop:=λus R=>aVm f us R
def aIi{X:Cx}{f:List Bool->Bool}(hc:X.calm=true):CB (λxs H Q=>∃(p:Addr)(bs:List Bool),xs=[.ref p]/\SqL X.K H p (bs.map V.bl)/\X.calm=true/\Q (.bl (f bs)) H) (bBs f):=λ{W B H us vs R Q} e d ⟨bs,eu,h⟩ q=>by
 subst eu;obtain⟨x,rfl,dd⟩:=DBs.one d;obtain⟨p,xs,rfl,_,hp,ds⟩:=dd.ls e;rw[ds.bls]at hp;exact⟨p,bs,rfl,SqL.of hp,hc,q _ _ _ h e.refl ⟨rfl,rfl⟩⟩
def aZ9:List U->(Sl->Prop)->Prop
 | [.v (.int i)],R=>R (.sh (.n i))
 | [.v (.bl k)],R=>R (.sh (.n (if k then 1 else 0)))
 |_,_=>False
def aNd:CB (λxs H Q=>(∃i,xs=[.int i]/\Q (.int i) H)∨∃k,xs=[.bl k]/\Q (.int (if k then 1 else 0)) H) aZ9:=λ{W B H us vs R Q} e d h q=>by
 unfold aZ9 at h;split at h
 ·obtain⟨x,rfl,dd⟩:=DBs.one d;exact .inl ⟨_,by rw[dd.int],q _ _ _ h e.refl ⟨rfl,rfl⟩⟩
 ·obtain⟨x,rfl,dd⟩:=DBs.one d;exact .inr ⟨_,by rw[dd.fl.1],q _ _ _ h e.refl ⟨rfl,rfl⟩⟩
 ·exact h.elim
def aUl:List U->(Sl->Prop)->Prop
 | [.ls l],R=>R (.ow l)
 | [.tp l],R=>R (.ow l)
 |_,_=>False
def pR{K:Ac}:CB (aOo K) aUl:=λ{W B H us vs R Q} e d h q=>by
 have fin:∀{l ys}(ds:DUs W B H l ys)(h:R (.ow l)) r,H r=none->Q (.ref r) (upd H r (.lst ys)):=λ{l ys} ds h r n=>by
  have f:=e.new (o:=.lst ys) n;exact q _ _ _ h f ⟨r,_,rfl,n,aJ,DUs.mono (λb o nb h=>⟨λz=>z.elim nb (aQ h n),(e.keep f b o nb h).2⟩) _ ds⟩
 unfold aUl at h;split at h
 ·obtain⟨x,rfl,dd⟩:=DBs.one d;obtain⟨p,xs,rfl,_,hp,ds⟩:=dd.ls e;exact⟨p,xs,rfl,.inl (SqL.of hp),fin ds h⟩
 ·obtain⟨x,rfl,dd⟩:=DBs.one d;obtain⟨p,xs,rfl,_,hp,ds⟩:=dd.tp;exact⟨p,xs,rfl,.inr (SqT.of hp),fin ds h⟩
 ·exact h.elim
def aMx:List U->(Sl->Prop)->Prop
 | [.ls l],R=>R (.sh (.tp l))
 | [.tp l],R=>R (.sh (.tp l))
 |_,_=>False
def aFx{K:Ac}:CB (aKb K) aMx:=λ{W B H us vs R Q} e d h q=>by
 unfold aMx at h;split at h
 ·obtain⟨x,rfl,dd⟩:=DBs.one d;obtain⟨p,xs,rfl,_,hp,ds⟩:=dd.ls e;refine⟨p,xs,rfl,.inl ⟨SqL.of hp,λr n=>?_⟩⟩;have f:=e.new (o:=.tup xs) n;exact q _ _ _ h f ⟨r,_,rfl,e.nw n,aJ,DUs.mono (e.keep f) _ ds⟩
 ·obtain⟨x,rfl,dd⟩:=DBs.one d;obtain⟨p,xs,rfl,nb,hp,ds⟩:=dd.tp;exact⟨p,xs,rfl,.inr ⟨SqT.of hp,q _ _ _ h e.refl ⟨p,xs,rfl,nb,hp,ds⟩⟩⟩
 ·exact h.elim
def dU{i:Int}{t:Tok}(hm:X.mg x=some (.int i t))(hg:Gl X x:=by rfl)(hd:ND x:=by decide):VE X (.Name x pos) (vC (.n i)):=⟨_,zH (v:=.int i) hg hm ⟨_,rfl⟩ hd,aQc rfl⟩
def mK{st:Stmt}:VS X st (λ_ _=>False):=⟨_,eF,λ_ h _=>h⟩
def aUo{e:Expr}{F:TV}(he:VE X e F)(hs:swapsWith e none pos.line X.env=pure false:=by rfl):VS X (.Expr e pos) (vDo F):=let⟨_,p,f⟩:=he;⟨_,cQ p hs,λo h j=>f o.ee h λs v H1 h1 w r=>j.nx (o.to w) h1⟩
def aRl(neg:Bool)(F:TV):TV:=λρ R=>F ρ λs=>match s.rd with
 |.v x=>R (.sh (.b (if neg then !decide (x=.non)else decide (x=.non))))
 |.op _=>False
 |_=>R (.sh (.b neg))
def DB.non{W B:Addr->Prop}{H:Hp}{u:U}(e:EB W B H)(d:DB W B H u y)(h1:∀x,u≠.v x)(h2:∀o,u≠.op o):y≠.non:=by
 intro z;subst z;cases u with
 |v x=>exact h1 x rfl
 |op o=>exact h2 o rfl
 |tp l=>obtain⟨_,_,q,_⟩:=d.tp;cases q
 |ls l=>obtain⟨_,_,q,_⟩:=d.ls e;cases q
 |ob C ns us=>obtain⟨_,_,_,q,_⟩:=d.ob;cases q
 |dk ns us=>obtain⟨_,_,q,_⟩:=d.dk;cases q
 |wl=>
  rcases d with ⟨_,q,_⟩|⟨_,_,_,q,_⟩<;>cases q
def aW7{F:TV}(f:VT t F):VT (aY0 t) (aRl false F):=λe h q=>f e h λs v H1 h1 w r=>by
 have d:=r.db e.eb;revert h1 d;generalize s.rd=u;intro h1 d;split at h1
 ·rw[d.fl.1];exact q _ _ _ h1 w ⟨rfl,rfl⟩
 ·exact h1.elim
 ·rename_i n1 n2;rw[decide_eq_false (d.non (e.to w).eb n1 n2)];exact q _ _ _ h1 w ⟨rfl,rfl⟩
def aSa{F:TV}(f:VT t F):VT (aTy t) (aRl true F):=λe h q=>f e h λs v H1 h1 w r=>by
 have d:=r.db e.eb;revert h1 d;generalize s.rd=u;intro h1 d;split at h1
 ·rw[d.fl.1];exact q _ _ _ h1 w ⟨rfl,rfl⟩
 ·exact h1.elim
 ·rename_i n1 n2;rw[decide_eq_false (d.non (e.to w).eb n1 n2)];exact q _ _ _ h1 w ⟨rfl,rfl⟩
def aUj{F:TV}(h:VT t F):VTc (tB t) (qH F):=vY h
def aXm{j pos pos'}{F:TV}(ha:VE X a F):VC X (.Compare a [.Is] [.Constant .none j pos'] pos) (qH (aRl false F)):=let⟨_,p,f⟩:=ha;⟨_,aMm (aXd p),aUj (aW7 f)⟩
def aJk{j pos pos'}{F:TV}(ha:VE X a F):VC X (.Compare a [.IsNot] [.Constant .none j pos'] pos) (qH (aRl true F)):=let⟨_,p,f⟩:=ha;⟨_,aMm (aSh p),aUj (aSa f)⟩
inductive Tg where
 |non|bl|int|str|tp|ls|dk
def tyU:U->Option Tg
 |.v .non=>some .non
 |.v (.bl _)=>some .bl
 |.v (.int _)=>some .int
 |.v (.str _)=>some .str
 |.tp _=>some .tp
 |.ls _=>some .ls
 |.dk _ _=>some .dk
 |_=>none
def Tg.nm:Tg->String
 |.non=>"NoneType"|.bl=>"bool"|.int=>"int"|.str=>"str"|.tp=>"tuple"|.ls=>"list"|.dk=>"dict"
def isT:Tg->Tg->Bool
 |.non,.non=>true
 |.bl,.bl=>true
 |.bl,.int=>true
 |.int,.int=>true
 |.str,.str=>true
 |.tp,.tp=>true
 |.ls,.ls=>true
 |.dk,.dk=>true
 |_,_=>false
def aYo{W B:Addr->Prop}{H:Hp}{u:U}{t:Tg}{K:Ac}(e:EB W B H)(d:DB W B H u y)(h:tyU u=some t):wK K H y (.type t.nm):=by
 unfold tyU at h;split at h<;>cases h
 ·rw[d.fl.1];exact .non
 ·rw[d.fl.1];exact .bl _
 ·rw[d.fl.1];exact .int _
 ·rw[d.fl.1];exact .str _
 ·obtain⟨p,xs,rfl,_,h,_⟩:=d.tp;exact .tup h
 ·obtain⟨p,xs,rfl,_,h,_⟩:=d.ls e;exact .lst h
 ·obtain⟨p,xs,rfl,_,h,_⟩:=d.dk;exact .dK h
def aW8{K:Ac}{t n:Tg}(hn:n≠.non):Me K (.type t.nm) (.type n.nm)=some (isT t n):=by
 cases t<;>cases n<;>first|rfl|exact(hn rfl).elim
def bB7(n:Tg)(F:TV):TV:=λρ R=>F ρ λs=>∃t,tyU s.rd=some t/\R (.sh (.b (isT t n)))
def tY{F:TV}{p p' pos:Pos}(n:Tg)(hn:n≠.non)(hm:X.mg "isinstance"=none)(hm2:X.mg x=none)(hv:bootBuiltins x=some (.type n.nm))(ha:VE X a F)(hg:Gl X "isinstance":=by rfl)(hg2:Gl X x:=by rfl)(h1:x≠"__name__":=by decide)(h2:ND x:=by decide)
  (hs:starEach [a,.Name x p'] X.env=(false,eval a X.env)::starEach [.Name x p'] X.env:=by rfl) (hs2:starEach [.Name x p'] X.env=(false,eval (.Name x p') X.env)::starEach [] X.env:=by rfl) (hpl:BT X pos [.Name x p']:=by rfl):
  VE X (.Call (.Name "isinstance" p) [a,.Name x p'] [] pos) (bB7 n F):=
 let⟨_,q,f⟩:=ha;⟨_,fQ xV hg hm Ou (aM q (aM (aDs (v:=.ty n.nm) hg2 hm2 hv rfl h1 h2) aZ hs2) hs) ⋯ ⋯ hs hpl,λe h q=>f e h λs v H1 ⟨t,ht,h1⟩ w r=>
  ⟨_,_,_,_,rfl,aYo (K:=X.K) (e.to w).eb (r.db e.eb) ht,aW8 hn,q _ _ _ h1 w ⟨rfl,rfl⟩⟩⟩
def gIn(neg:Bool):U->U->(Sl->Prop)->Prop
 |u,.ls l,R=>u.dt 40/\U.dts 40 l/\R (.sh (.b (if neg then !(l.any λe=>e.eq u)else l.any λe=>e.eq u)))
 |u,.tp l,R=>u.dt 40/\U.dts 40 l/\R (.sh (.b (if neg then !(l.any λe=>e.eq u)else l.any λe=>e.eq u)))
 |_,_,_=>False
theorem aH4(u:U):∀l:List U,((U.ds l).any λe=>e.eq u.d)=l.any λe=>e.eq u
 | []=>rfl
 |a::l=>by rw[U.ds,Do,Do,aH4 u l];rfl
def aNg{K:Ac}{neg:Bool}:O2 (aYc K neg) (gIn neg):=λ{W B H u v x y R Q} e d1 d2 h q=>by
 unfold gIn at h;split at h
 ·obtain⟨t1,t2,h⟩:=h;obtain⟨p,xs,rfl,_,hp,ds⟩:=d2.ls e;have h1:=U.dep 40 u t1;have h2:=U.deps 40 _ t2;exact⟨u.d,p,xs,_,d1.den t1,rfl,.inl (SqL.of hp),DUs.dens 40 _ t2 ds,∅,by rw[aH4];exact q _ _ _ h e.refl ⟨rfl,rfl⟩⟩
 ·obtain⟨t1,t2,h⟩:=h;obtain⟨p,xs,rfl,_,hp,ds⟩:=d2.tp;have h1:=U.dep 40 u t1;have h2:=U.deps 40 _ t2;exact⟨u.d,p,xs,_,d1.den t1,rfl,.inr (SqT.of hp),DUs.dens 40 _ t2 ds,∅,by rw[aH4];exact q _ _ _ h e.refl ⟨rfl,rfl⟩⟩
 ·exact h.elim
inductive aU4(us:List U)(R:(Sl->Prop)):Prop
 |mk (ns:List Int) (q0_:us=[.ls (ns.map U.n)]) (q1_:ns.length<=1000) (q2_:(∀n∈ns,0<=n/\n<=1000)) (q3_:R (.sh (.n ns.sum))):aU4 us R
def bCn:List U->(Sl->Prop)->Prop:=λus R=>aU4 us R
def aXw{K:Ac}:CB (bBa K) bCn:=λ{W B H us vs R Q} e d ⟨ns,eu,hl,hn,h⟩ q=>by
 subst eu;obtain⟨x,rfl,dd⟩:=DBs.one d;obtain⟨p,xs,rfl,_,hp,ds⟩:=dd.ls e;rw[ds.ints]at hp;exact⟨p,ns,rfl,SqL.of hp,hl,hn,q _ _ _ h e.refl ⟨rfl,rfl⟩⟩
def gII(f:Int->Int->Int):List U->(Sl->Prop)->Prop
 | [.v (.int i),.v (.int j)],R=>R (.sh (.n (f i j)))
 |_,_=>False
def aVe{f:Int->Int->Int}:CB (λxs H Q=>∃i j,xs=[.int i,.int j]/\Q (.int (f i j)) H) (gII f):=λ{W B H us vs R Q} e d h q=>by
 unfold gII at h;split at h
 ·obtain⟨x,y,rfl,d1,d2⟩:=DBs.two d;exact⟨_,_,by rw[d1.int,d2.int],q _ _ _ h e.refl ⟨rfl,rfl⟩⟩
 ·exact h.elim
def aZk(F:TVa)(D:TV):TV:=λρ R=>F ρ λus=>D ρ λs=>∃ns:List Int,us=[.ls (ns.map U.n)]/\match s.rd with
 |.v (.int d)=>(ns=[]->R (.sh (.n d)))/\∀m:Int,m∈ns->(∀a∈ns,a<=m)->R (.sh (.n m))
 |_=>False
def aKa{k:Expr}{kp:Pos}{F:TVa}{D:TV}{p pos:Pos}(hc:X.calm=true)(hm:X.mg "max"=none)(ha:VB X [a] F)(hk:VE X k D)(hg:Gl X "max":=by rfl)
  (hkw:∀{tk:TE},PE X k tk->PK X [⟨some "default",k,kp⟩] (aNc tk aS2):=by exactλh=>aS4 h aXl)
  (hall:(backToKw pos (keywordEach [⟨some "default",k,kp⟩] X.env)).all (·.1.isSome)=true:=by rfl) (hks:(backToKw pos (keywordEach [⟨some "default",k,kp⟩] X.env)).filterMap (·.1)=[("default":Str)]:=by rfl)
  (he:SE X a []:=by rfl) (hpl:BT X pos [a]:=by rfl) (hpk:(backToKw pos (keywordEach [⟨some "default",k,kp⟩] X.env)).any (·.1.isNone)=false:=by rfl):
  VE X (.Call (.Name "max" p) [a] [⟨some "default",k,kp⟩] pos) (aZk F D):=
 let⟨_,q1,f1⟩:=ha;let⟨_,q2,f2⟩:=hk;⟨_,aLt (aLz hc) hg hm boot_max q1 (hkw q2) hall hks ⋯ ⋯ he hpl hpk,λe h q=>f1 e h λus vs H1 h1 w1 d1=>f2 (e.to w1) h1 λs v H2 h2 w2 r2=>by
  obtain⟨ns,eu,h2⟩:=h2;subst eu;have e2:=(e.to w1).to w2;obtain⟨x,rfl,d⟩:=DBs.one (DBs.to (e.to w1).eb w2 d1);obtain⟨p,xs,rfl,_,hp,ds⟩:=d.ls e2.eb;rw[ds.ints]at hp;have dd:=r2.db (e.to w1).eb;revert h2 dd;generalize s.rd=u;intro h2 dd;split at h2
  ·rw[dd.int];exact⟨p,ns,_,rfl,rfl,SqL.of hp,λz=>q _ _ _ (h2.1 z) (w1.trans w2) ⟨rfl,rfl⟩,λm hm ha=>q _ _ _ (h2.2 m hm ha) (w1.trans w2) ⟨rfl,rfl⟩⟩
  ·exact h2.elim⟩
def huD{A:Around}(hr:dG k A):A.units+101<cLine:=by have:=hr.un;lia
def Rbl{R:Sl->Prop}{c d:Bool}(q:R (.sh (.b d)))(h:c=d):R (.sh (.b c)):=h▸q
theorem bM{g:TVg}{b:TVS}{E:aF4}(I:List U->EV->Prop)(hn:∀ρ,I [] ρ->E.nx ρ)(hc:∀u r ρ,I (u::r) ρ->(∀ρ',I r ρ'->mX g b E r ρ')->mX g b E (u::r) ρ):∀{l ρ},I l ρ->mX g b E l ρ
 | [],ρ,h=>hn ρ h
 |u::r,ρ,h=>hc u r ρ h λ_ h'=>bM I hn hc h'
theorem fY{f:U->(Option U->Prop)->Prop}{R:List U->Prop}{h:U->U}:∀{l acc:List U},(∀u∈l,∀k,k (some (h u))->f u k)->R (acc++l.map h)->iK f l acc R
 | [],acc,_,r=>by rw[Dg,Bf]at r;exact r
 |u::l,acc,hf,r=>hf u Af _ (fY (λx hx=>hf x (Ae _ hx)) (by rw[Bi];exact r))
abbrev Tke:Type:=Int×List Int
def tkU(x:Tke):U:=.tp [.n x.1,.tp (x.2.map U.n)]
def DUs.mapInts{W B:Addr->Prop}{H:Hp}:∀{ns:List Int},DUs W B H (ns.map U.n) (ns.map V.int)
 | []=>rfl
 |_::_=>⟨_,_,rfl,⟨rfl,rfl⟩,DUs.mapInts⟩
theorem aP1{W B:Addr->Prop}{H:Hp}:∀{xs:List Tke}{zs:List V},DUs W B H (xs.map tkU) zs->∃ps:List (Tke×Addr),zs=ps.map (λx=>V.ref x.2)/\ps.map (·.1)=xs/\∀x∈ps,PKy H x/\DU W B H (tkU x.1) (.ref x.2)
 | [],_,h=>⟨[],h,rfl,λ_ z=>nomatch z⟩
 |x::xs,_,⟨v,r,e,d,t⟩=>by
  obtain⟨ps,e1,e2,h⟩:=aP1 t;obtain⟨a,ys,rfl,nb,ha,y1,_,rfl,f1,y2,r2,rfl,⟨q,zs,rfl,nq,hq,dz⟩,e3⟩:=id d;obtain rfl:r2=[]:=e3;rw[f1.1]at ha;refine⟨(x,a)::ps,by rw[e,e1];rfl,by rw[Au,e2],λz hz=>?_⟩;rcases List.mem_cons.mp hz with rfl|hz
  ·exact⟨⟨q,ha,by rw[dz.ints]at hq;exact hq⟩,d⟩
  ·exact h z hz
theorem aG4{W B:Addr->Prop}{H:Hp}:∀{ps:List (Tke×Addr)},(∀x∈ps,DU W B H (tkU x.1) (.ref x.2))->DUs W B H ((ps.map (·.1)).map tkU) (ps.map λx=>V.ref x.2)
 | [],_=>rfl
 |x::ps,h=>⟨_,_,rfl,h x Af,aG4 λy hy=>h y (Ae _ hy)⟩
def bAv(F:TVa):TV:=λρ R=>F ρ λus=>∃xs:List Tke,us=[.ls (xs.map tkU)]/\xs.length<=60/\∀ys:List Tke,ys.Pairwise (λx y=>iV x y=true)->(∀y,y∈ys↔y∈xs)->R (.ow (ys.map tkU))
def aWy(F:TVa):TV:=λρ R=>F ρ λus=>∃(ns:List Nat)(x:Nat),us=[.ls (ns.map λk:Nat=>U.n k)]/\(∀n∈ns,n=x)/\x∈[1,2,3]/\R (.ow ((zs1 x (decide (0<ns.length))).map λk:Nat=>U.n k))
def DUs.nats{W B:Addr->Prop}{H:Hp}:∀{ns:List Nat}{xs:List V},DUs W B H (ns.map λk:Nat=>U.n k) xs->xs=xU ns
 | [],_,h=>h
 |_::_,_,⟨x,r,e,d,t⟩=>by rw[e,d.1,DUs.nats t];rfl
def DUs.ofNats{W B:Addr->Prop}{H:Hp}:∀{ns:List Nat},DUs W B H (ns.map λk:Nat=>U.n k) (xU ns)
 | []=>rfl
 |_::_=>⟨_,_,rfl,⟨rfl,rfl⟩,DUs.ofNats⟩
def aC5{F:TVa}{p p' pos pos':Pos}(hr:dG k X.A)(hc:X.calm=true)(h1:X.mg "sorted"=none)(h2:X.mg "set"=none)(ha:VB X [a] F)(g1:Gl X "sorted":=by rfl)(g2:Gl X "set":=by rfl)(hs:SE X a []:=by rfl)(hpl:BT X pos' []:=by rfl)
  (hs':starEach [.Call (.Name "set" p') [a] [] pos'] X.env=(false,eval (.Call (.Name "set" p') [a] [] pos') X.env)::starEach [] X.env:=by rfl) (hpl':BT X pos []:=by rfl):VE X (.Call (.Name "sorted" p) [.Call (.Name "set" p') [a] [] pos'] [] pos) (bAv F):=
 let⟨_,q,f⟩:=ha;⟨_,fQ (aEc (by have:=hr.un;lia) hc) g1 h1 Tc (aM (lU (aLu (by have:=hr.un;lia) hc) g2 h2 boot_set q ⋯ ⋯ hs hpl) aZ hs') ⋯ ⋯ hs' hpl',λ{W B ρ σ H R Q} e h q=>f e h λus vs H1 ⟨xs,eu,xl,h1⟩ w1 d=>by
  subst eu;have e1:=e.to w1;obtain⟨x,rfl,dd⟩:=DBs.one d;obtain⟨p,zs,rfl,_,hp,ds⟩:=dd.ls e1.eb;obtain⟨ps,rfl,rfl,hk⟩:=aP1 ds;rw[Ab]at xl;refine⟨p,ps,rfl,SqL.of hp,λx hx=>(hk x hx).1,∅,⟨ps.map (·.1),by rw[Ab];lia,λx hx=>List.mem_map.mpr ⟨x,hx,rfl⟩⟩,λl zs nl nd sub all zl=>?_⟩;have w2:=e1.eb.new (o:=.ext (lD X.prog X.w l zs)) nl;have k2:∀x∈zs,PKy (upd H1 l (.ext (lD X.prog X.w l zs))) x/\DU W B (upd H1 l (.ext (lD X.prog X.w l zs))) (tkU x.1) (.ref x.2):=λx hx=>by
   obtain⟨⟨q,a1,a2⟩,a3⟩:=hk x (sub x hx);exact⟨⟨q,(aP (aQ a1 nl)).trans a1,(aP (aQ a2 nl)).trans a2⟩,DU.mono (e1.eb.keep w2) _ a3⟩
  have e2:=e1.to w2;refine⟨l,zs,rfl,aJ,λx hx=>(k2 x hx).1,∅,λm ys nm pm pw=>?_⟩;have w3:=e2.eb.new (o:=.lst (ys.map λx=>V.ref x.2)) nm;refine q (.ow ((ys.map (·.1)).map tkU)) _ _ (h1 _ ?_ λy=>?_) ((w1.trans w2).trans w3) (RO.back (s:=.ow _) (w1.trans w2) ⟨m,_,rfl,nm,aJ,aG4 λx hx=>?_⟩)
  ·rw[Dn];exact pw
  ·constructor
   ·intro hy;obtain⟨x,hx,rfl⟩:=List.mem_map.mp hy;exact List.mem_map.mpr ⟨x,sub x (pm.mem_iff.mp hx),rfl⟩
   ·intro hy;obtain⟨x,hx,rfl⟩:=List.mem_map.mp hy;obtain⟨z,hz,e⟩:=all x hx;exact List.mem_map.mpr ⟨z,pm.mem_iff.mpr hz,e⟩
  ·exact DU.mono (λb o nb h=>⟨λz=>z.elim nb (aQ h nm),(e2.eb.keep w3 b o nb h).2⟩) _ (k2 x (pm.mem_iff.mp hx)).2⟩
def aQ3{F:TVa}{p p' pos pos':Pos}(hc:X.calm=true)(h1:X.mg "sorted"=none)(h2:X.mg "set"=none)(ha:VB X [a] F)(g1:Gl X "sorted":=by rfl)(g2:Gl X "set":=by rfl)(hs:SE X a []:=by rfl)(hpl:BT X pos' []:=by rfl)
  (hs':starEach [.Call (.Name "set" p') [a] [] pos'] X.env=(false,eval (.Call (.Name "set" p') [a] [] pos') X.env)::starEach [] X.env:=by rfl) (hpl':BT X pos []:=by rfl):VE X (.Call (.Name "sorted" p) [.Call (.Name "set" p') [a] [] pos'] [] pos) (aWy F):=
 let⟨_,q,f⟩:=ha;⟨_,fQ (aDy hc) g1 h1 Tc (aM (lU (aK9 hc) g2 h2 boot_set q ⋯ ⋯ hs hpl) aZ hs') ⋯ ⋯ hs' hpl',λ{W B ρ σ H R Q} e h q=>f e h λus vs H1 ⟨ns,y,eu,hn,h3,h1⟩ w1 d=>by
  subst eu;have e1:=e.to w1;obtain⟨x,rfl,dd⟩:=DBs.one d;obtain⟨p,zs,rfl,_,hp,ds⟩:=dd.ls e1.eb;rw[ds.nats]at hp;refine⟨p,ns,y,rfl,SqL.of hp,hn,h3,λl nl=>?_⟩;have w2:=e1.eb.new (o:=.ext (aB6 X.w l y (decide (0<ns.length)))) nl;have e2:=e1.to w2;refine⟨l,y,_,rfl,aJ,h3,λm nm=>?_⟩;have w3:=e2.eb.new (o:=.lst (xU (zs1 y (decide (0<ns.length))))) nm;exact q (.ow _) _ _ h1 ((w1.trans w2).trans w3) (RO.back (s:=.ow _) (w1.trans w2) ⟨m,_,rfl,nm,aJ,DUs.ofNats⟩)⟩
inductive aZi(C:Addr)(F:List U->(List Str->List U->Prop)->Prop)(vs:List V)(H:Hp)(Q:VK)(z3_:XK):Prop
 |mk (x dx vs' H1 W B us R:_) (q0_:vs=.ref x::vs') (q1_:H1 x=none) (q2_:H x=some (.ins C dx [])) (q3_:fJ H1 H) (q4_:EB W B H1) (q5_:DUs W B H1 us vs') (q6_:F us R) (q7_:∀ns ws xs H',R ns ws->Fw W H1 H'->H' x=some (.ins C dx (ns.zip xs))->ns.length=xs.length->DUs W B H' ws xs->Q .non H'):aZi C F vs H Q z3_
def spI(C:Addr)(F:List U->(List Str->List U->Prop)->Prop):Sp:=λvs H Q z3_=>aZi C F vs H Q z3_
structure MkU(P:Program)(w:World)(K:Ac)(mg:Str->Option Value)(base:Heap)(k:Nat)(C:Addr)(x:Str)(ps:List Str)(F:List U->(List Str->List U->Prop)->Prop):Prop where
 ex:∃f fd,bC P w K mg base CX0 k f fd ps (spI C F)/\Mk K C f/\mg x=some (.ref C)/\Binds K fd ps []
def bBb(C:Addr)(F:List U->(List Str->List U->Prop)->Prop)(a:TVa):TV:=λρ R=>a ρ λus=>F us λns ws=>R (.sh (.ob C ns ws))
def aJj{F:List U->(List Str->List U->Prop)->Prop}{es:List Expr}{G:TVa}{p pos:Pos}(M:MkU X.prog X.w X.K X.mg X.base k C x ps F)(hr:dG (k+1) X.A)(ha:VA X (a::es) G)(hg:Gl X x:=by rfl)
  (hdb:ND x:=by decide) (he:SE X a es:=by rfl) (hpl:BT X pos es:=by rfl):VE X (.Call (.Name x p) (a::es) [] pos) (bBb C F G):=by
 obtain⟨f,fd,Fo,Mk_,hm,hb⟩:=M.ex;obtain⟨_,p,g⟩:=ha;refine⟨_,aKi Mk_ Fo hr hg hm hb .nil (E:=E0) bH p hdb he hpl,λ{W B ρ σ H R Q} e h q=>g e h λus vs H1 h1 _ w d=>λx dx nx nd ne=>?_⟩;have e1:=(e.to w).eb;refine⟨x,dx,vs,H1,W,B,us,_,by rw[Bf],nx,aJ,λb o hb=>?_,e1,d,h1,λns ws xs H' hR fw hx hl ds=>⟨rfl,q (.sh (.ob C ns ws)) _ _ hR (w.trans fw) ⟨x,dx,xs,rfl,e1.nw nx,hx,hl,ds⟩⟩⟩;rw[aP (aQ hb nx),aP (aQ hb nd)];exact hb
def aCl{F:TV}{σ:St}{H:Hp}{W B:Addr->Prop}{ρ:EV}{R:Sl->Prop}(e:EE W B H ρ σ)(h:F ρ R)(q:∀s v H',R s->Fw W H H'->RO W B H H' s v->Q v H'):tV F σ H Q:=⟨W,B,ρ,R,e,h,q⟩
def aAw{F:TVc}{σ:St}{H:Hp}{Q:Bool->Hp->Prop}{W B:Addr->Prop}{ρ:EV}{R:Bool->Prop}(e:EE W B H ρ σ)(h:F ρ R)(q:∀c H',R c->Fw W H H'->Q c H'):tVc F σ H Q:=⟨W,B,ρ,R,e,h,q⟩
section
variable {W B:Addr->Prop}{H H':Hp}
def mY{ρ:EV}{σ:St}{u:U}(d:DU W B H u v)(e:EE W B H ρ σ):EE W B H (.sh u::ρ) (some v::σ):=by
 refine⟨e.eb,by rw[Ah,Ah,e.len],λi u' h=>?_,λi s w h hs=>?_⟩
 ·cases i with
  |zero=>cases h;exact⟨v,rfl,d⟩
  |succ i=>exact e.sh i u' h
 ·cases i with
  |zero=>cases h;cases hs
  |succ i=>exact e.hd i s w h hs
def aNy(e:EB W B H):EE W B H [] []:=⟨e,rfl,nofun,nofun⟩
def pJ{ρ:EV}{σ:St}{v:Option V}(e:EE W B H ρ σ):EE W B H (.no::ρ) (v::σ):=by
 refine⟨e.eb,by rw[Ah,Ah,e.len],λi u' h=>?_,λi s w h hs=>?_⟩
 ·cases i with
  |zero=>cases h
  |succ i=>exact e.sh i u' h
 ·cases i with
  |zero=>cases h;cases hs
  |succ i=>exact e.hd i s w h hs
mutual
theorem DU.data(k:∀b o,¬B b->H b=some o->(∃xs,o=.tup xs)∨(∃xs,o=.lst xs)->H' b=some o):∀(n:Nat)(u:U){v:V},u.dt n->DU W B H u v->DU W B H' u v
 |_,.v _,_,_,h=>h
 |n+1,.tp l,_,t,⟨p,xs,e,nb,hp,ds⟩=>⟨p,xs,e,nb,k _ _ nb hp (.inl ⟨_,rfl⟩),DUs.data k n l t ds⟩
 |n+1,.ls l,_,t,⟨p,xs,e,nb,hp,ds⟩=>⟨p,xs,e,nb,k _ _ nb hp (.inr ⟨_,rfl⟩),DUs.data k n l t ds⟩
theorem DUs.data(k:∀b o,¬B b->H b=some o->(∃xs,o=.tup xs)∨(∃xs,o=.lst xs)->H' b=some o):∀(n:Nat)(l:List U){xs:List V},U.dts n l->DUs W B H l xs->DUs W B H' l xs
 |_,[],_,_,h=>h
 |n,u::l,_,⟨t,t'⟩,⟨x,r,e,h,h'⟩=>⟨x,r,e,DU.data k n u t h,DUs.data k n l t' h'⟩
end
def Fw.upd{H1:Hp}{x:Addr}{o:HO}(f:Fw W H1 H)(n:H1 x=none)(nw:¬W x):Fw W H1 (upd H x o):=⟨λb u w h=>(aP (aQ h n)).trans (f.fr b u w h),λp hp=>by
 obtain⟨a,b,c,h⟩:=f.wo p hp;exact⟨a,b,c,(aP (λz:p=x=>nw (by rw[<-z];exact hp))).trans h⟩⟩
def fM{x C dx:Addr}{fs:List (Str×V)}{o:HO}(h:H x=some (.ins C dx fs)):∀b u,¬B b->H b=some u->(∃xs,u=.tup xs)∨(∃xs,u=.lst xs)->upd H x o b=some u:=λb u _ hb ht=>by
 refine(aP (λz:b=x=>?_)).trans hb;rw[z,h]at hb;rcases ht with ⟨xs,rfl⟩|⟨xs,rfl⟩<;>cases hb
end
section
variable {W W' B:Addr->Prop}{H:Hp}
mutual
def Nw:U->Prop
 |.v _=>True
 |.tp l=>Nws l
 |.ls l=>Nws l
 |.ob _ _ us=>Nws us
 |.dk _ us=>Nws us
 |_=>False
def Nws:List U->Prop
 | []=>True
 |u::l=>Nw u/\Nws l
end
mutual
theorem DU.nw:∀(u:U){v:V},Nw u->DU W B H u v->DU W' B H u v
 |.v _,_,_,h=>h
 |.tp l,_,n,⟨p,xs,e,nb,hp,t⟩=>⟨p,xs,e,nb,hp,DUs.nw l n t⟩
 |.ls l,_,n,⟨p,xs,e,nb,hp,t⟩=>⟨p,xs,e,nb,hp,DUs.nw l n t⟩
 |.ob _ _ us,_,n,⟨p,dx,xs,e,nb,hp,hl,t⟩=>⟨p,dx,xs,e,nb,hp,hl,DUs.nw us n t⟩
 |.dk _ us,_,n,⟨p,xs,e,nb,hp,hl,t⟩=>⟨p,xs,e,nb,hp,hl,DUs.nw us n t⟩
theorem DUs.nw:∀(l:List U){xs:List V},Nws l->DUs W B H l xs->DUs W' B H l xs
 | [],_,_,h=>h
 |u::l,_,⟨n,n'⟩,⟨x,r,e,h,t⟩=>⟨x,r,e,DU.nw u n h,DUs.nw l n' t⟩
end
end
def Sl.nw:Sl->Prop
 |.sh u=>Nw u
 |.ow l=>Nws l
 |_=>False
def vWl(i:Nat)(G:TVS):TVS:=λE ρ=>match (ρ[i]? :Option Sl)with
 |some (.ow [.v (.int _),.v (.int _),.v (.int _)])=>G {nx:=λ_=>False,rt:=λs=>s.nw/\E.rt s} (ρ.set i (.sh .wl))
 |_=>False
open Classical in
def aP0{X:Cx}{st:List Stmt}{G:TVS}(i:Nat)(h:VSs X st G):VSs X st (vWl i G):=let⟨_,p,f⟩:=h;⟨_,p,λ{W B H0 A ρ σ H E D} o h j=>by
 unfold vWl at h;split at h
 ·rename_i a b c hi;obtain⟨q,xs,h1,h2,h3,h4⟩:=o.ow i _ hi;have ex:xs=[.int a,.int b,.int c]:=DUs.ints (ns:=[a,b,c]) h4;subst ex;have hq:=(h2 q).mpr rfl;have nq:H0 q=none:=o.an i q hq;have nB:¬B q:=o.now nq;have bx:∀b,Bx (λb=>B b∨b=q) (λj q=>j≠i/\A j q) b↔Bx B A b:=λb=>by
   constructor
   ·rintro((h|rfl)|⟨j,h⟩)
    ·exact .inl h
    ·exact .inr ⟨i,hq⟩
    ·exact .inr ⟨j,h.2⟩
   ·rintro(hb|⟨j,hb⟩)
    ·exact .inl (.inl hb)
    ·by_cases e:j=i
     ·rw[e]at hb;exact .inl (.inr ((h2 b).mp hb))
     ·exact .inr ⟨j,e,hb⟩
  have k:∀b x,¬Bx B A b->H b=some x->¬Bx (λb=>B b∨b=q) (λj q=>j≠i/\A j q) b/\H b=some x:=λb x n h=>⟨λz=>n ((bx b).mp z),h⟩;have own:∀b,B b->¬ ∃j,j≠i/\A j b:=λb hb ⟨j,_,h⟩=>o.now (o.an j b h) hb;have ownq:¬ ∃j,j≠i/\A j q:=λ⟨j,n,h⟩=>n (o.inj j i q h hq);let H2:Hp:=λb=>if∃j,j≠i/\A j b then none else H b
  have hH2:∀b x,H2 b=some x->H b=some x:=λb x h=>by
   have h:(if∃j,j≠i/\A j b then none else H b)=some x:=h;split at h
   ·cases h
   ·exact h
  have hH:∀b,(¬ ∃j,j≠i/\A j b)->H2 b=H b:=λb n=>if_neg n;have e0:=o.ee.eb;have Wl:∀p,(W p∨p=q)->Wll H p:=λp hp=>hp.elim (o.fw.wo p) λe=>⟨a,b,c,by rw[e];exact h3⟩;have wq:∀p,(W p∨p=q)->¬ ∃j,j≠i/\A j p:=λp hp=>hp.elim (λw=>own p (o.eb.wb p w)) λe=>by rw[e];exact ownq
  have o2:EO (λp=>W p∨p=q) (λb=>B b∨b=q) H2 (λj q=>j≠i/\A j q) (ρ.set i (.sh .wl)) σ H:=by
   refine⟨⟨λp hp=>?_,λp hp=>hp.elim (λw=> .inl (o.eb.wb p w)) .inr,λp hp=>?_⟩,⟨λb x _ h=>hH2 b x h,Wl⟩,by rw[Cm,o.len],λj p h=>if_pos ⟨j,h⟩,λj p h=>o.aw j p h.2,λj j' p h h'=>o.inj j j' p h.2 h'.2,λj u h=>?_,λj m w h hm=>?_,λj m h=>?_⟩
   ·rcases hp with hp|hp
    ·obtain⟨xs,e,m⟩:=e0.bl p (.inl hp);exact⟨xs,(hH p (own p hp)).trans e,m⟩
    ·exact⟨.lst _,(hH p (wq p (.inr hp))).trans (by rw[hp];exact h3),trivial⟩
   ·obtain⟨x,y,z,e⟩:=Wl p hp;exact⟨x,y,z,(hH p (wq p hp)).trans e⟩
   ·rcases cW h with ⟨rfl,e,hl⟩|⟨ne,h⟩
    ·cases e;exact⟨_,h1,q,rfl,.inr rfl⟩
    ·obtain⟨v',g1,g2⟩:=o.sh j u h;exact⟨v',g1,DU.wm (λ_=> .inl) u (DU.mono k u g2)⟩
   ·rcases cW h with ⟨rfl,rfl,hl⟩|⟨ne,h⟩
    ·cases hm
    ·obtain⟨p,g1,g3⟩:=o.hd j m w h hm;exact⟨p,g1,w.at_ (w.wm (λ_=> .inl) (w.mono k (λ_ _=>rfl) g3)) (aG8 ne)⟩
   ·rcases cW h with ⟨rfl,rfl,hl⟩|⟨ne,h⟩
    ·rfl
    ·exact o.nb j m h
  have keep:∀b x,H0 b=some x->H b=some x->H2 b=some x:=λb x h0 h=>(hH b λ⟨j,_,e⟩=>by rw[o.an j b e]at h0;cases h0).trans h;refine f o2 h ⟨λ_ z=>z.elim,λ_ z=>z.elim,λ_ z=>z.elim,λ{s v Hf} fw r hs=>?_,λ_ _ z=>z.elim⟩;have fW:Fw W H0 Hf:=⟨λb x w h0=>fw.fr b x (λz=>z.elim w λe=>by rw[e,nq]at h0;cases h0) (keep b x h0 (o.fw.fr b x w h0)),λp hp=>fw.wo p (.inl hp)⟩;have kb:∀b x,¬(B b∨b=q)->Hf b=some x->¬B b/\Hf b=some x:=λb x n h=>⟨λz=>n (.inl z),h⟩;refine j.rt fW ?_ hs.2;match s,r,hs.1 with
  |.sh u,r,n=>exact DU.nw u n (DU.mono kb u r)
  |.ow l,⟨p',ys,e1,e2,e3,e4⟩,n=>
   refine⟨p',ys,e1,?_,e3,DUs.nw l n (DUs.mono (λb x n h=>⟨λz=>n (z.elim (λz=> .inl (.inl z)) .inr),h⟩) l e4)⟩;cases z:H0 p' with
   |none=>rfl
   |some x=>
    by_cases w:W p'
    ·obtain⟨_,_,_,y⟩:=o2.eb.wo p' (.inl w);rw[y]at e2;cases e2
    ·rw[keep p' x z (o.fw.fr p' x w z)]at e2;cases e2
 ·exact h.elim⟩
theorem oM{f:U->(Option U->Prop)->Prop}{R:List U->Prop}(P:U->Prop):∀{l acc:List U},(∀u∈l,∀k:Option U->Prop,(∀x,P x->k (some x))->f u k)->(∀xs:List U,xs.length=l.length->(∀x∈xs,P x)->R (acc++xs))->iK f l acc R
 | [],acc,_,r=>by
  have:=r [] rfl nofun
  rw[Bf]at this;exact this
 |u::l,acc,hf,r=>hf u Af _ λx hx=>oM P (λy hy=>hf y (Ae _ hy)) λxs el hp=>by
  rw[Bi];exact r (x::xs) (by rw[Ah,Ah,el]) λy hy=>by
   rcases List.mem_cons.mp hy with rfl|hy
   ·exact hx
   ·exact hp y hy
def bBd:List U->(Sl->Prop)->Prop
 | [.v (.int i)],R=>i.natAbs.log2<1920/\R (.sh (.s (tx (itx i))))
 |_,_=>False
def aD3:CB aVc bBd:=λ{W B H us vs R Q} e d h q=>by
 unfold bBd at h;split at h
 ·obtain⟨x,rfl,dd⟩:=DBs.one d;exact⟨_,by rw[dd.int],h.1,q _ _ _ h.2 e.refl ⟨rfl,rfl⟩⟩
 ·exact h.elim
def aCd(ls:List (List Nat)):List U:=ls.map λl=> .s (tx l)
def DUs.strs{W B:Addr->Prop}{H:Hp}:∀{ls:List (List Nat)}{xs:List V},DUs W B H (aCd ls) xs->xs=ls.map λl=>V.str (tx l)
 | [],_,h=>h
 |_::_,_,⟨x,r,e,d,t⟩=>by rw[e,d.1,DUs.strs t];rfl
def aYv(a:TV)(b:TVa):TV:=λρ R=>a ρ λs=>∃sep:List Nat,s.rd=.s (tx sep)/\b ρ λus=>∃ls:List (List Nat),us=[.ls (aCd ls)]/\(ls.map Bj).sum+ls.length*sep.length<=100000/\R (.sh (.s (tx (glu sep ls))))
def aRy{o a:Expr}{apos cpos:Pos}{F:TV}{G:TVa}(ho:VE X o F)(ha:VB X [a] G)(hbase:attributeBase o "join" X.env (eval o X.env)=eval o X.env:=by rfl)
  (hfew:((backTo cpos (starEach [a] X.env)).all (λx=> !x.1) && (backToKw cpos (keywordEach [] X.env)).all (λx=>x.1.isSome)
   && decide ([a].length+([]:List Keyword).length+(if([]:List Keyword).isEmpty then 0 else 1)<30))=true:=by rfl)
  (hline:EL apos cpos:=by rfl) (hs:SE X a []:=by rfl) (hplain:BT X cpos []:=by rfl):VE X (.Call (.Attribute o "join" apos) [a] [] cpos) (aYv F G):=
 let⟨_,p,f⟩:=ho;let⟨_,p',f'⟩:=ha;⟨_,vW Nq PySem.F.slot_str_join PySem.F.type_str_join aSj p p' hbase hfew hline hs hplain,λ{W B ρ σ H R Q} e h q=>f e h λs v H1 h1 w1 r1=>by
  have d1:=r1.db e.eb;obtain⟨sep,e1,h1⟩:=h1;rw[e1]at d1;obtain rfl:=d1.fl.1;refine⟨rfl,f' (e.to w1) h1 λus vs H2 ⟨ls,e2,hz,h2⟩ w2 d2=>?_⟩;subst e2;obtain⟨x,rfl,dd⟩:=DBs.one d2;obtain⟨p,zs,rfl,_,hp,ds⟩:=dd.ls ((e.to w1).to w2).eb;rw[ds.strs]at hp;exact⟨sep,p,ls,rfl,rfl,hp,hz,q _ _ _ h2 (w1.trans w2) ⟨rfl,rfl⟩⟩⟩
def bAa(i j:Nat)(F:TV):TVS:=λE ρ=>match (ρ[j]? :Option Sl)with
 |some (.ow l)=>F ρ λs=>∃(n:Nat)(u:U),s.rd=.n (n:Int)/\l[n]? =some u/\l.length<10000/\E.nx ((ρ.set j (.ow (l.eraseIdx n))).set i (.sh u))
 |_=>False
def DUs.erase{W B:Addr->Prop}{H:Hp}:∀{l:List U}{xs:List V}(n:Nat),DUs W B H l xs->DUs W B H (l.eraseIdx n) (xs.eraseIdx n)
 | [],_,_,h=>by rw[show _=[]from h];exact rfl
 |_::_,_,0,⟨x,r,e,_,t⟩=>by rw[e];exact t
 |_::_,_,n+1,⟨x,r,e,h,t⟩=>by rw[e];exact⟨x,_,rfl,h,DUs.erase n t⟩
def aHk{y x:Str}{py p' apos cpos pos:Pos}{F:TV}(j:Nat)(hNd:X.N.Nodup)(ha:VE X a F)(hi:X.N[i]? =some y:=by rfl)(hy:Loc X.env.scope y:=by first|exact Cw rfl|exact Eb rfl)(hf:FL X y:=by trivial)
  (hN:X.N[j]? =some x:=by rfl) (hv:Vis X.env.scope x:=by trivial) (hd:ND x:=by decide) (hcd:NC x:=by decide)
  (hbase:attributeBase (.Name x p') "pop" X.env (eval (.Name x p') X.env)=eval (.Name x p') X.env:=by rfl)
  (hfew:((backTo cpos (starEach [a] X.env)).all (λx=> !x.1) && (backToKw cpos (keywordEach [] X.env)).all (λx=>x.1.isSome)
   && decide ([a].length+([]:List Keyword).length+(if([]:List Keyword).isEmpty then 0 else 1)<30))=true:=by rfl)
  (hline:EL apos cpos:=by rfl) (hs:SE X a []:=by rfl) (hplain:BT X cpos []:=by rfl)
  (hsw:swapsWith (.Call (.Attribute (.Name x p') "pop" apos) [a] [] cpos) (some (.Name y py)) pos.line X.env=pure false:=by rfl):
  VS X (.Assign [.Name y py] (.Call (.Attribute (.Name x p') "pop" apos) [a] [] cpos) pos) (bAa i j F):=
 let⟨_,p,f⟩:=ha;⟨_,iB hNd hi hy (vW De Oh Og aF0 (iZ hN hv hd hcd) (aM p aZ hs) hbase hfew hline hs hplain) hsw hf,λ{W B H0 A ρ σ H E D} o h jj=>by
  unfold bAa at h;split at h
  ·rename_i l hl;obtain⟨q,xs,h1,h2,h3,h4⟩:=o.ow j l hl;refine⟨_,h1,.inl ⟨rfl,_,SqL.of h3⟩,f o.ee h λs v H1 h5 w r=>?_⟩;obtain⟨n,u,e1,e2,e3,h6⟩:=h5;have d:=r.db o.ee.eb;rw[e1]at d;have o1:=o.to w;obtain⟨q',ys,g1,g2,g3,g4⟩:=o1.ow j l hl;rw[h1]at g1;cases g1;obtain⟨z,hz,dz⟩:=g4.get e2;have hn:n<ys.length:=(List.getElem?_eq_some_iff.mp hz).1;have ll:=g4.length;have o2:=o1.own (l':=l.eraseIdx n) (xs':=ys.eraseIdx n) h1 h2 (g4.erase n);refine⟨q,ys,n,n,z,rfl,by rw[d.int],g3,∅,∅,Jt ∅ ∅,hz,jj.nx (o2.setSh (i:=i) (DU.mono (λb x nb h=>⟨nb,(aP (λe:b=q=>nb (by rw[e];exact .inr ⟨j,(h2 q).mpr rfl⟩))).trans h⟩) u dz)) h6⟩
  ·exact h.elim⟩
def aXt(C:TVc)(b:TVS):TVS:=λE ρ=>∃I:Nat->EV->Prop,(∃m,I m ρ)/\∀m ρ,I m ρ->C ρ λc=>(c=true->b {E with nx:=λρ'=>∃m',m'<m/\I m' ρ',ct:=λρ'=>∃m',m'<m/\I m' ρ',bk:=E.nx} ρ)/\(c=false->E.nx ρ)
def aA7{C:TVc}{b:TVS}(hp:PassesOwn (model X.prog X.w) X.A X.env X.xe)(hc:VC X c C)(hb:VSs X body b):VS X (.While c body [] pos) (aXt C b):=
 let⟨_,p,f⟩:=hc;let⟨_,p',f'⟩:=hb;⟨_,uW hp p p',λ{W B H0 A ρ σ H E D} o h j=>by
  obtain⟨I,⟨m0,i0⟩,turn⟩:=h;refine⟨λm σ H=>∃A ρ,EO W B H0 A ρ σ H/\I m ρ,⟨m0,A,ρ,o,i0⟩,?_⟩;rintro m σ H ⟨A,ρ,o,hi⟩;refine f o.ee (turn m ρ hi) λc H1 h1 w=>?_;cases c with
  |true=>exact aGf ⟨λσ H=>∃m',m'<m/\∃A ρ,EO W B H0 A ρ σ H/\I m' ρ,λσ' H' z=>z,f' (o.to w) (h1.1 rfl) ⟨λo2 ⟨m',l,i⟩=>⟨m',l,_,_,o2,i⟩,λo2 h2=>j.nx o2 h2,λo2 ⟨m',l,i⟩=>⟨m',l,_,_,o2,i⟩,j.rt,j.mr⟩⟩
  |false=>exact qK (j.nx (o.to w) (h1.2 rfl))⟩
inductive aMl(K:Ac)(xs:List V)(H:Hp)(Q:VK):Prop
 |mk (p:Addr) (ns:List Int) (q0_:xs=[.ref p]) (q1_:SqL K H p (ns.map V.int)) (q2_:ns≠[]) (q3_:∀m:Int,m∈ns->(∀a∈ns,a<=m)->Q (.int m) H):aMl K xs H Q
def aVg(K:Ac):List V->Hp->VK->Prop:=λxs H Q=>aMl K xs H Q
def aLr(hc:X.calm=true):eE X (.builtin "max") (aVg X.K):=by
 intro pins s σ H xs us Q I r h;obtain⟨p,ns,rfl,hq,hne,q⟩:=h;obtain⟨u,rfl,ru⟩:=vals1 r;cases ru;obtain⟨its,rv,pl,hz⟩:=I.list hq;have hi:IntsAre its ns:=intsAre_of rv;obtain⟨ys,e⟩:=hi.allInts.items;have hns:ns=ys.toList.map (·.1):=by
  rw[<-hi.numsOf, <-Qo, <-e]
 have hsz:0<ys.size:=by
  have h3:0<ns.length:=List.length_pos_iff.mpr hne;rw[hns,Ab,Ao]at h3;exact h3
 have hl:=pl.isList;rw[e]at hl;refine max_intList (I.ok.hd hc) hl hsz λv h' tk hv hk=>?_;obtain⟨t,rfl⟩:=Sz hv;obtain⟨h1,h2⟩:=argBest_gt (numAt ys) (ys.size-1);refine⟨.int _,H,I.kept (t':=tk) hk,⟨t,rfl⟩,q _ ?_ λa ha=>?_⟩
 ·rw[hns,Qp];exact getD_mem (by rw[Ab,Ao];lia)
 ·rw[hns]at ha;obtain⟨j,hj,rfl⟩:=mem_getD ha;rw[Ab,Ao]at hj;rw[<-Qp];exact h2 j ∅
inductive aM8(us:List U)(R:(Sl->Prop)):Prop
 |mk (ns:List Int) (q0_:us=[.ls (ns.map U.n)]) (q1_:ns≠[]) (q2_:∀m:Int,m∈ns->(∀a∈ns,a<=m)->R (.sh (.n m))):aM8 us R
def bA7:List U->(Sl->Prop)->Prop:=λus R=>aM8 us R
def aRj{K:Ac}:CB (aVg K) bA7:=λ{W B H us vs R Q} e d ⟨ns,eu,hn,h⟩ q=>by
 subst eu;obtain⟨x,rfl,dd⟩:=DBs.one d;obtain⟨p,xs,rfl,_,hp,ds⟩:=dd.ls e;rw[ds.ints]at hp;exact⟨p,ns,rfl,SqL.of hp,hn,λm h1 h2=>q _ _ _ (h m h1 h2) e.refl ⟨rfl,rfl⟩⟩
section
variable {W B:Addr->Prop}{H H':Hp}{ρ ρ':EV}{σ:St}
end
abbrev zk(ns:List Str)(xs:List V):List (Key×V):=(ns.map Cq).zip xs
def aEq{k:Str}(l:ns.length=xs.length)(h:k∉ns):putK (zk ns xs) (Cq k) v=zk (ns++[k]) (xs++[v]):=by
 unfold putK zk;rw[if_neg,Bb,Mm (by rw[Ab];exact l)]
 ·rfl
 ·intro z;obtain⟨x,hx,e⟩:=List.any_eq_true.mp z;have e:=of_decide_eq_true e;have h2:=(Hy (show(x.1,x.2)∈_ from hx)).1;rw[e]at h2;obtain⟨n,hn,en⟩:=List.mem_map.mp h2;cases en;exact h hn
def aM1{k:Str}{v v':V}(l:ns.length=xs.length)(h:k∉ns):putK (zk (ns++[k]) (xs++[v])) (Cq k) v'=zk (ns++[k]) (xs++[v']):=by
 unfold putK zk;rw[Bb,Mm (by rw[Ab];exact l),Mm (by rw[Ab];exact l)];have hk:∀x∈(ns.map Cq:List Key).zip xs,¬x.1=Cq k:=λx hx e=>by
  have h2:=(Hy (show(x.1,x.2)∈_ from hx)).1;rw[e]at h2;obtain⟨n,hn,en⟩:=List.mem_map.mp h2;cases en;exact h hn
 rw[if_pos]
 ·rw[Bb];congr 1
  ·refine(Hz λx hx=>?_).trans (Ws _);rw[if_neg (hk x hx)];rfl
  ·simp
 ·rw[List.any_append];simp
def aAq{k:Str}(l:ns.length=xs.length)(h:k∉ns):mL (zk (ns++[k]) (xs++[v])) (Cq k)=some v:=by
 induction ns generalizing xs with
 |nil=>
  cases xs with
  |nil=>exact oR rfl
  |cons _ _=>cases l
 |cons n ns ih=>
  cases xs with
  |nil=>cases l
  |cons x xs=>
   show mL ((Cq n,x)::zk (ns++[k]) (xs++[v])) _=_;rw[oA (λz=>h (by cases z;exact Af))];exact ih (Es l) λz=>h (Ae _ z)
def bQ(P:Program)(w:World)(a:Addr)(xs:List (Tke×Addr×Value))(h:Heap):Prop:=(a==sysModules)=false/\∃o es ep,h.get? a=some o/\o.ExactDict/\o.data=.dict es ep/\es.toList=xs.map (entryOfKey (cT (intKind P w)))/\(xs.map (·.1)).Nodup
def bQ.stay{w:World}{a:Addr}{xs:List (Tke×Addr×Value)}(h1 h2:Heap)(p:bQ P w a xs h1)(k:∀o,h1.get? a=some o->h2.get? a=some o):bQ P w a xs h2:=let⟨y,o,es,ep,e,c⟩:=p;⟨y,o,es,ep,k _ e,c⟩
inductive PdR(W B:Addr->Prop)(H:Hp):List (Tke×U)->List (Tke×Addr×Value)->Prop
 |nil:PdR W B H [] []
 |cons {k:Tke} {u:U} {l:List (Tke×U)} {r:List (Tke×Addr×Value)} {c:Addr} {x:Value} {v:V}:DU W B H (tkU k) (.ref c)->RelV v x->DU W B H u v->PdR W B H l r->PdR W B H ((k,u)::l) ((k,c,x)::r)
def dY:List (Tke×U)->Tke->Option U
 | [],_=>none
 |p::l,k=>if p.1=k then some p.2 else dY l k
def nF(l:List (Tke×U))(k:Tke)(u:U):List (Tke×U):=if(dY l k).isSome then l.map (λp=>if p.1=k then(p.1,u)else p)else l++[(k,u)]
section
variable {l:List (Tke×U)}{b:Addr}
variable {W W' B B':Addr->Prop}{H H':Hp}
def PdR.mono{xs:List (Tke×Addr×Value)}(k:∀b o,¬B b->H b=some o->¬B' b/\H' b=some o)(h:PdR W B H l xs):PdR W B' H' l xs:=by
 induction h with
 |nil=>exact .nil
 |cons d rv dv t ih=>exact .cons (DU.mono k _ d) rv (DU.mono k _ dv) ih
def PdR.wm{xs:List (Tke×Addr×Value)}(k:∀p,W p->W' p)(h:PdR W B H l xs):PdR W' B H l xs:=by
 induction h with
 |nil=>exact .nil
 |cons d rv dv t ih=>exact .cons (DU.wm k _ d) rv (DU.wm k _ dv) ih
def PdR.keys{xs:List (Tke×Addr×Value)}(h:PdR W B H l xs):xs.map (·.1)=l.map (·.1)/\∀x∈xs,DU W B H (tkU x.1) (.ref x.2.1):=by
 induction h with
 |nil=>exact⟨rfl,nofun⟩
 |cons d rv dv t ih=>exact⟨congrArg (_::·) ih.1,λx hx=>(List.mem_cons.mp hx).elim (λz=>z▸d) (ih.2 x)⟩
def PdR.len{xs:List (Tke×Addr×Value)}(h:PdR W B H l xs):xs.length=l.length:=by
 have:=congrArg Bj h.keys.1;simpa using this
def PdR.val(k:Tke){xs:List (Tke×Addr×Value)}(h:PdR W B H l xs):(dY l k=none/\atKey xs k=none)∨∃u a r v,dY l k=some u/\atKey xs k=some (a,r)/\RelV v r/\DU W B H u v:=by
 induction h with
 |nil=>exact .inl ⟨rfl,rfl⟩
 |@cons k' u l r c x v d rv dv t ih=>
  by_cases z:k'=k
  ·exact .inr ⟨u,c,x,v,if_pos z,by simp[atKey,Ew,z],rv,dv⟩
  ·rw[show dY ((k',u)::l) k=dY l k from if_neg z,show atKey ((k',c,x)::r) k=atKey r k by simp[atKey,Ew,z]];exact ih
def PdR.snoc{k:Tke}{u:U}{x:Value}{xs:List (Tke×Addr×Value)}(d:DU W B H (tkU k) (.ref b))(rv:RelV v x)(dv:DU W B H u v)(h:PdR W B H l xs):PdR W B H (l++[(k,u)]) (xs++[(k,b,x)]):=by
 induction h with
 |nil=>exact .cons d rv dv .nil
 |cons d1 r1 d2 t ih=>exact .cons d1 r1 d2 ih
def PdR.repl{k:Tke}{u:U}{x:Value}{xs:List (Tke×Addr×Value)}(rv:RelV v x)(dv:DU W B H u v)(h:PdR W B H l xs):PdR W B H (l.map λp=>if p.1=k then(p.1,u)else p) (xs.map (putAt k x)):=by
 induction h with
 |nil=>exact .nil
 |@cons k' u' l r c y v' d r1 d2 t ih=>
  rw[Au,Au];unfold putAt;by_cases z:k'=k
  ·rw[if_pos z,if_pos z];exact .cons d rv dv ih
  ·rw[if_neg z,if_neg z];exact .cons d r1 d2 ih
def PdR.put{k:Tke}{u:U}{x:Value}{xs:List (Tke×Addr×Value)}(h:PdR W B H l xs)(d:DU W B H (tkU k) (.ref b))(rv:RelV v x)(dv:DU W B H u v):PdR W B H (nF l k u) (storedH xs k b x):=by
 unfold nF storedH;rcases h.val k with ⟨e1,e2⟩|⟨_,_,_,_,e1,e2,_⟩
 ·rw[e1,e2];exact PdR.snoc d rv dv h
 ·rw[e1,e2];exact PdR.repl rv dv h
def aDq{k:Tke}(d:DU W B H (tkU k) y):∃b,y=.ref b/\PKy H (k,b):=by
 obtain⟨a,ys,rfl,nb,ha,y1,_,rfl,f1,y2,r2,rfl,⟨q,zs,rfl,nq,hq,dz⟩,e3⟩:=d;obtain rfl:r2=[]:=e3;rw[f1.1]at ha;exact⟨a,rfl,q,ha,by rw[dz.ints]at hq;exact hq⟩
def pM{k:Tke}(d:DU W B H (tkU k) (.ref b)):PKy H (k,b):=by
 obtain⟨_,e,h⟩:=aDq d;cases e;exact h
end
def pdO(P:Program)(w:World)(kvs:List (Tke×U)):Own:=⟨λW B S H p=>(∀b,S b↔b=p)/\∃xs,H p=some (.ext (bQ P w p xs))/\PdR W B H kvs xs,λk e ⟨s,xs,h,r⟩=>⟨s,xs,(e _ ((s _).mpr rfl)).trans h,r.mono k⟩,λk ⟨s,xs,h,r⟩=>⟨s,xs,h,r.wm k⟩,λ⟨s,_,h,_⟩ b hb=>by rw[(s b).mp hb];exact⟨_,h,trivial⟩,λ⟨s,_⟩=>(s _).mpr rfl⟩
def aGu(P:Program)(w:World)(s:Sl)(kvs:List (Tke×U)):Prop:=s=.bo (pdO P w kvs)∨s=.oo (pdO P w kvs)∨s=.sh (.op (pdO P w kvs).fz)
def RO.pd{W B:Addr->Prop}{H H':Hp}{w:World}{s:Sl}{kvs:List (Tke×U)}(h:aGu P w s kvs)(r:RO W B H H' s v):∃p xs,v=.ref p/\H' p=some (.ext (bQ P w p xs))/\PdR W B H' kvs xs:=by
 rcases h with rfl|rfl|rfl
 ·obtain⟨p,S,e,_,_,xs,h⟩:=r;exact⟨p,xs,e,h⟩
 ·obtain⟨p,S,e,_,h⟩:=r;obtain⟨_,xs,h⟩:=Own.less _ h;exact⟨p,xs,e,h⟩
 ·obtain⟨p,S,e,_,_,xs,h⟩:=r;exact⟨p,xs,e,h⟩
def lK{w:World}{H:Hp}{h:Heap}{a:Addr}{xs:List (Tke×Addr×Value)}(ok:HOk P w H h)(e:H a=some (.ext (bQ P w a xs)))(k:∀x∈xs,PKy H (x.1,x.2.1)):(a==sysModules)=false/\h.DictOfH (cT (intKind P w)) a xs:=by
 obtain⟨⟨y,o,es,ep,h1,h2,h3,h4,h5⟩,_,_⟩:=(show cF P w H h a (.ext (bQ P w a xs))from ok a _ e);exact⟨y,o,es,ep,h1,h2,h3,h4,λx hx=>pF (x:=(x.1,x.2.1)) ok (k x hx),h5⟩
def tPg(P:Program)(w:World)(td ty:TE):TE:=λσ H Q=>td σ H λx H1=>ty σ H1 λy H2=>∃a b xs k r c v,x=.ref a/\y=.ref b/\H2 a=some (.ext (bQ P w a xs))/\(∀x∈xs,PKy H2 (x.1,x.2.1))/\PKy H2 (k,b)/\atKey xs k=some (c,r)/\RelV v r/\Q v H2
def sPp(P:Program)(w:World)(td ty tv:TE):TS:=λD σ H=>tv σ H λv H1=>td σ H1 λx H2=>ty σ H2 λy H3=>∃a b xs k,x=.ref a/\y=.ref b/\H3 a=some (.ext (bQ P w a xs))/\(∀x∈xs,PKy H3 (x.1,x.2.1))/\PKy H3 (k,b)/\xs.length<sizeLine/\∀r,RelV v r->D.nx σ (upd H3 a (.ext (bQ P w a (storedH xs k b r))))
def aI4(P:Program)(w:World)(C:List Tke->Prop):Prop:=∀{A:Around}{E:Value->Shared->Prop}{s:Shared}{a:Addr}{n:Nat}{ps:List (Tke×Addr)}{D:Fin->Shared->Prop},A.units+20<cLine->s.heap.get? a=some (seqObj "list" (ps.map λx=>An x.2).toArray n)->uM (cT (intKind P w)) (λ_=>True) s.heap ps->(ps.map (·.1)).Nodup->C (ps.map (·.1))->
 (∀ys:List (Tke×Addr),ys.Perm ps->ys.Pairwise (λx y=>iV x.1 y.1=true)->D (.done (.ret .none)) {s with heap:=sortedHeap s.heap a (ps.map λx=>An x.2) (ys.map λx=>An x.2).toArray})->wpAny (model P w) A (Builtin.«list.sort» ⟨[.ref a],[]⟩) D E s
def aUx{w:World}:yG (cT (intKind P w)) (λ_=>True) iV:=aJu λk v hv=>by obtain⟨t,rfl⟩:=Dk hv;exact⟨_,_,rfl⟩
def bA4{P:Program}{w:World}:aI4 P w (λks=>ks.length<64):=λhu ho T nd hC h=>qY aUx hu ho T nd (by have z:(_:List Tke).length<64:=hC;rwa [Ab]at z) h
inductive aJ5(P:Program)(w:World)(C:List Tke->Prop)(ys:List V)(H:Hp)(Q:VK):Prop
 |mk (p:Addr) (xs:List (Tke×Addr×Value)) (q0_:ys=[.ref p]) (q1_:H p=some (.ext (bQ P w p xs))) (q2_:(∀x∈xs,PKy H (x.1,x.2.1))) (q3_:xs.length<=10000) (q4_:C (xs.map (·.1))) (q5_:∀(l:Addr)(zs:List (Tke×Addr)),H l=none->zs.Perm (xs.map λx=>(x.1,x.2.1))->zs.Pairwise (λx y=>iV x.1 y.1=true)->Q (.ref l) (upd H l (.lst (zs.map λx=>V.ref x.2)))):aJ5 P w C ys H Q
def aXk(P:Program)(w:World)(C:List Tke->Prop):List V->Hp->VK->Prop:=λys H Q=>aJ5 P w C ys H Q
variable {o i value:Expr}{pos pos':Pos}{td ty tv:TE}
def aSn{pins:List (Addr×Obj)}{σ:St}{H:Hp}{s:Shared}{a:Addr}{xs:List (Tke×Addr×Value)}(I:Inv X pins σ H s)(e:H a=some (.ext (bQ X.prog X.w a xs))):s.TypeIs (.ref a) "dict":=by
 obtain⟨⟨y,o,es,ep,h1,h2,_⟩,_,_⟩:=(show cF X.prog X.w H s.heap a (.ext (bQ X.prog X.w a xs))from I.hok a _ e);exact⟨o,h1,h2.1⟩
def aYt(hu:X.A.units+2<cLine)(ho:PE X o td)(hi:PE X i ty)(hs:aLf i):PE X (.Subscript o i pos) (tPg X.prog X.w td ty):=by
 intro pins s σ H Q I h;refine aIz PySem.F.slot_dict_getitem.lookup hs (thn (ho pins s σ H _ I h) λu s1 ⟨x,H1,I1,rx,q1⟩=>thn (hi pins s1 σ H1 _ I1 q1) λiv s2 ⟨y,H2,I2,ry,a,b,xs,k,r,c,v,ex,ey,e,ks,eb,l,rv,q2⟩=>?_);subst ex ey;obtain rfl:u=An a:=rx;obtain rfl:iv=An b:=ry;refine⟨aSn I2 e,Tu (show X.A.in1.units+1<cLine from hu) (pF (x:=(k,b)) I2.hok eb) (lK I2.hok e ks).2 l ?_⟩;exact⟨v,H2,I2.tok _,rv,q2⟩
def aY4(hu:X.A.units+2<cLine)(ho:PE X o td)(hi:PE X i ty)(hv:PE X value tv)(hs:swapsWith value (some (.Subscript o i pos')) pos.line X.env=pure false):PS X (.Assign [.Subscript o i pos'] value pos) (sPp X.prog X.w td ty tv):=by
 intro pins s σ H D I h;refine Rc (thn (hv pins s σ H _ I h) λr s1 ⟨v,H1,I1,rv,q1⟩=>thn (ho pins s1 σ H1 _ I1 q1) λu s2 ⟨x,H2,I2,rx,q2⟩=>thn (hi pins s2 σ H2 _ I2 q2) λiv s3 ⟨y,H3,I3,ry,a,b,xs,k,ex,ey,e,ks,eb,hl,q3⟩=>?_) hs;subst ex ey;obtain rfl:u=An a:=rx;obtain rfl:iv=An b:=ry;obtain⟨lo,dd⟩:=lK I3.hok e ks;refine Tt (hsz:=En hl) (show X.A.in1.units+1<cLine from hu) (pF (x:=(k,b)) I3.hok eb) dd λh' dd' hs=>?_;obtain⟨q,es,ep,hq,h2,h3,h4,_,h5⟩:=dd';have ok:cF X.prog X.w (upd H3 a (.ext (bQ X.prog X.w a (storedH xs k b r)))) h' a (.ext (bQ X.prog X.w a (storedH xs k b r))):=⟨⟨lo,q,es,ep,hq,h2,h3,h4,h5⟩,⟨q,hq⟩,λh1 h2 p k=>bQ.stay h1 h2 p k⟩;exact⟨σ,_,sV I3 (by rw[e];exact Dx) hs ⟨q,hq⟩ ok,q3 r rv⟩
def aEr{C:List Tke->Prop}(L:aI4 X.prog X.w C)(hu:X.A.units+40<cLine){pins:List (Addr×Obj)}{s:Shared}{σ:St}{H:Hp}{ps:List (Tke×Addr)}(I:Inv X pins σ H s)(hk:∀x∈ps,PKy H x)(nd:(ps.map (·.1)).Nodup)(pl:ps.length<=10000)(hC:C (ps.map (·.1)))
  (col:∀(R:List Value->Shared->Prop)(E:Value->Shared->Prop),(∀(g:Heap)(tk:Nat),(∀b o,s.heap.get? b=some o->g.get? b=some o)->s.heap.objs.size<g.objs.size->R (ps.map λx=>An x.2) {s with heap:=g,toks:=tk})->wpAny (model X.prog X.w) X.A.in1 (collect (.ref p)) R E s)
  (q:∀(l:Addr)(zs:List (Tke×Addr)),H l=none->zs.Perm ps->zs.Pairwise (λx y=>iV x.1 y.1=true)->Q (.ref l) (upd H l (.lst (zs.map λx=>V.ref x.2)))):wpAny (model X.prog X.w) X.A (call (.builtin "sorted") [.ref p]) (EP X pins σ Q) X.xe s:=by
 refine Ih Sy Rt Ru (Rx _) ?_;unfold Builtin.«sorted»;refine Aa (m:=checkCount "sorted" 1 1 _) (Ad ?_);refine Aa (col _ _ λh' tk hkp hgt=>?_);refine Aa (Md ?_ (by rw[Ab,Cp];lia));have hoL:(h'.push (seqObj "list" (ps.map λx=>An x.2).toArray 0)).get? h'.objs.size=some (seqObj "list" (ps.map λx=>An x.2).toArray 0):=Ap _ rfl;have T1:uM (cT (intKind X.prog X.w)) (λ_=>True) (h'.push (seqObj "list" (ps.map λx=>An x.2).toArray 0)) ps:=λx hx=>by
  exact⟨trivial,aUx.set.mono (pF I.hok (hk x hx)) λb o _ e=>Ai _ (hkp b o e)⟩
 refine Aa (Bp (Ca slot_list_sort ⟨_,hoL,rfl⟩ entry_list_sort (L (show X.A.units+2+20<cLine by lia) hoL T1 nd hC λzs py hy=>⟨_,rfl,?_⟩) (Pq _)));refine Ad ⟨_,rfl,?_⟩;obtain⟨e,he⟩:=Qm (out:=(zs.map λx=>An x.2).toArray) hoL;have keep:∀b o,s.heap.get? b=some o->(sortedHeap (h'.push (seqObj "list" (ps.map λx=>An x.2).toArray 0)) h'.objs.size (ps.map λx=>An x.2) (zs.map λx=>An x.2).toArray).get? b=some o:=λb o q=>by
  have hb:b<h'.objs.size:=Ar (hkp b o q);rw[Pn (Az hb) (by rw[Dp];exact Ey hb)];exact Ai _ (hkp b o q)
 have hge:s.heap.objs.size<=h'.objs.size:=En hgt;refine⟨.ref h'.objs.size,_,I.laid (t':=tk) (o:=.lst (zs.map λx=>V.ref x.2)) keep hge ⟨?_,_,e,uC,he⟩,rfl,q _ zs (I.hok.fresh hge) py hy⟩;rw[Ab,py.length_eq,Cp]
 lia
def aIw{C:List Tke->Prop}(L:aI4 X.prog X.w C)(hu:X.A.units+40<cLine)(hc:X.calm=true):eE X (.builtin "sorted") (aXk X.prog X.w C):=by
 intro pins s σ H ys us Q I r h;obtain⟨p,xs,rfl,hp,hk,hz,hC,q⟩:=h;obtain⟨u,rfl,ru⟩:=vals1 r;cases ru;obtain⟨lo,o,es,ep,h1,h2,h3,h4,h5,h6⟩:=lK I.hok hp hk;have el:es.size=xs.length:=by rw[<-Ao,h4,Ab]
 refine aEr L hu I (ps:=xs.map λx=>(x.1,x.2.1)) (λx hx=>by obtain⟨y,hy,rfl⟩:=List.mem_map.mp hx;exact hk y hy) (by rw[Bh];exact h6) (by rw[Ab];exact hz) (by rw[Bh];exact hC) (λR E k=>gather (A:=X.A.in1) (aTs (es:=es) (ep:=ep) lo) (I.ok.hd hc) ⟨o,h1,h2,h3⟩ (by rw[el,Cp];lia) λh' tk acc hkp hgt hacc=>?_) q;have ea:acc.toList=(xs.map λx=>(x.1,x.2.1)).map λx=>An x.2:=by
  refine Lf λj=>?_;rw[Bh,Ax];cases hj:xs[j]? with
  |none=>
   have:xs.length<=j:=List.getElem?_eq_none_iff.mp hj;exact Co (by rw[Ao,hacc.1,el];exact this)
  |some x=>
   have hlt:j<acc.size:=by rw[hacc.1,el];exact(List.getElem?_eq_some_iff.mp hj).1
   obtain⟨e,e1,e2⟩:=hacc.2 j _ (Bc hlt);have e3:es.toList[j]? =some e:=by rw[Bl];exact e1
   rw[h4,Ax,hj]at e3;cases e3;rw[Bl,Bc hlt,e2];rfl
 rw[ea];exact k h' tk hkp hgt
def vPg(P:Program)(w:World)(a b:TV):TV:=λρ R=>a ρ λs=>b ρ λs'=>∃kvs k u,aGu P w s kvs/\s'.rd=tkU k/\dY kvs k=some u/\R (.sh u)
def aZy(P:Program)(w:World):TV:=λ_ R=>R (.oo (pdO P w []))
def aX1(P:Program)(w:World)(C:List Tke->Prop)(a:TV):TV:=λρ R=>a ρ λs=>∃kvs,aGu P w s kvs/\kvs.length<=10000/\C (kvs.map (·.1))/\∀ys:List Tke,ys.Perm (kvs.map (·.1))->ys.Pairwise (λx y=>iV x y=true)->R (.ow (ys.map tkU))
def aZv(P:Program)(w:World)(j:Nat)(Fk Fv:TV):TVS:=λE ρ=>Fv ρ λsv=>sv.es λu=>∃kvs,ρ[j]? =some (.oo (pdO P w kvs))/\kvs.length<10000/\Fk ρ λsk=>sk.es λku=>∃k,ku=tkU k/\E.nx (ρ.set j (.oo (pdO P w (nF kvs k u))))
variable {P:Program}
def sG(hP:X.prog=P)(hw:X.w=w){pos:Pos}:VE X (.Dict [] [] pos) (aZy P w):=by
 subst hP hw;refine⟨λσ H Q=>∀p,H p=none->Q (.ref p) (upd H p (.ext (bQ X.prog X.w p []))),λpins s σ H Q I h=>?_,λe h q p n=>q _ _ _ h (e.eb.new n) ⟨p,(·=p),rfl,λb hb=>by rw[hb];exact n,λ_=>Ls,[],aJ,.nil⟩⟩;have hp:bQ X.prog X.w s.heap.objs.size [] (s.heap.push {cls:=.type "dict",data:=.dict #[]}):=⟨beq_eq_false_iff_ne.mpr (Cy (Az I.big)),_, #[],0,Ap _ rfl,⟨rfl,rfl,rfl⟩,rfl,rfl,Hg⟩;have ok:cF X.prog X.w (upd H s.heap.objs.size (.ext (bQ X.prog X.w s.heap.objs.size []))) (s.heap.push {cls:=.type "dict",data:=.dict #[]}) s.heap.objs.size (.ext (bQ X.prog X.w s.heap.objs.size [])):=⟨hp,⟨_,Ap _ rfl⟩,λh1 h2 p k=>bQ.stay h1 h2 p k⟩;exact wpAny_Dict_empty ⟨.ref s.heap.objs.size,_,I.laid (a:=s.heap.objs.size) (o:=.ext (bQ X.prog X.w s.heap.objs.size [])) (t':=s.toks) (λ_ _ q=>Ai _ q) (Am _) ok,rfl,h _ (I.hok.fresh (Am _))⟩
def aT3{o i:Expr}{pos:Pos}{F G:TV}(hP:X.prog=P)(hw:X.w=w)(hr:dG k X.A)(ha:VE X o F)(hb:VE X i G)(hs:aLf i:=by exactλ_ _=>rfl):VE X (.Subscript o i pos) (vPg P w F G):=by
 subst hP hw;obtain⟨_,p,f⟩:=ha;obtain⟨_,p',f'⟩:=hb;refine⟨_,aYt (by have:=hr.un;lia) p p' hs,λ{W B ρ σ H R Q} e h q=>f e h λs v H1 h1 w1 r1=>f' (e.to w1) h1 λs' v' H2 h2 w2 r2=>?_⟩;obtain⟨kvs,k,u,hs,ek,ev,h3⟩:=h2;have e1:=e.to w1;obtain⟨a,xs,rfl,g1,g2⟩:=r1.pd hs;have g1:=w2.fr a _ (λz=>by
  obtain⟨_,_,_,y⟩:=e1.eb.wo a z;rw[g1]at y;cases y) g1
 have g2:=g2.mono (e1.eb.keep w2);have d:=r2.db e1.eb;rw[ek]at d;have dk:DU W B H2 (tkU k) v':=d.tp;obtain⟨b,rfl,kb⟩:=aDq dk;rcases g2.val k with ⟨z,_⟩|⟨u',c,r,v,z1,z2,rv,dv⟩
 ·rw[ev]at z;cases z
 ·rw[ev]at z1;cases z1;exact⟨a,b,xs,k,r,c,v,rfl,rfl,g1,λx hx=>pM (g2.keys.2 x hx),kb,z2,rv,q _ _ _ h3 (w1.trans w2) dv⟩
def aP5{C:List Tke->Prop}{p pos:Pos}{F:TV}(L:aI4 P w C)(hP:X.prog=P)(hw:X.w=w)(hr:dG k X.A)(hc:X.calm=true)(hm:X.mg "sorted"=none)(ha:VE X a F)(hg:Gl X "sorted":=by rfl)(hs:SE X a []:=by rfl)(hpl:BT X pos []:=by rfl):VE X (.Call (.Name "sorted" p) [a] [] pos) (aX1 P w C F):=by
 subst hP hw;obtain⟨_,p,f⟩:=ha;refine⟨_,fQ (aIw L (by have:=hr.un;lia) hc) hg hm Tc (aM p aZ hs) ⋯ ⋯ hs hpl,λ{W B ρ σ H R Q} e h q=>f e h λs v H1 h1 w1 r1=>?_⟩;obtain⟨kvs,hs,hl,hC,h2⟩:=h1;obtain⟨a,xs,rfl,g1,g2⟩:=r1.pd hs;have e1:=e.to w1;refine⟨a,xs,rfl,g1,λx hx=>pM (g2.keys.2 x hx),by rw[g2.len];exact hl,by rw[g2.keys.1];exact hC,λl zs nl pm pw=>?_⟩;have w3:=e1.eb.new (o:=.lst (zs.map λx=>V.ref x.2)) nl;refine q (.ow ((zs.map (·.1)).map tkU)) _ _ (h2 _ ?_ ?_) (w1.trans w3) (RO.back (s:=.ow _) w1 ⟨l,_,rfl,nl,aJ,aG4 λx hx=>?_⟩)
 ·have:=pm.map (·.1);rw[Bh]at this;rw[<-g2.keys.1];exact this
 ·rw[Dn];exact pw
 ·obtain⟨y,hy,rfl⟩:=List.mem_map.mp (pm.mem_iff.mp hx);exact DU.mono (λb o nb h=>⟨λz=>z.elim nb (aQ h nl),(e1.eb.keep w3 b o nb h).2⟩) _ (g2.keys.2 y hy)
def sW{i value:Expr}{pos pos' p':Pos}{Fk Fv:TV}(j:Nat)(hP:X.prog=P)(hw:X.w=w)(hr:dG k X.A)(hk:VE X i Fk)(hv:VE X value Fv)(hN:X.N[j]? =some x:=by rfl)(hvs:Vis X.env.scope x:=by trivial)(hd:ND x:=by decide)
  (hcd:NC x:=by decide) (hs:swapsWith value (some (.Subscript (.Name x p') i pos')) pos.line X.env=pure false:=by rfl):VS X (.Assign [.Subscript (.Name x p') i pos'] value pos) (aZv P w j Fk Fv):=by
 subst hP hw;obtain⟨_,p1,f1⟩:=hk;obtain⟨_,p2,f2⟩:=hv;refine⟨_,aY4 (by have:=hr.un;lia) (iZ hN hvs hd hcd) p1 p2 hs,λ{W B H0 A ρ σ H E D} o h jj=>f2 o.ee h λsv v H1 h1 w1 r1=>?_⟩;obtain⟨u,⟨kvs,hj,hl,h2⟩,dv⟩:=r1.du o.ee.eb h1;have o1:=o.to w1;obtain⟨q,g1,g2,_⟩:=o1.hd j _ _ hj rfl;refine⟨_,g1,f1 o1.ee h2 λsk y H3 h3 w3 r3=>?_⟩;obtain⟨ku,⟨k,rfl,h4⟩,dk⟩:=r3.du o1.ee.eb h3;have o3:=o1.to w3;obtain⟨q',g4,_,xs,g5,g6⟩:=o3.hd j _ _ hj rfl;rw[g1]at g4;cases g4;obtain⟨b,rfl,kb⟩:=aDq dk;refine⟨q,b,xs,k,rfl,rfl,g5,λx hx=>pM (g6.keys.2 x hx),kb,by rw[g6.len];exact Lx hl ⋯,λr rv=>jj.nx (o3.chg g1 ((g2 q).mpr rfl) (s':=.oo (pdO X.prog X.w (nF kvs k u))) rfl rfl ⟨g2,_,aJ,?_⟩) h4⟩;exact PdR.mono (λb y n h=>⟨n,(aP (λz:b=q=>n (by rw[z];exact .inr ⟨j,(g2 q).mpr rfl⟩))).trans h⟩) (g6.put dk rv (DU.mono (o1.ee.eb.keep w3) u dv))
def bCk(F:TV):TV:=λρ R=>F ρ λs=>match s.rd with
 |.ls l=>R (.ow l.reverse)
 |_=>False
def DUs.rev{W B:Addr->Prop}{H:Hp}:∀{l:List U}{xs:List V},DUs W B H l xs->DUs W B H l.reverse xs.reverse
 | [],_,h=>by rw[show _=[]from h];exact rfl
 |_::_,_,⟨x,r,e,h,t⟩=>by rw[e,Iv,Iv];exact(DUs.rev t).app (DUs.one h)
def aWo{X:Cx}{F:TV}{j:Nat}{p2 p3 p4 pos:Pos}(ha:VE X a F):VE X (.Subscript a (.Slice none none (some (.UnaryOp .USub (.Constant (.int 1) j p3) p4)) p2) pos) (bCk F):=let⟨_,p,f⟩:=ha;⟨_,aV3 p,λ{W B ρ σ H R Q} e h q=>f e h λs v H1 h1 w r=>by
 have d:=r.db e.eb;revert h1 d;generalize s.rd=u;intro h1 d;split at h1
 ·obtain⟨a,xs,rfl,nw,ha,ds⟩:=d.ls (e.to w).eb;refine⟨a,xs,rfl,SqL.of ha,λp n=>?_⟩;have e1:=(e.to w).eb;have f2:=e1.new (o:=.lst xs.reverse) n;exact q _ _ _ h1 (w.trans f2) (RO.back (s:=.ow _) w ⟨p,_,rfl,n,aJ,DUs.mono (λb o nb h=>⟨λz=>z.elim nb (aQ h n),(e1.keep f2 b o nb h).2⟩) _ ds.rev⟩)
 ·exact h1.elim⟩
def wV{l:List (Tke×U)}{k:Tke}{u:U}:(nF l k u).map (·.1)=if(dY l k).isSome then l.map (·.1)else l.map (·.1)++[k]:=by
 unfold nF;split
 ·rw[Bh];refine Hz λp _=>?_;show(if p.1=k then(p.1,u)else p).1=p.1;split<;>rfl
 ·rw[Bb];rfl
theorem xH{k:Tke}:∀{l:List (Tke×U)},(dY l k).isSome=true->k∈l.map (·.1)
 | [],h=>by cases h
 |p::l,h=>by
  by_cases e:p.1=k
  ·rw[<-e];exact Af
  ·rw[show dY (p::l) k=dY l k from if_neg e]at h;exact Ae _ (xH h)
def aGq{l:List (Tke×U)}{k z:Tke}{u:U}:z∈(nF l k u).map (·.1)↔z∈l.map (·.1)∨z=k:=by
 rw[wV];split
 ·rename_i h;exact⟨.inl,λy=>y.elim id λy=>y▸xH h⟩
 ·rw[Mo,Gs]
def aPm{l:List (Tke×U)}{k:Tke}{u:U}:(nF l k u).length<=l.length+1:=by
 have:=congrArg Bj (wV (l:=l) (k:=k) (u:=u));rw[Ab]at this;rw[this];split
 ·rw[Ab];lia
 ·rw[Ag,Ab];exact Am _
theorem aBz{k:Tke}:∀{l:List (Tke×U)},(dY l k).isSome=false->k∉l.map (·.1)
 | [],_,h=>nomatch h
 |p::l,h,z=>by
  by_cases e:p.1=k
  ·rw[show dY (p::l) k=some p.2 from if_pos e]at h;cases h
  ·rw[show dY (p::l) k=dY l k from if_neg e]at h;exact(List.mem_cons.mp z).elim (λy=>e y.symm) (aBz h)
def aJp{l:List (Tke×U)}{k:Tke}{u:U}(h:(l.map (·.1)).Nodup):((nF l k u).map (·.1)).Nodup:=by
 rw[wV];split
 ·exact h
 ·rename_i n;rw[Rk];exact⟨h,by simp,λa ha b hb e=>aBz (Bool.eq_false_iff.mpr n) (by rw[<-List.mem_singleton.mp hb, <-e];exact ha)⟩
theorem aJs{n:Nat}:∀{l m:List U},U.dts n l->U.dts n m->U.dts n (l++m)
 | [],_,_,h=>h
 |_::_,_,⟨a,b⟩,h=>⟨a,aJs b h⟩
def dkO(ns:List Str)(us:List U):Own:=⟨λW B S H p=>(∀b,S b↔b=p)/\∃xs,H p=some (.dK (zk ns xs))/\ns.length=xs.length/\DUs W B H us xs,λk e ⟨s,xs,h,l,d⟩=>⟨s,xs,(e _ ((s _).mpr rfl)).trans h,l,DUs.mono k us d⟩,λk ⟨s,xs,h,l,d⟩=>⟨s,xs,h,l,DUs.wm k us d⟩,λ⟨s,_,h,_⟩ b hb=>by rw[(s b).mp hb];exact⟨_,h,trivial⟩,λ⟨s,_⟩=>(s _).mpr rfl⟩
def dlO(ns:List Str)(us:List U)(k:Str)(l:List U):Own:=⟨λW B S H p=>∃q xs ys,(∀b,S b↔b=p∨b=q)/\p≠q/\H p=some (.dK (zk (ns++[k]) (xs++[.ref q])))/\ns.length=xs.length/\DUs W B H us xs/\H q=some (.lst ys)/\DUs W B H l ys,
 λkp e h=>by
  obtain⟨q,xs,ys,s,n,h1,h2,h3,h4,h5⟩:=h;exact⟨q,xs,ys,s,n,(e _ ((s _).mpr (.inl rfl))).trans h1,h2,DUs.mono kp us h3,(e _ ((s _).mpr (.inr rfl))).trans h4,DUs.mono kp l h5⟩,λkp h=>by
  obtain⟨q,xs,ys,s,n,h1,h2,h3,h4,h5⟩:=h;exact⟨q,xs,ys,s,n,h1,h2,DUs.wm kp us h3,h4,DUs.wm kp l h5⟩,λh b hb=>by
  obtain⟨q,xs,ys,s,n,h1,h2,h3,h4,h5⟩:=h;rcases (s b).mp hb with rfl|rfl
  ·exact⟨_,h1,trivial⟩
  ·exact⟨_,h4,trivial⟩,λh=>by
  obtain⟨_,_,_,s,_⟩:=h;exact(s _).mpr (.inl rfl)⟩
section
variable {W B:Addr->Prop}{H0 H H1:Hp}{A:Nat->Addr->Prop}{ρ:EV}{σ:St}
def EO.rep(o:EO W B H0 A ρ σ H){i:Nat}{s:Sl}{w:Own}(hs:s.hold=some w)(hb:s.brd=false)(f:∀b y,¬W b->¬S b->H b=some y->H1 b=some y)(fw:∀p,W p->Wll H1 p)(n:∀b,S b->A i b∨H b=none)(d:w.φ W (λb=>B b∨(∃j,j≠i/\A j b)∨S b) S H1 p)(hg:σ[i]? =some (some (.ref p))):
  EO W B H0 (λj q=>(j=i/\S q)∨(j≠i/\A j q)) (ρ.set i s) σ H1:=by
 have n0:∀b,S b->H0 b=none:=λb hb=>(n b hb).elim (o.an i b) o.fw.none_;have k:∀b y,¬Bx B A b->H b=some y->¬Bx B (λj q=>(j=i/\S q)∨(j≠i/\A j q)) b/\H1 b=some y:=λb y nb h=>by
  have ns:¬S b:=λz=>(n b z).elim (λz=>nb (.inr ⟨i,z⟩)) λz=>by rw[z]at h;cases h
  exact⟨λz=>z.elim (λz=>nb (.inl z)) λ⟨j,z⟩=>z.elim (λz=>ns z.2) λz=>nb (.inr ⟨j,z.2⟩),f b y (λz=>nb (.inl (o.eb.wb b z))) ns h⟩
 have oth:∀{j b},j≠i->A j b->¬S b:=λ{j b} ne h z=>(n b z).elim (λz=>ne (o.inj j i b h z)) (o.awn h);refine⟨o.eb,⟨λb y w h=>f b y w (λz=>by rw[n0 b z]at h;cases h) (o.fw.fr b y w h),fw⟩,by rw[Cm,o.len],λj q h=>h.elim (λh=>n0 q h.2) λh=>o.an j q h.2,λj q h=>?_,λj j' q h h'=>?_,λj u h=>?_,λj m v h hm=>?_,λj m h=>?_⟩
 ·rcases h with ⟨_,h⟩|⟨ne,h⟩
  ·exact w.th d q h
  ·obtain⟨y,h1,h2⟩:=o.aw j q h;exact⟨y,f q y (o.nw h) (oth ne h) h1,h2⟩
 ·rcases h with ⟨e1,e2⟩|⟨ne,h⟩<;>rcases h' with ⟨e3,e4⟩|⟨ne',h'⟩
  ·rw[e1,e3]
  ·exact(oth ne' h' e2).elim
  ·exact(oth ne h e4).elim
  ·exact o.inj j j' q h h'
 ·rcases cW h with ⟨rfl,rfl,hl⟩|⟨ne,h⟩
  ·cases hs
  ·obtain⟨v',h1,h2⟩:=o.sh j u h;exact⟨v',h1,DU.mono k u h2⟩
 ·rcases cW h with ⟨rfl,rfl,hl⟩|⟨ne,h⟩
  ·rw[hs]at hm;cases hm;refine⟨p,hg,w.at_ (w.mono (λb y nb h=>⟨λz=>nb (z.elim .inl λ⟨j,z⟩=> .inr (z.elim (λz=> .inr z.2) λz=> .inl ⟨j,z⟩)),h⟩) (λ_ _=>rfl) d) λb=>⟨λh=>h.elim (λh=>h.2) λh=>absurd rfl h.1,λh=> .inl ⟨rfl,h⟩⟩⟩
  ·obtain⟨q,h1,h3⟩:=o.hd j m v h hm;exact⟨q,h1,v.at_ (v.mono k (λb hb=>let⟨y,hy,_⟩:=v.th h3 b hb;(f b y (o.nw hb) (oth ne hb) hy).trans hy.symm) h3) λb=>⟨λh=>h.elim (λh=>absurd h.1 ne) λh=>h.2,λh=> .inr ⟨ne,h⟩⟩⟩
 ·rcases cW h with ⟨rfl,rfl,hl⟩|⟨ne,h⟩
  ·exact hb
  ·exact o.nb j m h
end
def tPa(ns:List Str)(F:TVa)(trs:List (TE×TE)):Prop:=∀{W B:Addr->Prop}{ρ:EV}{σ:St}{H:Hp}{R:List U->Prop}{Q:List (V×V)->Hp->Prop},EE W B H ρ σ->F ρ R->(∀us vs H',R us->us.length=ns.length->Fw W H H'->DUs W B H' us vs->Q ((ns.map V.str).zip vs) H')->aDe trs σ H Q
def VPs(X:Cx)(pos:Pos)(ks:List (Option Expr))(vs:List Expr)(ns:List Str)(F:TVa):Prop:=∃trs,PPs X pos ks vs trs/\tPa ns F trs
def aZ4(ns:List Str)(F:TVa):TV:=λρ R=>F ρ λus=>R (.oo (dkO ns us))
theorem aF8:∀{ns as:List Str}{vs xs:List V},as.length=xs.length->ns.length=vs.length->(as++ns).Nodup->rM (zk as xs) (zk ns vs)=zk (as++ns) (xs++vs)
 | [],as,[],xs,_,_,_=>by rw[Bf,Bf];rfl
 |n::ns,as,v::vs,xs,h1,h2,nd=>by
  show rM (putK (zk as xs) (Cq n) v) (zk ns vs)=_;have hn:n∉as:=λz=>(List.nodup_append.mp nd).2.2 n z n Af rfl;rw[aEq h1 hn,aF8 (by rw[Ag,Ag,h1];rfl) (Es h2) (by rw[Bi];exact nd),Bi,Bi];rfl
def aZg(i:Nat)(k:Str)(F:TV):TVS:=λE ρ=>F ρ λs=>s.es λu=>∃ns us,ρ[i]? =some (.oo (dkO ns us))/\ns.length<=50/\((k∉ns/\E.nx (ρ.set i (.oo (dkO (ns++[k]) (us++[u])))))∨∃ms ws u0,ns=ms++[k]/\us=ws++[u0]/\ws.length=ms.length/\k∉ms/\E.nx (ρ.set i (.oo (dkO ns (ws++[u])))))
def aWc(i:Nat)(k:Str)(F:TV):TVS:=λE ρ=>F ρ λs=>∃l ns us,s=.ow l/\ρ[i]? =some (.oo (dkO ns us))/\ns.length<=50/\k∉ns/\E.nx (ρ.set i (.oo (dlO ns us k l)))
def aZz(i:Nat)(k:Str)(F:TV):TVS:=λE ρ=>∃ns us l,ρ[i]? =some (.oo (dlO ns us k l))/\k∉ns/\l.length<10000/\F ρ λs=>s.es λu=>E.nx (ρ.set i (.oo (dlO ns us k (l++[u]))))
def aY9(a:TV)(k:Str):TV:=λρ R=>a ρ λs=>(∃ns us,s=.bo (dkO ns us)/\wQ k ns us R)∨∃ns us k' l,s=.bo (dlO ns us k' l)/\wQ k ns us R
def vDk(i:Nat)(G:TVS):TVS:=λE ρ=>∃ns us k l,ρ[i]? =some (.oo (dlO ns us k l))/\us.length=ns.length/\G E (ρ.set i (.oo (dkO (ns++[k]) (us++[.ls l]))))
def bBh(i:Nat)(G:TVS):TVS:=λE ρ=>∃ns us,ρ[i]? =some (.oo (dkO ns us))/\G E (ρ.set i (.sh (.dk ns us)))
def aTe{W B:Addr->Prop}{H:Hp}{l:List U}{u:U}(h:DUs W B H (l++[u]) xs):∃ys v,xs=ys++[v]/\DUs W B H l ys/\DU W B H u v:=by
 have a:=h.take l.length;have b:=h.drop l.length;rw[Th]at a;rw[Tn]at b;obtain⟨v,r,e,d,z⟩:=b;rw[show r=[]from z]at e;exact⟨_,v,by rw[<-e,Hl],a,d⟩
def aOb{k k':Str}{v':V}(h:mL (zk ns xs) (Cq k)=some v)(l:ns.length=xs.length):mL (zk (ns++[k']) (xs++[v'])) (Cq k)=some v:=by
 induction ns generalizing xs with
 |nil=>cases h
 |cons n ns ih=>
  cases xs with
  |nil=>cases l
  |cons x xs=>
   show mL ((Cq n,x)::zk (ns++[k']) (xs++[v'])) _=_;have h:mL ((Cq n,x)::zk ns xs) (Cq k)=some v:=h;by_cases e:n=k
   ·subst e;rw[oR rfl]at h⊢;exact h
   ·rw[oA (λz=>e (Ov z))]at h⊢;exact ih h (Es l)
theorem aKo:∀(ns:List Str)(vs:List V),(ns.map V.str).zip vs=((ns.map Cq:List Key).zip vs).map λkv=>(kV kv.1,kv.2)
 | [],_=>rfl
 |_::_,[]=>rfl
 |_::ns,_::vs=>congrArg _ (aKo ns vs)
def aX0{pos:Pos}:VPs X pos [] [] [] aPq:=⟨_,aSu,λe h q=>q [] [] _ h rfl e.eb.refl rfl⟩
def vM{pos:Pos}{k:Str}{j p}{v:Expr}{ks:List (Option Expr)}{vs:List Expr}{F:TV}{G:TVa}(hv:VE X v F)(hr:VPs X pos ks vs ns G):VPs X pos (some (.Constant (.str k) j p)::ks) (v::vs) (k::ns) (aJb F G):=by
 obtain⟨_,p1,f1⟩:=hv;obtain⟨_,p2,f2⟩:=hr;refine⟨_,aQa cA p1 p2,λe h q=>f1 e h λs v H1 h1 w1 r1=>?_⟩;obtain⟨u,h1,d⟩:=r1.du e.eb h1;exact f2 (e.to w1) h1 λus vs H2 h2 l2 w2 d2=>q (u::us) (v::vs) H2 h2 (by rw[Ah,l2];rfl) (w1.trans w2) ⟨v,vs,rfl,DU.mono ((e.to w1).eb.keep w2) u d,d2⟩
def aR5{pos:Pos}{keys:List (Option Expr)}{values:List Expr}{F:TVa}(h:VPs X pos keys values ns F)(nd:ns.Nodup)(nl:ns.length<=15)(hall:keys.all (·.isSome)=true:=by rfl)(hl:keys.length=values.length:=by rfl)(h0:keys≠[]:=by exactλz=>nomatch z)(h15:keys.length<=15:=by decide):VE X (.Dict keys values pos) (aZ4 ns F):=by
 obtain⟨_,p,f⟩:=h;refine⟨_,aTt p hall hl h0 h15,λ{W B ρ σ H R Q} e h q p n=>?_⟩;have e1:=e.plus (x:=.dK []) n;have w0:=e.eb.new (o:=.dK []) n;have nW:¬W p:=λz=>e.eb.nw n (e.eb.wb p z);refine f e1 h λus vs H2 h2 l2 w2 d2=>⟨w2.fr p _ nW aJ,zk ns vs,?_,?_,?_⟩
 ·unfold zk;exact aKo ns vs
 ·unfold zk;rw[Mp,Ab];lia
 ·have lv:=d2.length;rw[show rM [] (zk ns vs)=zk ns vs from aF8 (as:=[]) (xs:=[]) rfl ∅ nd];have w3:Fw W H (upd H2 p (.dK (zk ns vs))):=(w0.trans w2).upd n nW;refine q (.oo (dkO ns us)) _ _ h2 w3 ⟨p,(·=p),rfl,λb hb=>by rw[hb];exact n,λ_=>Ls,vs,aJ,∅,DUs.mono (λb y nb h=>⟨nb,(aP (λz=>nb (.inr z))).trans h⟩) us d2⟩
def uZ{k:Str}{j pk}{value:Expr}{pos pos' p':Pos}{F:TV}(i:Nat)(hr:dG m X.A)(hv:VE X value F)(hN:X.N[i]? =some x:=by rfl)(hvs:Vis X.env.scope x:=by trivial)(hd:ND x:=by decide)
  (hcd:NC x:=by decide) (hs:swapsWith value (some (.Subscript (.Name x p') (.Constant (.str k) j pk) pos')) pos.line X.env=pure false:=by rfl):VS X (.Assign [.Subscript (.Name x p') (.Constant (.str k) j pk) pos'] value pos) (aZg i k F):=by
 obtain⟨_,p2,f2⟩:=hv;refine⟨_,aJi (by have:=hr.un;lia) (iZ hN hvs hd hcd) cA p2 hs,λ{W B H0 A ρ σ H E D} o h jj=>f2 o.ee h λsv v H1 h1 w1 r1=>?_⟩;obtain⟨u,⟨ns,us,hi,hl,h2⟩,dv⟩:=r1.du o.ee.eb h1;have o1:=o.to w1;obtain⟨p,g1,gs,xs,g2,g3,g4⟩:=o1.hd i _ _ hi rfl;have kk:∀{x:HO} b y,¬Bx B A b->H1 b=some y->¬Bx B A b/\upd H1 p x b=some y:=λb y n h=>⟨n,(aP (λz:b=p=>n (by rw[z];exact .inr ⟨i,(gs p).mpr rfl⟩))).trans h⟩;refine⟨_,g1,p,_,rfl,aLa.k (k:=Cq k) g2 ?_,?_⟩
 ·have:(zk ns xs).length<=ns.length:=by unfold zk;rw[Mp,Ab];lia
  exact Ky (Cc this hl) ⋯
 ·rcases h2 with ⟨hk,h2⟩|⟨ms,ws,u0,rfl,rfl,hw,hk,h2⟩
  ·rw[aEq g3 hk];exact jj.nx (o1.chg g1 ((gs p).mpr rfl) (s':=.oo (dkO (ns++[k]) (us++[u]))) rfl rfl ⟨gs,_,aJ,by rw[Ag,Ag,g3];rfl,DUs.mono kk _ (g4.app (DUs.one dv))⟩) h2
  ·obtain⟨ys,v0,rfl,a1,a2⟩:=aTe g4;have ly:=a1.length;rw[aM1 ∅ hk];exact jj.nx (o1.chg g1 ((gs p).mpr rfl) (s':=.oo (dkO (ms++[k]) (ws++[u]))) rfl rfl ⟨gs,_,aJ,by rw[Ag,Ag];show _+1=_+1;lia,DUs.mono kk _ (a1.app (DUs.one dv))⟩) h2
def aPe{k:Str}{j pk}{value:Expr}{pos pos' p':Pos}{F:TV}(i:Nat)(hr:dG m X.A)(hv:VE X value F)(hN:X.N[i]? =some x:=by rfl)(hvs:Vis X.env.scope x:=by trivial)(hd:ND x:=by decide)
  (hcd:NC x:=by decide) (hs:swapsWith value (some (.Subscript (.Name x p') (.Constant (.str k) j pk) pos')) pos.line X.env=pure false:=by rfl):VS X (.Assign [.Subscript (.Name x p') (.Constant (.str k) j pk) pos'] value pos) (aWc i k F):=by
 obtain⟨_,p2,f2⟩:=hv;refine⟨_,aJi (by have:=hr.un;lia) (iZ hN hvs hd hcd) cA p2 hs,λ{W B H0 A ρ σ H E D} o h jj=>f2 o.ee h λsv v H1 h1 w1 r1=>?_⟩;obtain⟨l,ns,us,rfl,hi,hl,hk,h2⟩:=h1;obtain⟨q,ys,rfl,nq,hq,dl⟩:=r1;have o1:=o.to w1;obtain⟨p0,g0,gs0,xs,g20,g3,g4⟩:=o.hd i _ _ hi rfl;have nWp:¬W p0:=o.nw ((gs0 p0).mpr rfl);have g2:=w1.fr p0 _ nWp g20;have pq:p0≠q:=λz=>by rw[<-z,g20]at nq;cases nq
 refine⟨_,g0,p0,_,rfl,aLa.k (k:=Cq k) g2 ?_,?_⟩
 ·have:(zk ns xs).length<=ns.length:=by unfold zk;rw[Mp,Ab];lia
  exact Ky (Cc this hl) ⋯
 ·rw[aEq g3 hk];refine jj.nx (o.rep (i:=i) (s:=.oo (dlO ns us k l)) (S:=λb=>b=p0∨b=q) (p:=p0) rfl rfl (λb y w n h=>?_) (λr hr=>?_) (λb hb=>?_) ⟨q,xs,ys,λ_=>Ls,pq,aJ,g3,DUs.mono (λb y n h=>⟨λz=>?_,?_⟩) us g4,(aP (Cy pq)).trans hq,DUs.mono (λb y n h=>⟨λz=>?_,?_⟩) l dl⟩ g0) h2
  ·exact(aP (λz=>n (.inl z))).trans (w1.fr b y w h)
  ·obtain⟨x,y,z,h⟩:=o1.fw.wo r hr;exact⟨x,y,z,(aP (λe:r=p0=>nWp (by rw[<-e];exact hr))).trans h⟩
  ·rcases hb with rfl|rfl
   ·exact .inl ((gs0 _).mpr rfl)
   ·exact .inr nq
  ·rcases z with z|⟨j,_,z⟩|rfl|rfl
   ·exact n (.inl z)
   ·exact n (.inr ⟨j,z⟩)
   ·exact n (.inr ⟨i,(gs0 _).mpr rfl⟩)
   ·rw[nq]at h;cases h
  ·exact(aP (λz:b=p0=>n (by rw[z];exact .inr ⟨i,(gs0 _).mpr rfl⟩))).trans (w1.fr b y (λz=>n (.inl (o.eb.wb b z))) h)
  ·rcases z with z|⟨j,_,z⟩|rfl|rfl
   ·exact n (.inl (.inl z))
   ·exact n (.inl (.inr ⟨j,z⟩))
   ·exact n (.inl (.inr ⟨i,(gs0 _).mpr rfl⟩))
   ·exact n (.inr rfl)
  ·exact(aP (λz:b=p0=>n (by rw[z];exact .inl (.inr ⟨i,(gs0 _).mpr rfl⟩)))).trans h
def aSq{k:Str}{j pk}{p' sp apos cpos pos:Pos}{F:TV}(i:Nat)(hr:dG m X.A)(ha:VE X a F)(hN:X.N[i]? =some x:=by rfl)(hv:Vis X.env.scope x:=by trivial)(hd:ND x:=by decide)
  (hcd:NC x:=by decide)
  (hbase:attributeBase (.Subscript (.Name x p') (.Constant (.str k) j pk) sp) "append" X.env (eval (.Subscript (.Name x p') (.Constant (.str k) j pk) sp) X.env)=eval (.Subscript (.Name x p') (.Constant (.str k) j pk) sp) X.env:=by rfl)
  (hfew:((backTo cpos (starEach [a] X.env)).all (λx=> !x.1) && (backToKw cpos (keywordEach [] X.env)).all (λx=>x.1.isSome)
   && decide ([a].length+([]:List Keyword).length+(if([]:List Keyword).isEmpty then 0 else 1)<30))=true:=by rfl)
  (hline:EL apos cpos:=by rfl) (hs:SE X a []:=by rfl) (hplain:BT X cpos []:=by rfl)
  (hsw:swapsWith (.Call (.Attribute (.Subscript (.Name x p') (.Constant (.str k) j pk) sp) "append" apos) [a] [] cpos) none pos.line X.env=pure false:=by rfl):
  VS X (.Expr (.Call (.Attribute (.Subscript (.Name x p') (.Constant (.str k) j pk) sp) "append" apos) [a] [] cpos) pos) (aZz i k F):=by
 obtain⟨_,p,f⟩:=ha;refine⟨_,cQ (vW De Gf Ge oO (aD0 (by have:=hr.un;lia) (iZ hN hv hd hcd) cA (λ_ _=>rfl)) (aM p aZ hs) hbase hfew hline hs hplain) hsw,λ{W B H0 A ρ σ H E D} o h jj=>?_⟩;obtain⟨ns,us,l,hi,hk,hl,h⟩:=h;obtain⟨p,g1,q,xs,ys,gs,pq,g2,g3,g4,g5,g6⟩:=o.hd i _ _ hi rfl;have dg:aBa H p (.str k) (some (.ref q)):=by
  have:=aBa.k (k:=Cq k) g2;rw[aAq g3 hk]at this;exact this
 refine⟨_,g1,p,_,rfl,dg,.inl ⟨rfl,_,SqL.of g5⟩,f o.ee h λs v H1 h5 w r=>?_⟩;obtain⟨u,h6,d⟩:=r.du o.ee.eb h5;have o1:=o.to w;obtain⟨p',k1,q',xs,ys,gs,pq,k2,k3,k4,k5,k6⟩:=o1.hd i _ _ hi rfl;rw[g1]at k1;cases k1;have eq:q'=q:=by
  have a1:=aBa.k (k:=Cq k) k2;have a2:=w.fr p _ (o.nw ((gs p).mpr (.inl rfl))) g2;rw[k2]at a2;have a3:=aAq (v:=V.ref q') k3 hk;have a4:=congrArg (λo=>match o with|some (HO.dK m)=>mL m (Cq k)|_=>none) a2;have a4:mL (zk (ns++[k]) (xs++[.ref q'])) (Cq k)=mL (zk (ns++[k]) _) (Cq k):=a4;rw[a3,aAq g3 hk]at a4;cases a4;rfl
 subst eq;have Aq:A i q':=(gs q').mpr (.inr rfl);have kk:∀{x:HO} b y,¬Bx B A b->H1 b=some y->¬Bx B A b/\upd H1 q' x b=some y:=λb y n h=>⟨n,(aP (λz:b=q'=>n (by rw[z];exact .inr ⟨i,Aq⟩))).trans h⟩;refine⟨q',ys,v,rfl,rfl,k5,?_,jj.nx (o1.chg g1 Aq (s':=.oo (dlO ns us k (l++[u]))) rfl rfl ⟨q',xs,_,gs,pq,(aP pq).trans k2,k3,DUs.mono kk us k4,aJ,DUs.mono kk _ (k6.app (DUs.one d))⟩) h6⟩;have:=k6.length;have:(10000:Nat)<=sizeLine:=by decide
 lia
def aEm{k:Str}{j pos p}{F:TV}(hr:dG m X.A)(ha:VE X a F)(hs:aLf (.Constant (.str k) j p):=by exactλ_ _=>rfl):VE X (.Subscript a (.Constant (.str k) j p) pos) (aY9 F k):=by
 obtain⟨_,p,f⟩:=ha;refine⟨_,aD0 (by have:=hr.un;lia) p cA hs,λ{W B ρ σ H R Q} e h q=>f e h λs v H1 h1 f1 r=>?_⟩;rcases h1 with ⟨ns,us,rfl,h1⟩|⟨ns,us,k',l,rfl,h1⟩
 ·obtain⟨p,S,rfl,_,s,xs,hp,_,ds⟩:=r;obtain⟨u,v,h2,h3,h4⟩:=zM ds h1;exact⟨p,v,rfl,by rw[<-h4];exact aBa.k (k:=Cq k) hp,q _ _ _ h2 f1 h3⟩
 ·obtain⟨p,S,rfl,_,q',xs,ys,s,_,hp,hl,ds,_⟩:=r;obtain⟨u,v,h2,h3,h4⟩:=zM ds h1;have h4:mL (zk ns xs) (Cq k)=some v:=h4;exact⟨p,v,rfl,by rw[<-aOb (k':=k') (v':=.ref q') h4 hl];exact aBa.k (k:=Cq k) hp,q _ _ _ h2 f1 h3⟩
def aWe{st:List Stmt}{G:TVS}(i:Nat)(h:VSs X st G):VSs X st (vDk i G):=by
 obtain⟨_,p,f⟩:=h;refine⟨_,p,λ{W B H0 A ρ σ H E D} o h j=>?_⟩;obtain⟨ns,us,k,l,hi,hu,h⟩:=h;obtain⟨p,g1,q,xs,ys,gs,pq,g2,g3,g4,g5,g6⟩:=o.hd i _ _ hi rfl;have kk:∀b y,¬Bx B A b->H b=some y->¬(B b∨(∃j,j≠i/\A j b)∨b=p)/\H b=some y:=λb y n h=>⟨λz=>n (z.elim .inl λz=>z.elim (λ⟨j,_,z⟩=> .inr ⟨j,z⟩) λz=> .inr ⟨i,(gs b).mpr (.inl z)⟩),h⟩;refine f (o.rep (i:=i) (s:=.oo (dkO (ns++[k]) (us++[.ls l]))) (S:=(·=p)) (p:=p) rfl rfl (λb y _ _ h=>h) o.fw.wo (λb hb=> .inl ((gs b).mpr (.inl hb))) ⟨λ_=>Ls,_,g2,by rw[Ag,Ag,g3];rfl,(DUs.mono kk us g4).app (DUs.one (u:=.ls l) ⟨q,ys,rfl,λz=>?_,g5,DUs.mono kk l g6⟩)⟩ g1) h j;rcases z with z|⟨j,ne,z⟩|z
 ·exact o.now (o.an i q ((gs q).mpr (.inr rfl))) z
 ·exact ne (o.inj j i q z ((gs q).mpr (.inr rfl)))
 ·exact pq z.symm
def aR9{st:List Stmt}{G:TVS}(i:Nat)(h:VSs X st G):VSs X st (bBh i G):=by
 obtain⟨_,p,f⟩:=h;refine⟨_,p,λ{W B H0 A ρ σ H E D} o h j=>?_⟩;obtain⟨ns,us,hi,h⟩:=h;exact f (o.frz (u:=.dk ns us) hi rfl λn ⟨s,xs,h1,h2,h3⟩=>⟨_,xs,rfl,n _ ((s _).mpr rfl),h1,h2,h3⟩) h j
def aQi{st:List Stmt}{F G:TVS}(h:VSs X st F)(hw:∀E ρ,G E ρ->F E ρ):VSs X st G:=by
 obtain⟨t,p,f⟩:=h;exact⟨t,p,λo g j=>f o (hw _ _ g) j⟩
def aIg(l:List U)(lo hi:Option Int):List U:=(l.drop (HT.sIx l.length 0 lo)).take (HT.sIx l.length l.length hi-HT.sIx l.length 0 lo)
def DUs.cut{W B:Addr->Prop}{H:Hp}{l:List U}{lo hi:Option Int}(d:DUs W B H l xs):DUs W B H (aIg l lo hi) (aBt xs lo hi):=by
 unfold aIg aBt;rw[d.length];exact(d.drop _).take _
abbrev TVo:=EV->(Option Int->Prop)->Prop
def VTo(t:TO)(F:TVo):Prop:=∀{W B:Addr->Prop}{ρ:EV}{σ:St}{H:Hp}{R:Option Int->Prop}{Q:Option Int->Hp->Prop},EE W B H ρ σ->F ρ R->(∀o H',R o->Fw W H H'->Q o H')->t σ H Q
def VO(X:Cx)(e:Option Expr)(F:TVo):Prop:=∃t,PO X e t/\VTo t F
def bCd:TVo:=λ_ R=>R none
def bBg(F:TV):TVo:=λρ R=>F ρ λs=>match s.rd with
 |.v (.int i)=>R (some i)
 |_=>False
def vSl(F:TV)(L M:TVo):TV:=λρ R=>F ρ λs=>L ρ λlo=>M ρ λhi=>match s.rd with
 |.ls l=>R (.ow (aIg l lo hi))
 |.tp l=>¬(HT.sIx l.length 0 lo=0/\HT.sIx l.length l.length hi=l.length)/\R (.sh (.tp (aIg l lo hi)))
 |_=>False
def aTg:VO X none bCd:=⟨_,aRk,λe h q=>q _ _ h e.eb.refl⟩
def aRm{e:Expr}{F:TV}(h:VE X e F):VO X (some e) (bBg F):=by
 obtain⟨_,p,f⟩:=h;refine⟨_,vX p,λe h q=>f e h λs v H1 h1 w r=>?_⟩;have d:=r.db e.eb;revert h1 d;generalize s.rd=u;intro h1 d;split at h1
 ·exact⟨_,d.int,q _ _ h1 w⟩
 ·exact h1.elim
def bA6{lo hi:Option Expr}{p2 pos:Pos}{F:TV}{L M:TVo}(ha:VE X a F)(hl:VO X lo L)(hh:VO X hi M):VE X (.Subscript a (.Slice lo hi none p2) pos) (vSl F L M):=by
 obtain⟨_,p,f⟩:=ha;obtain⟨_,p1,f1⟩:=hl;obtain⟨_,p2,f2⟩:=hh;refine⟨_,aAn (aTd.or aV6) p p1 p2,λ{W B ρ σ H R Q} e h q=>f e h λs v H1 h1 w1 r1=>f1 (e.to w1) h1 λlo H2 h2 w2=>f2 ((e.to w1).to w2) h2 λhi H3 h3 w3=>?_⟩;have e3:=((e.to w1).to w2).to w3;have ww:=(w1.trans w2).trans w3;have d:=((r1.db e.eb).to (e.to w1).eb w2).to ((e.to w1).to w2).eb w3;revert h3 d;generalize s.rd=u;intro h3 d;split at h3
 ·obtain⟨a,xs,rfl,_,ha,ds⟩:=d.ls e3.eb;refine .inl ⟨a,xs,rfl,SqL.of ha,λp n=>?_⟩;have f4:=e3.eb.new (o:=.lst (aBt xs lo hi)) n;exact q _ _ _ h3 (ww.trans f4) (RO.back (s:=.ow _) ww ⟨p,_,rfl,n,aJ,DUs.mono (λb o nb h=>⟨λz=>z.elim nb (aQ h n),(e3.eb.keep f4 b o nb h).2⟩) _ ds.cut⟩)
 ·obtain⟨a,xs,rfl,_,ha,ds⟩:=d.tp;refine .inr ⟨a,xs,rfl,SqT.of ha,by rw[<-ds.length];exact h3.1,λp n=>?_⟩;have f4:=e3.eb.new (o:=.tup (aBt xs lo hi)) n;exact q _ _ _ h3.2 (ww.trans f4) ⟨p,_,rfl,e3.eb.nw n,aJ,DUs.mono (e3.eb.keep f4) _ ds.cut⟩
 ·exact h3.elim
mutual
def U.tt:U->Prop
 |.v _=>True
 |.tp l=>U.tts l
 |_=>False
def U.tts:List U->Prop
 | []=>True
 |u::l=>U.tt u/\U.tts l
end
section
variable {W W' B B':Addr->Prop}{H:Hp}
mutual
theorem DU.tt(e:EB W' B' H):∀(u:U){v:V},u.tt->DU W B H u v->DU W' B' H u v
 |.v _,_,_,h=>h
 |.tp l,_,t,⟨p,xs,e1,_,hp,ds⟩=>⟨p,xs,e1,λz=>by
  obtain⟨o,h,m⟩:=e.bl p z;rw[hp]at h;cases h;exact m,hp,DUs.tt e l t ds⟩
theorem DUs.tt(e:EB W' B' H):∀(l:List U){xs:List V},U.tts l->DUs W B H l xs->DUs W' B' H l xs
 | [],_,_,h=>h
 |u::l,_,⟨t,t'⟩,⟨x,r,e1,h,h'⟩=>⟨x,r,e1,DU.tt e u t h,DUs.tt e l t' h'⟩
end
end
def Sl.tt:Sl->Prop
 |.sh u=>u.tt
 |.ow l=>U.tts l
 |_=>False
def RO.tt{W W' B B':Addr->Prop}{H H0 H':Hp}{s:Sl}(e:EB W' B' H')(n:∀p,H p=none->H0 p=none)(t:s.tt)(h:RO W B H H' s v):RO W' B' H0 H' s v:=by
 match s,t,h with
 |.sh u,t,h=>exact DU.tt e u t h
 |.ow l,t,⟨p,xs,e1,n1,h2,h3⟩=>
  refine⟨p,xs,e1,n p n1,h2,DUs.tt ⟨λq hq=>hq.elim (e.bl q) λz=>⟨.lst xs,by rw[z];exact h2,trivial⟩,λq hq=> .inl (e.wb q hq),e.wo⟩ l t h3⟩
structure LnB(W B W' B':Addr->Prop)(H H':Hp):Prop where
 fw:Fw W H H'
 eb:EB W' B' H'
 sub:∀b,B' b->B b∨W' b
 w1:∀b,W b->W' b
 w2:∀b,W' b->W b∨H b=none
def VTl(t:TA)(F:TVa):Prop:=∀{W B:Addr->Prop}{ρ:EV}{σ:St}{H:Hp}{R:List U->Prop}{Q:List V->Hp->Prop},EE W B H ρ σ->F ρ R->(∀us vs H' W' B',R us->LnB W B W' B' H H'->DUs W' B' H' us vs->Q vs H')->t σ H Q
def VLn(X:Cx)(es:List Expr)(F:TVa):Prop:=∃t,PA X es t/\VTl t F
def aWi(F:List U->(Sl->Prop)->Prop)(a:TVa):TV:=λρ R=>a ρ λus=>F us λs=>s.tt/\R s
def aYz(a:TV)(b:TVa):TVa:=λρ R=>a ρ λs=>match s with
 |.ow [.v (.int _),.v (.int _),.v (.int _)]=>b ρ λus=>R (.wl::us)
 |_=>False
def EE.more{W B:Addr->Prop}{H H1:Hp}{ρ:EV}{σ:St}{x:HO}(e:EE W B H ρ σ)(f:Fw W H H1)(n:H p=none)(h1:H1 p=some x)(m:Mt x):EE W (λb=>B b∨b=p) H1 ρ σ:=by
 have k:∀b o,¬B b->H b=some o->¬(B b∨b=p)/\H1 b=some o:=λb o nb h=>⟨λz=>z.elim nb (aQ h n),(e.eb.keep f b o nb h).2⟩;have e1:=(e.to f).eb;refine⟨⟨λq hq=>hq.elim (e1.bl q) λz=>⟨x,by rw[z];exact h1,m⟩,λq hq=> .inl (e1.wb q hq),e1.wo⟩,e.len,λi u h=>?_,λi s w h hs=>?_⟩
 ·obtain⟨v,h1,h2⟩:=e.sh i u h;exact⟨v,h1,DU.mono k u h2⟩
 ·obtain⟨p,S,h1,h2,h3⟩:=e.hd i s w h hs;exact⟨p,S,h1,h2,w.mono k (λb hb=>let⟨y,hx,_⟩:=w.th h3 b hb;(f.fr b y (h2 b hb) hx).trans hx.symm) h3⟩
def aTi{es:List Expr}{F:TV}{G:TVa}(ha:VE X a F)(hb:VA X es G)(hs:SE X a es:=by rfl):VLn X (a::es) (aYz F G):=
 let⟨_,p,f⟩:=ha;let⟨_,p',f'⟩:=hb;⟨_,aM p p' hs,λ{W B ρ σ H R Q} e h q=>f e h λs v H1 h1 f1 r1=>by
  match s,h1,r1 with
  |.ow [.v (.int x),.v (.int y),.v (.int z)],h1,⟨p,xs,e1,n1,g2,dd⟩=>
   obtain⟨x1,_,rfl,d1,x2,_,rfl,d2,x3,r3,rfl,d3,d4⟩:=dd;obtain rfl:r3=[]:=d4;rw[d1.1,d2.1,d3.1]at g2;have nw:¬W p:=λz=>e.eb.dm p (e.eb.wb p z) n1;refine f' (e.more f1 n1 g2 trivial) h1 λus vs H2 h2 _ f2 d=>?_;have g3:=f2.fr p _ nw g2;have e2:=((e.more f1 n1 g2 trivial).to f2).eb;refine q _ _ _ (λb=>W b∨b=p) (λb=>B b∨b=p) h2 ⟨f1.trans f2,⟨e2.bl,λq hq=>hq.imp (e.eb.wb q) id,λq hq=>hq.elim (e2.wo q) λz=>by rw[z];exact⟨_,_,_,g3⟩⟩,λb hb=>hb.imp id .inr,λ_=> .inl,λb hb=>hb.imp id λz=>by rw[z];exact n1⟩ ⟨v,vs,rfl,⟨p,e1,.inr rfl⟩,DUs.wm (λ_=> .inl) us d⟩⟩
def aM2{F:List U->(Sl->Prop)->Prop}{es:List Expr}{G:TVa}{p pos:Pos}(C:Cal X.prog X.w X.K X.mg X.base CX0 k x ps (spV F))(hr:dG k X.A)(hg:Gl X x)
  (ha:VLn X (a::es) G) (hdb:ND x:=by decide) (he:SE X a es:=by rfl) (hpl:BT X pos es:=by rfl):
  VE X (.Call (.Name x p) (a::es) [] pos) (aWi F G):=
 let⟨_,p,f⟩:=ha;⟨_,aR2 C hr hg bH p hdb he hpl,λ{W B ρ σ H R Q} e h q=>f e h λus vs H1 W' B' h1 L d=>by
  refine⟨_,_,us,_,L.eb,(by rw[Bf];exact d),h1,λs v H2 h2 f2 r2=>?_⟩;have f3:Fw W H H2:=⟨λb o w h=>f2.fr b o (λz=>(L.w2 b z).elim w λy=>by rw[y]at h;cases h) (L.fw.fr b o w h),λp hp=>f2.wo p (L.w1 p hp)⟩;exact q _ _ _ h2.2 f3 (r2.tt (e.to f3).eb (λp=>L.fw.none_) h2.1)⟩
section
open PySem.W
variable {prog:Program}{w:World}{A:Around}{E:Value->Shared->Prop}{s:Shared}
end
section
open PySem.W
variable {prog:Program}{w:World}{A:Around}{E:Value->Shared->Prop}{s:Shared}{α:Type} [DecidableEq α] [Inhabited α]{knd:HeapKind prog w α}{ok:α->Prop}{lt:α->α->Bool}
end
def aO7:eE X (.builtin "isinstance") (λxs H Q=>∃p ps,xs=[V.ref p,V.ty "dict"]/\H p=some (.ext (bQ X.prog X.w p ps))/\Q (.bl true) H):=by
 intro pins s σ H xs us Q I r h;obtain⟨p,ps,rfl,hp,q⟩:=h;obtain⟨u,u',rfl,ru,ru'⟩:=vals2 r;cases ru;obtain rfl:u'=Hq "dict":=ru';obtain⟨⟨lo,o,es,ep,h1,h2,_⟩,_,_⟩:=(show cF X.prog X.w H s.heap p (.ext (bQ X.prog X.w p ps))from I.hok p _ hp);exact Ct Kq I.kIn ⟨o,h1,h2.1⟩ (b:=true) rfl (λz=>nomatch z) λtk=>⟨.bl true,H,I.tok _,rfl,q⟩
def bBw(P:Program)(w:World)(F:TV):TV:=λρ R=>F ρ λs=>(∃kvs,aGu P w s kvs)/\R (.sh (.b true))
def aV5{F:TV}{p p' pos:Pos}(hP:X.prog=P)(hw:X.w=w)(hm:X.mg "isinstance"=none)(hm2:X.mg "dict"=none)(ha:VE X a F)(hg:Gl X "isinstance":=by rfl)(hg2:Gl X "dict":=by rfl)
  (hs:starEach [a,.Name "dict" p'] X.env=(false,eval a X.env)::starEach [.Name "dict" p'] X.env:=by rfl) (hs2:starEach [.Name "dict" p'] X.env=(false,eval (.Name "dict" p') X.env)::starEach [] X.env:=by rfl) (hpl:BT X pos [.Name "dict" p']:=by rfl):
  VE X (.Call (.Name "isinstance" p) [a,.Name "dict" p'] [] pos) (bBw P w F):=by
 subst hP hw;obtain⟨_,q,f⟩:=ha;refine⟨_,fQ aO7 hg hm Ou (aM q (aM (aDs (v:=.ty "dict") hg2 hm2 boot_dict rfl ⋯ ⋯) aZ hs2) hs) ⋯ ⋯ hs hpl,λe h q=>f e h λs v H1 h1 w r=>?_⟩;obtain⟨⟨kvs,hs⟩,h1⟩:=h1;obtain⟨a,xs,rfl,g1,g2⟩:=r.pd hs;exact⟨a,xs,rfl,g1,q _ _ _ h1 w ⟨rfl,rfl⟩⟩
def aVz{o:Expr}{apos cpos:Pos}{td:TE}(ho:PE X o td)(hbase:attributeBase o "clear" X.env (eval o X.env)=eval o X.env:=by rfl)(hline:EL apos cpos:=by rfl):
  PE X (.Call (.Attribute o "clear" apos) [] [] cpos) (λσ H Q=>td σ H λx H1=>∃a xs,x=.ref a/\H1 a=some (.ext (bQ X.prog X.w a xs))/\xs.length<=sizeLine/\Q .non (upd H1 a (.ext (bQ X.prog X.w a [])))):=by
 intro pins s σ H Q I h;refine wpAny_Call_method0_late hbase hline (thn (ho pins s σ H _ I h) λv s1 ⟨x,H1,I1,r1,a,xs,ex,e,hl,q⟩=>?_);subst ex;obtain rfl:v=An a:=r1;obtain⟨⟨lo,o,es,ep,h1,h2,h3,h4,h5⟩,_,_⟩:=(show cF X.prog X.w H1 s1.heap a (.ext (bQ X.prog X.w a xs))from I1.hok a _ e);have hes:es.size<=sizeLine:=by rw[<-Ao,h4,Ab];exact hl
 refine⟨"dict","dict.clear",Ng,Nd,PySem.F.type_dict_clear,⟨o,h1,h2.1⟩,λa e2=>by cases e2;exact⟨o,h1,h2.2.1⟩,Jg rfl (PySem.evalArgs_none (Ca Nd ⟨o,h1,h2.1⟩ PySem.F.entry_dict_clear ?_ (PySem.F.args_dict_clear_1 _)))⟩;unfold Builtin.«dict.clear» Xb;refine Aa (Aa (Gd ⟨o,h1,h2.1⟩ ?_));show wpAny _ _ (pure a) _ _ s1;refine Ad (Aa (Bw h1 h3 (Aa ?_)));unfold bearsInstanceDictMark;refine Aa (Mx h1 (Ad (Aa (wpAny_updateDictKeys (hz:=hes) h1 h3 ?_))));have g1:=Bn (Ju λ_=> #[]) h1 (Ks (Hr h3 _));have ok:cF X.prog X.w (upd H1 a (.ext (bQ X.prog X.w a []))) (s1.heap.update a (Ju λ_=> #[])) a (.ext (bQ X.prog X.w a [])):=⟨⟨lo,_,_,_,g1,h2.mapDictKeys _,Hr h3 _,rfl,Hg⟩,⟨_,g1⟩,λh1 h2 p k=>bQ.stay h1 h2 p k⟩;have fin:EP X pins σ Q .none {s1 with heap:=s1.heap.update a (Ju λ_=> #[])}:=⟨.non,_,sV I1 (by rw[e];exact Dx) (Bo ..) ⟨_,g1⟩ ok,rfl,q⟩;split
 ·exact Aa (Lh (Ad ⟨.none,rfl,fin⟩))
 ·exact Aa (Ad (Ad ⟨.none,rfl,fin⟩))
def bCa(P:Program)(w:World)(j:Nat):TVS:=λE ρ=>∃kvs,ρ[j]? =some (.oo (pdO P w kvs))/\kvs.length<=10000/\E.nx (ρ.set j (.oo (pdO P w [])))
def aWh{p' apos cpos pos:Pos}(j:Nat)(hP:X.prog=P)(hw:X.w=w)(hN:X.N[j]? =some x:=by rfl)(hvs:Vis X.env.scope x:=by trivial)(hd:ND x:=by decide)
  (hcd:NC x:=by decide) (hbase:attributeBase (.Name x p') "clear" X.env (eval (.Name x p') X.env)=eval (.Name x p') X.env:=by rfl) (hline:EL apos cpos:=by rfl)
  (hs:swapsWith (.Call (.Attribute (.Name x p') "clear" apos) [] [] cpos) none pos.line X.env=pure false:=by rfl):VS X (.Expr (.Call (.Attribute (.Name x p') "clear" apos) [] [] cpos) pos) (bCa P w j):=by
 subst hP hw;refine⟨_,cQ (aVz (iZ hN hvs hd hcd) hbase hline) hs,λ{W B H0 A ρ σ H E D} o h jj=>?_⟩;obtain⟨kvs,hj,hl,h⟩:=h;obtain⟨q,g1,g2,xs,g3,g4⟩:=o.hd j _ _ hj rfl;exact⟨_,g1,q,xs,rfl,g3,by rw[g4.len];exact Cc hl ⋯,jj.nx (o.chg g1 ((g2 q).mpr rfl) (s':=.oo (pdO X.prog X.w [])) rfl rfl ⟨g2,[],aJ,.nil⟩) h⟩
def aU6{o e:Expr}{es:List Expr}{to:TE}{t:TA}{name:Str}{apos cpos:Pos}{id:String}{r:V->List V->Hp->VK->Prop}(slot:Slot "dict" name id)(hty:typeOf (.builtin id)=pure (.type "method_descriptor"))(hm:MtR X id r)(ho:PE X o to)(ha:PA X (e::es) t)
  (hbase:attributeBase o name X.env (eval o X.env)=eval o X.env:=by rfl)
  (hfew:((backTo cpos (starEach (e::es) X.env)).all (λx=> !x.1) && (backToKw cpos (keywordEach [] X.env)).all (λx=>x.1.isSome)
   && decide ((e::es).length+([]:List Keyword).length+(if([]:List Keyword).isEmpty then 0 else 1)<30))=true:=by rfl)
  (hline:EL apos cpos:=by rfl) (hs:SE X e es:=by rfl) (hplain:BT X cpos es:=by rfl):
  PE X (.Call (.Attribute o name apos) (e::es) [] cpos) (λσ H Q=>to σ H λx H1=>(∃a xs,x=.ref a/\H1 a=some (.ext (bQ X.prog X.w a xs)))/\t σ H1 λvs H2=>r x vs H2 Q):=by
 intro pins s σ H Q I h;refine Ra hbase hfew hline rfl (thn (ho pins s σ H _ I h) λv s1 ⟨x,H1,I1,r1,ty,q1⟩=>?_);obtain⟨a,xs,rfl,e⟩:=ty;obtain rfl:v=An a:=r1;obtain⟨⟨lo,o,es,ep,h1,h2,_⟩,_,_⟩:=(show cF X.prog X.w H1 s1.heap a (.ext (bQ X.prog X.w a xs))from I1.hok a _ e);refine⟨"dict",id,Ng,slot,hty,⟨o,h1,h2.1⟩,λa e2=>by cases e2;exact⟨o,h1,h2.2.1⟩,?_⟩;have hA:=ha cpos pins s1 σ H1 _ I1 q1;rw[hs]at hA⊢;refine Jg (by show(false || (backTo cpos (starEach _ X.env)).any (·.1))=false;rw[hplain]<;>rfl) (Ph ?_);exact thn hA λus s2 ⟨vs,H2,I2,r2,q2⟩=>hm pins s2 σ H2 (.ref a) vs (.ref a) us Q I2 rfl r2 q2
def aSp(hu:X.A.units+2<cLine):MtR X "dict.get" (λx vs H Q=>∃a xs b k d,x=.ref a/\vs=[.ref b,d]/\H a=some (.ext (bQ X.prog X.w a xs))/\(∀x∈xs,PKy H (x.1,x.2.1))/\PKy H (k,b)/\((∃c r v,atKey xs k=some (c,r)/\RelV v r/\Q v H)∨(atKey xs k=none/\Q d H))):=by
 intro pins s σ H x vs v us Q I rx rv h;obtain⟨a,xs,b,k,d,rfl,rfl,e,ks,kb,h⟩:=h;obtain rfl:v=An a:=rx;obtain⟨u1,u2,rfl,r1,r2⟩:=vals2 rv;obtain rfl:u1=An b:=r1;obtain⟨lo,dd⟩:=lK I.hok e ks;refine call_meetsIn Oi dd.typeIs PySem.F.entry_dict_get (PySem.F.args_dict_get_3 _ _ _) (meetsH_dict_get_default (cT (intKind X.prog X.w)) a b lo u2) ⟨show X.A.in1.units+1<cLine from hu,k,xs,pF (x:=(k,b)) I.hok kb,dd,?_⟩;rcases h with ⟨c,r,v,z,rv',q⟩|⟨z,q⟩
 ·rw[z];exact⟨v,H,I.tok _,rv',q⟩
 ·rw[z];exact⟨d,H,I.tok _,r2,q⟩
def bAx(P:Program)(w:World)(a b c:TV):TV:=λρ R=>a ρ λs=>∃kvs,aGu P w s kvs/\b ρ λs'=>s'.es λku=>c ρ λs''=>s''.es λu=>∃k,ku=tkU k/\R (.sh ((dY kvs k).getD u))
def aJ0{o a b:Expr}{apos cpos:Pos}{F G K:TV}(hP:X.prog=P)(hw:X.w=w)(hr:dG k X.A)(ho:VE X o F)(ha:VE X a G)(hb:VE X b K)(hbase:attributeBase o "get" X.env (eval o X.env)=eval o X.env:=by rfl)
  (hfew:((backTo cpos (starEach [a,b] X.env)).all (λx=> !x.1) && (backToKw cpos (keywordEach [] X.env)).all (λx=>x.1.isSome)
   && decide ([a,b].length+([]:List Keyword).length+(if([]:List Keyword).isEmpty then 0 else 1)<30))=true:=by rfl)
  (hline:EL apos cpos:=by rfl) (hs:starEach [a,b] X.env=(false,eval a X.env)::starEach [b] X.env:=by rfl) (hs2:SE X b []:=by rfl) (hplain:BT X cpos [b]:=by rfl):
  VE X (.Call (.Attribute o "get" apos) [a,b] [] cpos) (bAx P w F G K):=by
 subst hP hw;obtain⟨_,p,f⟩:=ho;obtain⟨_,p1,f1⟩:=ha;obtain⟨_,p2,f2⟩:=hb;refine⟨_,aU6 Oi PySem.F.type_dict_get (aSp (by have:=hr.un;lia)) p (aM p1 (aM p2 aZ hs2) hs) hbase hfew hline hs hplain,λ{W B ρ σ H R Q} e h q=>f e h λs v H1 h1 w1 r1=>?_⟩;have e1:=e.to w1;obtain⟨kvs,hs,h1⟩:=h1;obtain⟨a,xs,rfl,g1,g2⟩:=r1.pd hs;have nw:¬W a:=λz=>by
  obtain⟨_,_,_,y⟩:=e1.eb.wo a z;rw[g1]at y;cases y
 refine⟨⟨a,xs,rfl,g1⟩,f1 e1 h1 λs' v' H2 h2 w2 r2=>?_⟩;obtain⟨ku,h2,dk⟩:=r2.du e1.eb h2;have e2:=e1.to w2;refine f2 e2 h2 λs'' v'' H3 h3 w3 r3=>?_;obtain⟨u,⟨k,rfl,h4⟩,dv⟩:=r3.du e2.eb h3;have g2:=(g2.mono (e1.eb.keep w2)).mono (e2.eb.keep w3);obtain⟨b,rfl,kb⟩:=aDq (DU.mono (e2.eb.keep w3) _ dk);refine⟨a,xs,b,k,v'',rfl,rfl,w3.fr a _ nw (w2.fr a _ nw g1),λx hx=>pM (g2.keys.2 x hx),kb,?_⟩;rcases g2.val k with ⟨z1,z2⟩|⟨u',c,r,v,z1,z2,rv,dv'⟩
 ·rw[z1]at h4;exact .inr ⟨z2,q _ _ _ h4 ((w1.trans w2).trans w3) dv⟩
 ·rw[z1]at h4;exact .inl ⟨c,r,v,z2,rv,q _ _ _ h4 ((w1.trans w2).trans w3) dv'⟩
section
open PySem.Builtin.Dict
def aG7:Builtin.«dict.__ne__»=(λargs=>do
  let(self,other)<-dictSlotArgs "__ne__" args
  if !(<-isInstance other (.type "dict"))then
   rule s!"dict.{"__ne__"}.not-a-dict"
   return<-ret .notImplemented
  ret (.bool ((<-Ie s!"dict.{"__ne__"}" (<-addrOf self) (<-addrOf other))==false))):=rfl
variable {prog:Program}{w:World}{A:Around}{E:Value->Shared->Prop}{s:Shared}{K:Type} [DecidableEq K]{knd:HeapKind prog w K}
def aH3{id:String}{a b:Addr}{xs ys:List (K×Addr×Value)}{Q:Bool->Shared->Prop}(hu:knd.room A)(la:(a==sysModules)=false)(lb:(b==sysModules)=false)(ha:s.heap.DictOfH knd a xs)(hb:s.heap.DictOfH knd b ys)(hl:xs.length=ys.length)
  (hv:∀x∈xs,∃(j:Nat)(c:Addr)(r:Value),ys[j]? =some (x.1,c,r)/\∃i t t',x.2.2=.int i t/\r=.int i t') (h:Q true s):wpAny (model prog w) A (Ie id a b) Q E s:=by
 obtain⟨oa,ea,pa,a1,a2,a3,a4,a5,a6⟩:=ha;obtain⟨ob,eb,pb,b1,b2,b3,b4,b5,b6⟩:=hb;have na:ea.size=xs.length:=Kl a4;have nb:eb.size=ys.length:=Kl b4;unfold Ie showsAll;rw[la,lb];refine Aa (Ad (Aa (Ad (Aa (Bw a1 a3 (Aa (Bw b1 b3 ?_)))))));rw[if_neg (by rw[na,nb,hl];simp)];refine Aa (Fd a1 a3 (Aa ?_));rw[Ez];refine Cr _ (λrest r s'=>s'=s/\r=(none,())/\∀i∈rest,i<ea.size) _ ?_ ?_ _ _ ⟨rfl,rfl,λi hi=>?_⟩
 ·rintro i rest _ s' ⟨rfl,rfl,hi⟩;have hlt:=hi i Af;obtain⟨x,hx⟩:∃x,xs[i]? =some x:=⟨_,Aj ∅⟩;have hex:ea[i]? =some ⟨knd.hash x.1,.ref x.2.1,x.2.2⟩:=by rw[entry_at a4 i,hx];rfl
  obtain⟨j,c,r,hj,n,t,t',v1,v2⟩:=hv x (Ba hx);refine Aa (Bw a1 a3 ?_);rw[hex];dsimp only;refine Aa (Bp (Aa (Sv hu (a5 x (Ba hx)) b1 b3 b4 b5 b6 (λno=>absurd hj (no j _)) λj' p hj'=>?_)));have jj:j'=j:=by
   have h1:j'<(ys.map (·.1)).length:=by rw[Ab];exact(List.getElem?_eq_some_iff.mp hj').1
   have h2:j<(ys.map (·.1)).length:=by rw[Ab];exact(List.getElem?_eq_some_iff.mp hj).1
   refine(Je (h₀:=h1) (h₁:=h2) b6).mp ?_;rw[Sb,Sb,(List.getElem?_eq_some_iff.mp hj').2,(List.getElem?_eq_some_iff.mp hj).2]
  subst jj;have hef:eb[j']? =some ⟨knd.hash x.1,.ref c,r⟩:=by rw[entry_at b4 j',hj];rfl
  dsimp only;refine Aa (Bw b1 b3 ?_);rw[hef];dsimp only;rw[v1,v2];refine Bp (Jz ?_);rw[beq_self_eq_true,if_neg (by simp)];refine Aa (Fd a1 a3 ?_);rw[if_neg (by simp)];exact Ad ⟨rfl,rfl,λk hk=>hi k (Ae _ hk)⟩
 ·rintro _ s' ⟨rfl,rfl,_⟩;exact Ad h
 ·simpa using hi
def aP4{a b:Addr}{xs ys:List (K×Addr×Value)}{Q:Value->Shared->Prop}(hu:A.units<cLine)(hr:knd.room A.in1)(la:(a==sysModules)=false)(lb:(b==sysModules)=false)(ha:s.heap.DictOfH knd a xs)(hb:s.heap.DictOfH knd b ys)(hl:xs.length=ys.length)
  (hv:∀x∈xs,∃(j:Nat)(c:Addr)(r:Value),ys[j]? =some (x.1,c,r)/\∃i t t',x.2.2=.int i t/\r=.int i t') (h:Q (.bool false) s):wpAny (model prog w) A (richCompare .NotEq (.ref a) (.ref b)) Q E s:=by
 refine Im ha.typeIs hb.typeIs Om (Ca Om ha.typeIs PySem.F.entry_dict_ne ?_ (PySem.F.args_dict_ne_2 _ _)) hu;rw[aG7];unfold dictSlotArgs;refine Aa (Aa (Gd ha.typeIs ?_));show wpAny _ _ (pure (An a,An b)) _ _ s;refine Ad ?_;dsimp only;refine Aa (Dm hb.typeIs Jc ?_);rw[if_neg (by simp)];refine Aa (Ad (Aa (Ad (Aa (aH3 hr la lb ha hb hl hv (Ad ⟨_,rfl,nofun,h⟩))))))
end
def aL2{ys:List (Tke×Addr×Value)}{k:Tke}{c:Addr}{r:Value}(h:atKey ys k=some (c,r)):∃j:Nat,ys[j]? =some (k,c,r):=by
 unfold atKey at h;obtain⟨y,h1,h2⟩:=Option.map_eq_some_iff.mp h;obtain⟨j,hj⟩:=List.mem_iff_getElem?.mp (Nu h1);have e:y.1=k:=by have:=Sq h1;simpa using this
 exact⟨j,by rw[hj, <-e, <-h2]⟩
inductive aVd(P:Program)(w:World)(x:V)(y:V)(H:Hp)(Q:VK):Prop
 |mk (a b xs ys:_) (q0_:x=.ref a) (q1_:y=.ref b) (q2_:H a=some (.ext (bQ P w a xs))) (q3_:(∀x∈xs,PKy H (x.1,x.2.1))) (q4_:H b=some (.ext (bQ P w b ys))) (q5_:(∀x∈ys,PKy H (x.1,x.2.1))) (q6_:xs.length=ys.length) (q7_:(∀x∈xs,∃(j:Nat)(c:Addr)(r:Value),ys[j]? =some (x.1,c,r)/\∃i t t',x.2.2=.int i t/\r=.int i t')) (q8_:Q (.bl false) H):aVd P w x y H Q
def bAs(P:Program)(w:World):R2:=λx y H Q=>aVd P w x y H Q
def aYj(hu:X.A.units+2<cLine):OpR X (compareOp .NotEq) (bAs X.prog X.w):=by
 intro pins s σ H x y v u Q I rx ry h;obtain⟨a,b,xs,ys,rfl,rfl,h1,h2,h3,h4,hl,hv,q⟩:=h;obtain rfl:v=An a:=rx;obtain rfl:u=An b:=ry;obtain⟨la,da⟩:=lK I.hok h1 h2;obtain⟨lb,db⟩:=lK I.hok h3 h4;exact aP4 ∅ (show X.A.in1.units+1<cLine from hu) la lb da db hl hv ⟨.bl false,H,I,rfl,q⟩
def PdR.ints{W B:Addr->Prop}{H:Hp}{kvs:List (Tke×U)}{xs:List (Tke×Addr×Value)}(h:PdR W B H kvs xs){C:Tke->Int->Prop}(hc:∀p∈kvs,∃i,p.2=.n i/\C p.1 i):∀x∈xs,∃i t,x.2.2=Cv i t/\C x.1 i:=by
 induction h with
 |nil=>exact nofun
 |cons d rv dv t ih=>
  intro x hx;rcases List.mem_cons.mp hx with rfl|hx
  ·obtain⟨i,e,c⟩:=hc _ Af;dsimp only at e c;rw[e]at dv;rw[dv.1]at rv;obtain⟨t,rv⟩:=rv;exact⟨i,t,rv,c⟩
  ·exact ih (λp hp=>hc p (Ae _ hp)) x hx
def bAb(P:Program)(w:World)(a b:TV):TV:=λρ R=>a ρ λs=>b ρ λs'=>∃kvs kvs',aGu P w s kvs/\aGu P w s' kvs'/\kvs.length=kvs'.length/\(∀p∈kvs,∃i,p.2=.n i/\dY kvs' p.1=some (.n i))/\R (.sh (.b false))
def aVu{ta tb:TE}{F G:TV}(ha:VT ta F)(hb:VT tb G):VT (λσ H Q=>ta σ H λx H1=>tb σ H1 λy H2=>bAs P w x y H2 Q) (bAb P w F G):=λ{W B ρ σ H R Q} e h q=>ha e h λs v H1 h1 w1 r1=>hb (e.to w1) h1 λs' v' H2 h2 w2 r2=>by
 obtain⟨kvs,kvs',hs,hs',hl,hv,h3⟩:=h2;have e1:=e.to w1;obtain⟨a,xs,rfl,g1,g2⟩:=r1.pd hs;obtain⟨b,ys,rfl,g3,g4⟩:=r2.pd hs';have g1:=w2.fr a _ (λz=>by
  obtain⟨_,_,_,y⟩:=e1.eb.wo a z;rw[g1]at y;cases y) g1
 have g2:=g2.mono (e1.eb.keep w2);refine⟨a,b,xs,ys,rfl,rfl,g1,λx hx=>pM (g2.keys.2 x hx),g3,λx hx=>pM (g4.keys.2 x hx),by rw[g2.len,g4.len,hl],λx hx=>?_,q _ _ _ h3 (w1.trans w2) ⟨rfl,rfl⟩⟩;obtain⟨i,t,e1,e2⟩:=g2.ints (C:=λk i=>dY kvs' k=some (.n i)) hv x hx;rcases g4.val x.1 with ⟨z,_⟩|⟨u,c,r,v,z1,z2,rv,dv⟩
 ·rw[e2]at z;cases z
 ·rw[e2]at z1;cases z1;obtain⟨j,hj⟩:=aL2 z2;rw[dv.1]at rv;obtain⟨t',rv⟩:=rv;exact⟨j,c,r,hj,i,t,t',e1,rv⟩
def aWx{a b:Expr}{pos:Pos}{F G:TV}(hP:X.prog=P)(hw:X.w=w)(hr:dG k X.A)(ha:VE X a F)(hb:VE X b G)(hm:behindInMarks .NotEq b=false:=by first|exact cZ _|rfl):VC X (.Compare a [.NotEq] [b] pos) (qH (bAb P w F G)):=by
 subst hP hw;obtain⟨_,p,f⟩:=ha;obtain⟨_,p',f'⟩:=hb;exact⟨_,cM (aYj (by have:=hr.un;lia)) p p' hm,vY (aVu f f')⟩
section
open PySem.Builtin.Dict
variable {prog:Program}{w:World}{A:Around}{E:Value->Shared->Prop}{s:Shared}{K:Type} [DecidableEq K]{knd:HeapKind prog w K}
theorem aN6{α β:Type} [DecidableEq β]{f:α->β}{c:β}:∀{l:List α},(l.map f).Nodup->(l.filter λy=>f y==c).length<=1
 | [],_=>Ay _
 |a::l,h=>by
  rw[Au,Mn]at h;by_cases e:f a=c
  ·rw[List.filter_cons_of_pos (by simpa using e),Ah,List.filter_eq_nil_iff.mpr λy hy z=>h.1 (List.mem_map.mpr ⟨y,hy,by rw[e];simpa using z⟩)];exact Am _
  ·rw[List.filter_cons_of_neg (by simpa using e)];exact aN6 h.2
def aGs{id:String}{d:Addr}{xs:List (K×Addr×Value)}{o:Obj}{es ep}{Q:Array DictEntry->Shared->Prop}(ho:s.heap.get? d=some o)(hd:o.data=.dict es ep)(he:es.toList=xs.map (entryOfKey knd))(hq:∀x∈xs,∃ob,s.heap.get? x.2.1=some ob/\ob.cls=.type "tuple")(hn:(xs.map λx=>knd.hash x.1).Nodup)(h:Q es s):
  wpAny (model prog w) A (entriesForEmpty id d) Q E s:=by
 unfold entriesForEmpty;refine Aa (Bw ho hd (Aa ?_));rw[<-Dv];refine Cr _ (λrest _ s'=>s'=s/\∀e∈rest,e∈es.toList) _ ?_ ?_ _ _ ⟨rfl,λe he=>he⟩
 ·rintro e rest _ s' ⟨rfl,hr⟩;obtain⟨x,hx,rfl⟩:=List.mem_map.mp (by rw[<-he];exact hr e Af);obtain⟨ob,g1,g2⟩:=hq x hx;have q:∀{Q':Bool->Shared->Prop},Q' false s'->wpAny (model prog w) A (quietEq (entryOfKey knd x).key) Q' E s':=λ{Q'} h=>by
   show wpAny _ _ (specialOf (.ref x.2.1) "__eq__">>=_) _ _ _;refine Aa (Dh ⟨ob,g1,g2⟩ PySem.F.slot_tuple_eq.lookup (Ad ?_));exact h
  refine Aa (q ?_);rw[if_pos (by rfl),if_neg]
  ·exact Ad ⟨rfl,λe he=>hr e (Ae _ he)⟩
  ·rw[<-Ao,Array.toList_filter,he,List.filter_map,Ab];have:=aN6 (f:=λy:K×Addr×Value=>knd.hash y.1) (c:=knd.hash x.1) hn;exact Nat.not_lt.mpr this
 ·rintro _ s' ⟨rfl,_⟩;exact Ad h
def aAo{d:Addr}{xs:List (K×Addr×Value)}{Q:Value->Shared->Prop}(lo:(d==sysModules)=false)(hm:s.heap.DictOfH knd d xs)(hq:∀x∈xs,∃ob,s.heap.get? x.2.1=some ob/\ob.cls=.type "tuple")(hn:(xs.map λx=>knd.hash x.1).Nodup)(hz:xs.length<=sizeLine)
  (h:∀h' o es ep,h'.get? s.heap.objs.size=some o->o.ExactDict->o.data=.dict es ep->es.toList=xs.map (entryOfKey knd)->(∀b o,s.heap.get? b=some o->h'.get? b=some o)->Q (.ref s.heap.objs.size) {s with heap:=h'}):
  wpAny (model prog w) A (call (.type "dict") [.ref d]) Q E s:=by
 obtain⟨o,es,ep,h1,h2,h3,h4,h5,h6⟩:=id hm;have lt:d<s.heap.objs.size:=Ar h1;refine callType_codes (Q₁:=λobj s₁=>obj=.ref s.heap.objs.size/\s₁={s with heap:=s.heap.push {cls:=.type "dict",data:=.dict #[]}}) F.kt_called_dict (F.kt_typeCall_dict_1 _) F.entry_dict_init (kt_code_dict_new _ ⟨rfl,rfl⟩) ?_;rintro obj s₁ ⟨rfl,rfl⟩;have hnew:(s.heap.push {cls:=.type "dict",data:=.dict #[]}).DictOfH knd s.heap.objs.size []:=Wu s.heap;have kp:∀b o,s.heap.get? b=some o->(s.heap.push {cls:=.type "dict",data:=.dict #[]}).get? b=some o:=λb o e=>Ai _ e;have g1:=kp d o h1;have hT:Kg {s with heap:=s.heap.push {cls:=.type "dict",data:=.dict #[]}} (.ref d) "dict":=⟨_,g1,h2.1⟩;have n1:(s.heap.push {cls:=.type "dict",data:=.dict #[]}).get? s.heap.objs.size=some {cls:=.type "dict",data:=.dict #[]}:=Ap _ rfl;refine⟨hnew.typeIs,F.args_dict_init_2 _ _,?_⟩;unfold Builtin.«dict.__init__»;refine Aa ?_;unfold Wz;refine Aa (Gd hnew.typeIs ?_);show wpAny _ _ (pure (s.heap.objs.size,[An d])) _ _ _;refine Ad ?_;show wpAny _ _ (Lg "dict.__init__" s.heap.objs.size (.ref d) [] .none) _ _ _;unfold Lg;refine Aa (Ht hT ?_);rw[if_neg (by simp)];generalize hH:s.heap.push {cls:=.type "dict",data:=.dict #[]}=H1 at*;unfold Xd Xa;refine Aa (Aa (Aa (Dm hT Jc ?_)));rw[if_neg (by simp)];refine Aa (Dh hT PySem.F.slot_dict_iter.lookup (Ad ?_));rw[if_pos (by rfl)];refine Aa (Ad ?_);unfold Xc showsAll;rw[if_neg (by simpa using λz:s.heap.objs.size=d=>Ds d (z▸lt)),lo];refine Aa (Ad (Aa (Bw g1 h3 ?_)));dsimp only;cases xs with
 |nil=>
  obtain rfl:es= #[]:=Array.toList_inj.mp h4;rw[if_neg (by simp)];refine Aa (Fd g1 h3 (Aa (Bw g1 h3 ?_)));rw[Ez];exact Aa (Ad (Ad (Aa (Ad (Ad ⟨rfl,h _ _ _ _ n1 ⟨rfl,rfl,rfl⟩ rfl rfl kp⟩)))))
 |cons x xs=>
  have al:(es.all λe=>(keyPart e.key).isSome)=false:=by
   rw[<-Array.all_toList,h4];rfl
  rw[al,Gg,if_pos (by rfl)];refine Aa (Bw n1 rfl ?_);rw[if_pos (by rfl)];refine Aa (aGs g1 h3 h4 (λx hx=>let⟨ob,a,b⟩:=hq x hx;⟨ob,kp _ _ a,b⟩) hn ?_);have ne:es.isEmpty=false:=by
   have:0<es.size:=by rw[<-Ao,h4];exact Nat.zero_lt_succ _
   simp[Ts];intro z;rw[z]at this;cases this
  rw[ne,if_pos (by rfl)];have sz:es.size<=sizeLine+1:=by rw[<-Ao,h4,Ab];lia
  refine Aa (wpAny_updateDictKeysTo n1 rfl (Ad (Aa (Ad (Ad ⟨rfl,?_⟩)))) sz);have u1:=Bn (Ju λ_=>es) n1 (Ks (Hr rfl _));refine h _ _ _ _ u1 ((show Obj.ExactDict {cls:=.type "dict",data:=.dict #[]}from⟨rfl,rfl,rfl⟩).mapDictKeys _) (Hr rfl _) h4 λb o e=>?_;rw[Ci _ _ (λz=>by rw[<-z]at e;exact Ds _ (Ar e))];exact kp b o e
def aSo{d a:Addr}{xs:List (K×Addr×Value)}{k:K}{v:Value}{Q:Unit->Shared->Prop}(hu:knd.room A)(hkey:knd.is s.heap k a)(hm:s.heap.DictOfH knd d xs)(hin:k∈xs.map (·.1))
  (h:∀h',h'.DictOfH knd d (storedH xs k a v)->Cg d s.heap h'->Q () {s with heap:=h'}):wpAny (model prog w) A (dictSetHashed d (.ref a) (knd.hash k) v) Q E s:=by
 obtain⟨o,es,ep,h1,h2,h3,h4,h5,h6⟩:=hm;obtain⟨y,hy,rfl⟩:=List.mem_map.mp hin;obtain⟨j0,hj0⟩:=List.mem_iff_getElem?.mp hy;unfold dictSetHashed;refine Bp (Aa (Sv hu hkey h1 h3 h4 h5 h6 (λno=>absurd hj0 (no j0 y.2)) λj p hj=>?_));have sb:=Bo s.heap d (Obj.mapDict λes=>es.modify j λe=>{e with val:=v});refine Aa (Jl (Aa (wpAny_updateDict h1 h3 (wpAny_point (h _ ⟨_,_,ep,Bn _ h1 (Ks (Sn h3 _)),h2.mapDict _,Sn h3 _,?_,?_,?_⟩ sb)))))
 all_goals rw[storedH_old (atKey_of_get h6 hj)]
 ·have:=modify_map_putAt (entryOfKey knd) (λe:DictEntry=>{e with val:=v}) y.1 v (λ_ _=>rfl) h6 hj;rw[<-h4]at this;obtain⟨l⟩:=es;simpa using this
 ·intro x hx;obtain⟨z,hz,rfl⟩:=List.mem_map.mp hx;unfold putAt;split<;>exact knd.keeps (h5 z hz) h1 h3 sb
 ·rw[keys_map_putAt];exact h6
def aEf{xs:List (K×Addr×Value)}{k:K}{a:Addr}{v:Value}(h:k∈xs.map (·.1)):(storedH xs k a v).map (·.1)=xs.map (·.1):=by
 obtain⟨y,hy,rfl⟩:=List.mem_map.mp h;cases e:atKey xs y.1 with
 |none=>
  unfold atKey at e;rw[Option.map_eq_none_iff,List.find?_eq_none]at e;exact absurd (decide_eq_true rfl) (e y hy)
 |some p=>rw[storedH_old e,keys_map_putAt]
def aGn(xs ys:List (K×Addr×Value)):List (K×Addr×Value):=ys.foldl (λxs y=>storedH xs y.1 y.2.1 y.2.2) xs
def aKq{xs:List (K×Addr×Value)}:∀{ys:List (K×Addr×Value)},(∀y∈ys,y.1∈xs.map (·.1))->(aGn xs ys).map (·.1)=xs.map (·.1):=by
 intro ys;induction ys generalizing xs with
 |nil=>exactλ_=>rfl
 |cons y ys ih=>
  intro h;have e:=aEf (a:=y.2.1) (v:=y.2.2) (h y Af);exact(ih (xs:=storedH xs y.1 y.2.1 y.2.2) λz hz=>by rw[e];exact h z (Ae _ hz)).trans e
def aMb{id:String}{d b:Addr}{xs ys:List (K×Addr×Value)}{Q:Unit->Shared->Prop}(hu:knd.room A)(lo:(b==sysModules)=false)(ne:d≠b)(hm:s.heap.DictOfH knd d xs)(hb:s.heap.DictOfH knd b ys)(hin:∀y∈ys,y.1∈xs.map (·.1))
  (h:∀h',h'.DictOfH knd d (aGn xs ys)->Cg d s.heap h'->Q () {s with heap:=h'}):wpAny (model prog w) A (mergeDict id d b) Q E s:=by
 have hm':=hm;obtain⟨o,es,ep,h1,h2,h3,h4,h5,h6⟩:=hm';obtain⟨ob,eb,pb,b1,b2,b3,b4,b5,b6⟩:=hb;have nb:eb.size=ys.length:=Kl b4;unfold mergeDict showsAll;rw[if_neg (by simpa using ne),lo];refine Aa (Ad (Aa (Bw b1 b3 ?_)));dsimp only;have lp:wpAny (model prog w) A (do
   let epoch<-dictEpoch b
   for i in [0:(<-dictEntries b).size] do
    let some e:=(<-dictEntries b)[i]? |unsupported "internal:dict-merge"
    holding [e.key,e.val] (dictSetHashed d e.key e.hash e.val)
    if(<-dictEpoch b) != epoch then unsupported s!"{id}:source-changed-during-callback") Q E s:=by
  refine Aa (Fd b1 b3 (Aa (Bw b1 b3 ?_)));rw[Ez];refine Aa (Cr _ (λrest _ s'=>∃(i:Nat)(h':Heap),s'={s with heap:=h'}/\rest=Iz i (eb.size-i)/\i<=eb.size/\h'.DictOfH knd d (aGn xs (ys.take i))/\Cg d s.heap h') _ ?_ ?_ _ _ ⟨0,s.heap,rfl,by simp,Ay _,hm,?_⟩)
  ·rintro i rest _ _ ⟨i0,h',rfl,er,hi,dd,sb⟩;have hlt:i0<eb.size:=by
    have:=congrArg Bj er;simp at this
    lia
   rw[show eb.size-i0=(eb.size-(i0+1))+1 by lia,Gh]at er;obtain⟨rfl,rfl⟩:=Bs er;obtain⟨y,hy⟩:∃y,ys[i]? =some y:=⟨_,Aj ∅⟩;have hym:=Ba hy;have hex:eb[i]? =some ⟨knd.hash y.1,.ref y.2.1,y.2.2⟩:=by rw[entry_at b4 i,hy];rfl
   have c1:h'.get? b=some ob:=(sb.2 b (Cy ne)).trans b1;refine Aa (Bw c1 b3 ?_);rw[hex];dsimp only;refine Aa (Bp (aSo hu (knd.keeps (b5 y hym) h1 h3 sb) dd (by rw[aKq λz hz=>hin z (Ka hz)];exact hin y hym) λh'' dd' sb'=>?_));refine Aa (Fd ((sb'.2 b (Cy ne)).trans c1) b3 ?_);rw[if_neg (by simp)];refine Ad ⟨i+1,h'',rfl,rfl,hlt,?_,sb.trans sb'⟩;rw[Lc,hy];unfold aGn;rw[Rm];exact dd'
  ·rintro _ _ ⟨i,h',rfl,er,hi,dd,sb⟩;have:i=ys.length:=by
    have:=congrArg Bj er;simp at this
    lia
   rw[this,Fe]at dd;exact Ad (h h' dd sb)
  ·exact Ny _ _
 by_cases hf:(decide (eb.size<=8) && eb.all λe=>(keyPart e.key).isSome)=true
 ·rw[if_neg (by rw[hf];simp)];exact lp
 ·rw[if_pos (by rw[Bool.eq_false_iff.mpr hf];rfl)];refine Aa (Bw h1 h3 ?_);rw[if_neg]
  ·exact lp
  ·intro z;have:es.size=0:=by simpa[Ts]using z
   have nx:=Kl h4;apply hf;have:ys=[]:=by
    cases ys with
    |nil=>rfl
    |cons y ys=>
     have:=List.length_pos_of_mem (hin y Af);rw[Ab]at this
     lia
   subst this;obtain rfl:eb= #[]:=Array.toList_inj.mp b4;simp
end
section
open PySem.Builtin.Dict
variable {X:Cx}{P:Program}{w:World}
def aRn(hu:X.A.units+3<cLine):MtR X "dict.update" (λx vs H Q=>∃a b xs ys,x=.ref a/\vs=[.ref b]/\a≠b/\H a=some (.ext (bQ X.prog X.w a xs))/\(∀x∈xs,PKy H (x.1,x.2.1))/\H b=some (.ext (bQ X.prog X.w b ys))/\(∀x∈ys,PKy H (x.1,x.2.1))/\(∀y∈ys,y.1∈xs.map (·.1))/\Q .non (upd H a (.ext (bQ X.prog X.w a (aGn xs ys))))):=by
 intro pins s σ H x vs v us Q I rx rv h;obtain⟨a,b,xs,ys,rfl,rfl,ne,h1,h2,h3,h4,hin,q⟩:=h;obtain rfl:v=An a:=rx;obtain⟨u,rfl,ru⟩:=vals1 rv;obtain rfl:u=An b:=ru;obtain⟨la,da⟩:=lK I.hok h1 h2;obtain⟨lb,db⟩:=lK I.hok h3 h4;refine Ca Mj da.typeIs PySem.F.entry_dict_update ?_ (PySem.F.args_dict_update_2 _ _);unfold Builtin.«dict.update» selfAndRest;refine Aa (Aa (Gd da.typeIs ?_));show wpAny _ _ (pure (a,[An b])) _ _ _;refine Ad ?_;show wpAny _ _ (updateFrom "dict.update" a (.ref b) [] .none) _ _ _;unfold updateFrom;refine Aa (Ht db.typeIs ?_);rw[if_neg (by simp)];unfold merge readDirectly;refine Aa (Aa (Aa (Dm db.typeIs Jc ?_)));rw[if_neg (by simp)];refine Aa (Dh db.typeIs PySem.F.slot_dict_iter.lookup (Ad ?_));rw[if_pos (by rfl)];refine Aa (Ad (aMb (show X.A.in1.units+1<cLine by show X.A.units+1+1<cLine;lia) lb ne da db hin λh' dd sb=>?_));obtain⟨o,es,ep,g1,g2,g3,g4,g5,g6⟩:=dd;have ok:cF X.prog X.w (upd H a (.ext (bQ X.prog X.w a (aGn xs ys)))) h' a (.ext (bQ X.prog X.w a (aGn xs ys))):=⟨⟨la,o,es,ep,g1,g2,g3,g4,g6⟩,⟨o,g1⟩,λh1 h2 p k=>bQ.stay h1 h2 p k⟩;exact Aa (Ad (Ad ⟨.none,rfl,.non,_,sV I (by rw[h1];exact Dx) sb ⟨o,g1⟩ ok,rfl,q⟩))
def PdR.ups{W B:Addr->Prop}{H:Hp}{kvs more:List (Tke×U)}{xs ys:List (Tke×Addr×Value)}(h:PdR W B H kvs xs)(h':PdR W B H more ys):PdR W B H (more.foldl (λl p=>nF l p.1 p.2) kvs) (aGn xs ys):=by
 induction h' generalizing kvs xs with
 |nil=>exact h
 |cons d rv dv t ih=>exact ih (h.put d rv dv)
def bAr(P:Program)(w:World)(j:Nat)(F:TV):TVS:=λE ρ=>∃kvs,ρ[j]? =some (.oo (pdO P w kvs))/\F ρ λs=>∃more,s=.sh (.op (pdO P w more).fz)/\(∀p∈more,p.1∈kvs.map (·.1))/\E.nx (ρ.set j (.oo (pdO P w (more.foldl (λl p=>nF l p.1 p.2) kvs))))
def aTp{e:Expr}{p' apos cpos pos:Pos}{F:TV}(j:Nat)(hP:X.prog=P)(hw:X.w=w)(hr:dG k X.A)(he:VE X e F)(hN:X.N[j]? =some x:=by rfl)(hvs:Vis X.env.scope x:=by trivial)(hd:ND x:=by decide)
  (hcd:NC x:=by decide) (hbase:attributeBase (.Name x p') "update" X.env (eval (.Name x p') X.env)=eval (.Name x p') X.env:=by rfl)
  (hfew:((backTo cpos (starEach [e] X.env)).all (λx=> !x.1) && (backToKw cpos (keywordEach [] X.env)).all (λx=>x.1.isSome)
   && decide ([e].length+([]:List Keyword).length+(if([]:List Keyword).isEmpty then 0 else 1)<30))=true:=by rfl)
  (hline:EL apos cpos:=by rfl) (hs:SE X e []:=by rfl) (hplain:BT X cpos []:=by rfl)
  (hsw:swapsWith (.Call (.Attribute (.Name x p') "update" apos) [e] [] cpos) none pos.line X.env=pure false:=by rfl):VS X (.Expr (.Call (.Attribute (.Name x p') "update" apos) [e] [] cpos) pos) (bAr P w j F):=by
 subst hP hw;obtain⟨_,p,f⟩:=he;refine⟨_,cQ (aU6 Mj PySem.F.type_dict_update (aRn (by have:=hr.un;lia)) (iZ hN hvs hd hcd) (aM p aZ hs) hbase hfew hline hs hplain) hsw,λ{W B H0 A ρ σ H E D} o h jj=>?_⟩;obtain⟨kvs,hj,h⟩:=h;obtain⟨q,g1,g2,xs,g3,g4⟩:=o.hd j _ _ hj rfl;refine⟨_,g1,⟨q,xs,rfl,g3⟩,f o.ee h λs v H1 h1 w1 r1=>?_⟩;obtain⟨more,rfl,hin,h2⟩:=h1;have o1:=o.to w1;obtain⟨q',g1',_,xs,g3,g4⟩:=o1.hd j _ _ hj rfl;rw[g1]at g1';cases g1';obtain⟨b,S,rfl,nB,sb,ys,y1,y2⟩:=r1;have ne:q≠b:=λz=>nB b ((sb b).mpr rfl) (by rw[<-z];exact .inr ⟨j,(g2 q).mpr rfl⟩);refine⟨q,b,xs,ys,rfl,rfl,ne,g3,λx hx=>pM (g4.keys.2 x hx),y1,λx hx=>pM (y2.keys.2 x hx),λy hy=>?_,jj.nx (o1.chg g1 ((g2 q).mpr rfl) (s':=.oo (pdO X.prog X.w (more.foldl (λl p=>nF l p.1 p.2) kvs))) rfl rfl ⟨g2,_,aJ,?_⟩) h2⟩
 ·rw[g4.keys.1];have:y.1∈ys.map (·.1):=List.mem_map.mpr ⟨y,hy,rfl⟩;rw[y2.keys.1]at this;obtain⟨p,hp,e⟩:=List.mem_map.mp this;rw[<-e];exact hin p hp
 ·exact PdR.mono (λb y n h=>⟨n,(aP (λz:b=q=>n (by rw[z];exact .inr ⟨j,(g2 q).mpr rfl⟩))).trans h⟩) (g4.ups y2)
def aIn(hc:X.calm=true):eE X (.type "dict") (λxs H Q=>∃a ps,xs=[V.ref a]/\H a=some (.ext (bQ X.prog X.w a ps))/\(∀x∈ps,PKy H (x.1,x.2.1))/\(ps.map λx=>(cT (intKind X.prog X.w)).hash x.1).Nodup/\ps.length<=sizeLine/\∀l,H l=none->Q (.ref l) (upd H l (.ext (bQ X.prog X.w l ps)))):=by
 intro pins s σ H xs us Q I r h;obtain⟨a,ps,rfl,h1,h2,hn,hz,q⟩:=h;obtain⟨u,rfl,ru⟩:=vals1 r;cases ru;obtain⟨lo,dd⟩:=lK I.hok h1 h2;have nd:=dd;obtain⟨_,_,_,_,_,_,_,h5,h6⟩:=nd;refine aAo lo dd (λx hx=>?_) hn hz λh' o es ep g1 g2 g3 g4 kp=>?_
 ·obtain⟨o,v,b,n,e1,e2,_⟩:=h5 x hx;exact⟨o,e1,e2⟩
 ·have hp:bQ X.prog X.w s.heap.objs.size ps h':=⟨beq_eq_false_iff_ne.mpr (Cy (Az I.big)),o,es,ep,g1,g2,g3,g4,h6⟩;have ok:cF X.prog X.w (upd H s.heap.objs.size (.ext (bQ X.prog X.w s.heap.objs.size ps))) h' s.heap.objs.size (.ext (bQ X.prog X.w s.heap.objs.size ps)):=⟨hp,⟨o,g1⟩,λh1 h2 p k=>bQ.stay h1 h2 p k⟩;exact⟨.ref s.heap.objs.size,_,I.laid (a:=s.heap.objs.size) (o:=.ext (bQ X.prog X.w s.heap.objs.size ps)) (t':=s.toks) kp (Am _) ok,rfl,q _ (I.hok.fresh (Am _))⟩
def aYa(P:Program)(w:World)(F:TV):TV:=λρ R=>F ρ λs=>∃kvs,aGu P w s kvs/\((kvs.map (·.1)).map (cT (intKind P w)).hash).Nodup/\kvs.length<=10000/\R (.oo (pdO P w kvs))
def aNi{p pos:Pos}{F:TV}(hP:X.prog=P)(hw:X.w=w)(hc:X.calm=true)(hm:X.mg "dict"=none)(ha:VE X a F)(hg:Gl X "dict":=by rfl)(hs:SE X a []:=by rfl)(hpl:BT X pos []:=by rfl):VE X (.Call (.Name "dict" p) [a] [] pos) (aYa P w F):=by
 subst hP hw;obtain⟨_,p,f⟩:=ha;refine⟨_,lU (aIn hc) hg hm boot_dict (aM p aZ hs) ⋯ ⋯ hs hpl,λ{W B ρ σ H R Q} e h q=>f e h λs v H1 h1 w1 r1=>?_⟩;obtain⟨kvs,hs,hn,hl,h2⟩:=h1;obtain⟨a,xs,rfl,g1,g2⟩:=r1.pd hs;have e1:=e.to w1;refine⟨a,xs,rfl,g1,λx hx=>pM (g2.keys.2 x hx),by rw[<-g2.keys.1,Bh]at hn;exact hn,by rw[g2.len];exact Cc hl ⋯,λl nl=>q _ _ _ h2 (w1.trans (e1.eb.new nl)) (RO.back (s:=.oo _) w1 ⟨l,(·=l),rfl,λb hb=>by rw[hb];exact nl,λ_=>Ls,xs,aJ,g2.mono λb o nb h=>?_⟩)⟩;exact⟨λz=>z.elim nb (aQ h nl),(e1.eb.keep (e1.eb.new nl) b o nb h).2⟩
end
def bA3(i j:Nat)(F:TV):TVS:=λE ρ=>∃l m,i≠j/\ρ[i]? =some (.ow l)/\ρ[j]? =some (.ow m)/\l.length<10000/\m.length<10000/\F ρ λs=>∃(n:Nat)(u:U),s.rd=.n (n:Int)/\m[n]? =some u/\E.nx ((ρ.set j (.ow (m.eraseIdx n))).set i (.ow (l++[u])))
def aRv{x y:Str}{p' apos cpos py apos2 cpos2 pos:Pos}{F:TV}(i j:Nat)(ha:VE X a F)(hN:X.N[i]? =some x:=by rfl)(hv:Vis X.env.scope x:=by trivial)(hd:ND x:=by decide)
  (hcd:NC x:=by decide) (hN':X.N[j]? =some y:=by rfl) (hv':Vis X.env.scope y:=by trivial) (hd':ND y:=by decide) (hcd':NC y:=by decide)
  (hb:attributeBase (.Name x p') "append" X.env (eval (.Name x p') X.env)=eval (.Name x p') X.env:=by rfl) (hb':attributeBase (.Name y py) "pop" X.env (eval (.Name y py) X.env)=eval (.Name y py) X.env:=by rfl)
  (hfew:((backTo cpos (starEach [.Call (.Attribute (.Name y py) "pop" apos2) [a] [] cpos2] X.env)).all (λx=> !x.1) && (backToKw cpos (keywordEach [] X.env)).all (λx=>x.1.isSome)
   && decide ([Expr.Call (.Attribute (.Name y py) "pop" apos2) [a] [] cpos2].length+([]:List Keyword).length+(if([]:List Keyword).isEmpty then 0 else 1)<30))=true:=by rfl)
  (hfew':((backTo cpos2 (starEach [a] X.env)).all (λx=> !x.1) && (backToKw cpos2 (keywordEach [] X.env)).all (λx=>x.1.isSome)
   && decide ([a].length+([]:List Keyword).length+(if([]:List Keyword).isEmpty then 0 else 1)<30))=true:=by rfl)
  (hl:EL apos cpos:=by rfl) (hl':EL apos2 cpos2:=by rfl) (hs:starEach [.Call (.Attribute (.Name y py) "pop" apos2) [a] [] cpos2] X.env=(false,eval (.Call (.Attribute (.Name y py) "pop" apos2) [a] [] cpos2) X.env)::starEach [] X.env:=by rfl) (hs':SE X a []:=by rfl)
  (hp:BT X cpos []:=by rfl) (hp':BT X cpos2 []:=by rfl)
  (hsw:swapsWith (.Call (.Attribute (.Name x p') "append" apos) [.Call (.Attribute (.Name y py) "pop" apos2) [a] [] cpos2] [] cpos) none pos.line X.env=pure false:=by rfl):
  VS X (.Expr (.Call (.Attribute (.Name x p') "append" apos) [.Call (.Attribute (.Name y py) "pop" apos2) [a] [] cpos2] [] cpos) pos) (bA3 i j F):=by
 obtain⟨_,p,f⟩:=ha;refine⟨_,cQ (vW De Gf Ge oO (iZ hN hv hd hcd) (aM (vW De Oh Og aF0 (iZ hN' hv' hd' hcd') (aM p aZ hs') hb' hfew' hl' hs' hp') aZ hs) hb hfew hl hs hp) hsw,λ{W B H0 A ρ σ H E D} o h jj=>?_⟩;obtain⟨l,m,ne,hi,hj,ll,ml,h⟩:=h;obtain⟨qi,xs,a1,a2,a3,a4⟩:=o.ow i l hi;obtain⟨q,ys0,h1,h2,h3,h4⟩:=o.ow j m hj;refine⟨_,a1,.inl ⟨rfl,_,SqL.of a3⟩,_,h1,.inl ⟨rfl,_,SqL.of h3⟩,f o.ee h λs v H1 h5 w r=>?_⟩;obtain⟨n,u,e1,e2,h6⟩:=h5;have d:=r.db o.ee.eb;rw[e1]at d;have o1:=o.to w;obtain⟨q',ys,g1,g2,g3,g4⟩:=o1.ow j m hj;rw[h1]at g1;cases g1;obtain⟨z,hz,dz⟩:=g4.get e2;have hn:n<ys.length:=(List.getElem?_eq_some_iff.mp hz).1;have lm:=g4.length;have o2:=o1.own (l':=m.eraseIdx n) (xs':=ys.eraseIdx n) h1 h2 (g4.erase n);obtain⟨q2,zs,b1,b2,b3,b4⟩:=o2.ow i l (by rw[eV ne];exact hi);rw[a1]at b1;cases b1;have lz:=b4.length;have sl:(10000:Nat)<sizeLine:=by decide
 refine⟨q,ys,n,n,z,rfl,by rw[d.int],g3,∅,∅,Jt ∅ ∅,hz,?_⟩;refine⟨qi,zs,z,rfl,rfl,b3,∅,jj.nx (o2.own (l':=l++[u]) (xs':=zs++[z]) a1 b2 (b4.app (DUs.one (DU.mono (λb x nb h=>⟨nb,(aP (λe:b=q=>nb (by rw[e];exact .inr ⟨j,(h2 q).mpr rfl⟩))).trans h⟩) u dz)))) h6⟩
end L2
namespace Q
open PySem PyProof.Rows L2
def top(i:Nat):Stmt:=PySem.Challenge.pw_slanttiles_k34_where_spots_are_used_last.main.body.getD i (.Pass ⟨0,0,0,0⟩)
abbrev pD:Stmt:=top 2
abbrev kO:Stmt:=top 3
abbrev uA:Stmt:=top 4
abbrev uI:Stmt:=top 12
abbrev qZ:Stmt:=top 13
abbrev lQ:Stmt:=inClass (top 23) 0
abbrev gF:Stmt:=inClass (top 23) 1
abbrev lJ:Stmt:=inClass (top 23) 4
abbrev jD:Stmt:=inClass (top 23) 5
abbrev iT:Stmt:=inClass (top 23) 6
abbrev eY:Stmt:=inClass (top 24) 1
abbrev gA:Stmt:=inClass (top 25) 1
abbrev lO:Stmt:=inClass (top 25) 4
abbrev iU:Stmt:=inClass (top 26) 1
abbrev lL:Stmt:=inClass (top 32) 1
abbrev gD:Stmt:=inClass (top 32) 2
abbrev jA:Stmt:=inClass (top 33) 1
abbrev mU:Stmt:=top 34
abbrev pO:Stmt:=top 35
abbrev jT:Stmt:=top 36
abbrev pY:Stmt:=top 37
abbrev jE:Stmt:=inClass (top 42) 0
abbrev pA:Stmt:=inClass (top 42) 1
abbrev gZ:Stmt:=inClass (top 42) 2
abbrev iQ:Stmt:=inClass (top 42) 4
abbrev qR:Stmt:=inClass (top 42) 5
abbrev oX:Stmt:=top 43
abbrev wG:Stmt:=top 44
abbrev aAy:Stmt:=top 47
abbrev kJ:Stmt:=top 48
abbrev uR:Stmt:=top 49
abbrev kY:Stmt:=inClass (top 54) 0
abbrev pK:Stmt:=inClass (top 54) 1
abbrev iD:Stmt:=inClass (top 54) 2
abbrev iY:Stmt:=inClass (top 54) 3
abbrev nZ:Stmt:=inClass (top 54) 6
abbrev nJ:Stmt:=top 55
abbrev xQ:Stmt:=top 56
abbrev rP:Stmt:=top 57
abbrev qX:Stmt:=top 67
abbrev rH:Stmt:=top 69
abbrev pZ:Stmt:=top 70
abbrev pX:Stmt:=top 71
abbrev qO:Stmt:=top 72
abbrev rQ:Stmt:=top 73
abbrev jG:Stmt:=top 74
abbrev mR:Stmt:=top 75
abbrev nA:Stmt:=top 76
abbrev cB:Stmt:=top 77
abbrev uQ:Stmt:=top 78
abbrev pN:Stmt:=top 79
abbrev pQ:Stmt:=top 80
abbrev uG:Stmt:=top 81
abbrev uP:Stmt:=top 82
abbrev aC1:Stmt:=top 83
structure Txt(mg:Str->Option Value):Prop where
 isinstance:mg "isinstance"=none
 int:mg "int"=none
 bool:mg "bool"=none
 str:mg "str"=none
 tuple:mg "tuple"=none
 list:mg "list"=none
 len:mg "len"=none
 range:mg "range"=none
 enumerate:mg "enumerate"=none
 max:mg "max"=none
 min:mg "min"=none
 sorted:mg "sorted"=none
 sum:mg "sum"=none
 set:mg "set"=none
 all:mg "all"=none
 any:mg "any"=none
 zip:mg "zip"=none
 abs:mg "abs"=none
 dict:mg "dict"=none
 c_GREATEST_NUMBER:∃t,mg "GREATEST_NUMBER"=some (.int 1000000000000 t)
 c_GREATEST_DIVISOR:∃t,mg "GREATEST_DIVISOR"=some (.int 1000000000 t)
 c_GREATEST_BACK:∃t,mg "GREATEST_BACK"=some (.int 3 t)
 c_GREATEST_STEP:∃t,mg "GREATEST_STEP"=some (.int 9 t)
 c_MOST_STEPS_terms:∃t,mg "MOST_STEPS_terms"=some (.int 3 t)
 c_MOST_DEPTH:∃t,mg "MOST_DEPTH"=some (.int 12 t)
 c_MOST_PARTS:∃t,mg "MOST_PARTS"=some (.int 60 t)
 c_MOST_TAKES:∃t,mg "MOST_TAKES"=some (.int 6 t)
 c_GREATEST_MODULUS:∃t,mg "GREATEST_MODULUS"=some (.int 1000000000 t)
 c_MOST_ROUNDS:∃t,mg "MOST_ROUNDS"=some (.int 12 t)
 c_MOST_SPOTS:∃t,mg "MOST_SPOTS"=some (.int 120 t)
 c_GREATEST_FIXED:∃t,mg "GREATEST_FIXED"=some (.int 1000000000 t)
 c_MOST_LINES:∃t,mg "MOST_LINES"=some (.int 3 t)
 c_GREATEST_SIZE:∃t,mg "GREATEST_SIZE"=some (.int 9 t)
 c_MOST_PLACES:∃t,mg "MOST_PLACES"=some (.int 40 t)
 c_MOST_FIGURES:∃t,mg "MOST_FIGURES"=some (.int 13 t)
 c_MOST_STEPS_term_texts:∃t,mg "MOST_STEPS_term_texts"=some (.int 3 t)
 c_MOST_WITHIN:∃t,mg "MOST_WITHIN"=some (.int 12 t)
variable {P:Program}{w:World}{K:Ac}{mg:Str->Option Value}{base:Heap}{f:Addr}{fd:FuncData}
abbrev Fv:=List U->(Sl->Prop)->Prop
def mir(s n:Int):Int:=if n % (2*s)<s then n % (2*s)else 2*s-1-n % (2*s)
def aZn:Fv:=λus R=>∃s n:Int,us=[.n s,.n n]/\0<s/\s<=1000/\R (.sh (.n (mir s n)))
def xW:aL ["size","number","along"] ["size","number"] (aC uR):={}
def aWk(F:Fun K "mirrored" "mirrored" uR f fd):bC P w K mg base CX0 1 f fd ["size","number"] (spV aZn):=by
 refine vfn F xW (λcdv A outer s H E hr=>(aD (bA (i:=2) xW.nd (aX nU jL (aA 1) (aX kZ jL aG (aA 0)))) (aD (dF (cO vH cH (aA 2) (aA 0)) (aF (eU 2)) bN) (aF (aY (aX iJ cH (aX iJ cH (aX kZ jL aG (aA 0)) aG) (aA 2))))))) ?_;rintro _ R ⟨s,n,rfl,h1,h2,q⟩;unfold mir at q;refine⟨rfl,?_⟩;refine⟨.inl (by constructor<;>decide),by show 0<2*s;lia,?_⟩;refine⟨λh=>?_,λh=>?_⟩
 ·rw[if_pos (of_decide_eq_true h)]at q;exact q
 ·rw[if_neg (of_decide_eq_false h)]at q;exact⟨.inl (by constructor<;>decide),q⟩
def bBz:U->Bool
 |.v (.int _)=>true
 |_=>false
def aOm:Fv:=λus R=>∃u t,us=[u]/\tyU u=some t/\R (.sh (.b (bBz u)))
def aFa:aL ["thing"] ["thing"] (aC uI):={}
def aM4(F:Fun K "is_whole" "is_whole" uI f fd)(T:Txt mg):bC P w K mg base CX0 1 f fd ["thing"] (spV aOm):=by
 refine vfn F aFa (λcdv A outer s H E hr=>(aF (aY (aC7 (tY .int nofun T.isinstance T.int Tw (aA 0)) (aD2 (aWb (tY .bl nofun T.isinstance T.bool boot_bool (aA 0)))))))) ?_;rintro _ R ⟨u,t,rfl,ht,q⟩;unfold tyU at ht;split at ht<;>cases ht<;>first|exact⟨rfl,_,rfl,λ_=>⟨_,rfl,q⟩,nofun⟩|exact⟨rfl,_,rfl,nofun,λ_=>q⟩
def isIn(u:U)(a b:Int):Bool:=match u with
 |.v (.int i)=>decide (a<=i) && decide (i<=b)
 |_=>false
def jU:Fv:=λus R=>∃u t a b,us=[u,.n a,.n b]/\tyU u=some t/\R (.sh (.b (isIn u a b)))
def aDl:aL ["thing","least","most"] ["thing","least","most"] (aC qZ):={}
def aMh(F:Fun K "is_within" "is_within" qZ f fd)(c_is_whole:Cal P w K mg base CX0 1 "is_whole" ["thing"] (spV aOm)):bC P w K mg base CX0 2 f fd ["thing","least","most"] (spV jU):=by
 refine vfn F aDl (λcdv A outer s H E hr=>(aF (aY (aC7 (aO c_is_whole (hr.mono ⋯) rfl (aB (aA 0) aH)) (aD2 (aEy wJ wJ cH cH (aA 1) (aA 0) (aA 2))))))) ?_;rintro _ R ⟨u,t,a,b,rfl,ht,q⟩;refine⟨rfl,u,t,rfl,ht,?_⟩;match u,q with
 |.v (.int i),q=>exact⟨λ_=>⟨λh=>by simp only[isIn,h,Oo]at q;exact q,λh=>by simp only[isIn,h,Ik]at q;exact q⟩,nofun⟩
 |.v .non,q=>exact⟨nofun,λ_=>q⟩
 |.v (.bl _),q=>exact⟨nofun,λ_=>q⟩
 |.v (.str _),q=>exact⟨nofun,λ_=>q⟩
 |.tp _,q=>exact⟨nofun,λ_=>q⟩
 |.ls _,q=>exact⟨nofun,λ_=>q⟩
 |.dk _ _,q=>exact⟨nofun,λ_=>q⟩
inductive Rim where
 |fixed (v:Int)
 |mirror
 |round
def Rim.u:Rim->U
 |.fixed v=> .tp [.s "fixed",.n v]
 |.mirror=> .tp [.s "mirror"]
 |.round=> .tp [.s "round"]
def Rim.ok:Rim->Prop
 |.fixed v=>0<=v/\v<=1000000000
 |_=>True
def aMt:Fv:=λus R=>∃r:Rim,us=[r.u]/\r.ok/\R (.sh (.b true))
abbrev PW3:List Str:=["thing","least","most"]
def aLo:aL ["thing"] ["thing"] (aC aAy):={}
def aPa(F:Fun K "is_rim" "is_rim" aAy f fd)(c_is_within:Cal P w K mg base CX0 2 "is_within" PW3 (spV jU))(T:Txt mg):bC P w K mg base CX0 3 f fd ["thing"] (spV aMt):=by
 obtain⟨_,g_GREATEST_FIXED⟩:=T.c_GREATEST_FIXED;refine vfn F aLo (λcdv A outer s H E hr=>(aD (dF (wD (vL (gK (iH (tY .tp nofun T.isinstance T.tuple Mz (aA 0)))) (rF (cO (lW (huD hr)) lG (bD aV dI T.len Dw (aN (aA 0) aU)) aG)))) (aF (aY yF)) bN) (aD (dF (gK (iH (tY .str nofun T.isinstance T.str Oj (bW bF bY (aA 0) aG)))) (aF (aY yF)) bN) (aD (dF (cO (lW (huD hr)) lG (bW bF bY (aA 0) aG) bO) (aF (aY (aC7 (aEd (lW (huD hr)) lG (bD aV dI T.len Dw (aN (aA 0) aU)) aG) (aD2 (aO c_is_within (hr.mono ⋯) rfl (aB (bW bF bY (aA 0) aG) (aB aG (aB (dU g_GREATEST_FIXED) aH)))))))) bN) (aF (aY (aC7 (aEd (lW (huD hr)) lG (bD aV dI T.len Dw (aN (aA 0) aU)) aG) (aD2 (aEd (aXa (huD hr)) aNg (bW bF bY (aA 0) aG) (cY (aB bO (aB bO aH)))))))))))) ?_;rintro _ R ⟨r,rfl,ok,q⟩;match r,ok with
 |.fixed v,ok=>
  refine⟨rfl,_,rfl,nofun,λ_=>⟨trivial,trivial,nofun,λ_=>?_⟩⟩;refine⟨_,rfl,_,rfl,nofun,λ_=>?_⟩;refine⟨_,rfl,trivial,trivial,λ_=>?_,λh=>absurd h (by decide+kernel)⟩;refine⟨trivial,trivial,λ_=>⟨_,rfl,_,_,_,_,rfl,rfl,?_⟩,nofun⟩;simp only[isIn,ok.1,ok.2,decide_true,Oo];exact q
 |.mirror,_=>
  refine⟨rfl,_,rfl,nofun,λ_=>⟨trivial,trivial,nofun,λ_=>?_⟩⟩;refine⟨_,rfl,_,rfl,nofun,λ_=>?_⟩;refine⟨_,rfl,trivial,trivial,λh=>absurd h (by decide+kernel),λ_=>?_⟩;refine⟨trivial,trivial,λ_=>⟨_,rfl,trivial,⟨trivial,trivial,trivial⟩,?_⟩,λh=>absurd h (by decide+kernel)⟩;exact Rbl q (by decide+kernel)
 |.round,_=>
  refine⟨rfl,_,rfl,nofun,λ_=>⟨trivial,trivial,nofun,λ_=>?_⟩⟩;refine⟨_,rfl,_,rfl,nofun,λ_=>?_⟩;refine⟨_,rfl,trivial,trivial,λh=>absurd h (by decide+kernel),λ_=>?_⟩;refine⟨trivial,trivial,λ_=>⟨_,rfl,trivial,⟨trivial,trivial,trivial⟩,?_⟩,λh=>absurd h (by decide+kernel)⟩;exact Rbl q (by decide+kernel)
def rJ(ns:List Int):Int:=ns.foldl (λa n=>a*n) 1
structure jF(ns:List Int):Prop where
 ok:∀n∈ns,1<=n/\n<=9
 l1:1<=ns.length
 l3:ns.length<=3
 mn:rJ ns<=40
def aOs:Fv:=λus R=>∃ns:List Int,us=[.ls (ns.map U.n)]/\(∀n∈ns,1<=n/\n<=9)/\ns.length<=3/\R (.sh (.n (rJ ns)))
def pG:aL ["sizes","many","size"] ["sizes"] (aC xQ):={}
def aSl(F:Fun K "product" "product" xQ f fd):bC P w K mg base CX0 1 f fd ["sizes"] (spV aOs):=by
 refine vfn F pG (λcdv A outer s H E hr=>(aD (bA (i:=1) pG.nd aG) (aD (dC Aw rfl (bV (aA 0)) (cX (i:=2) pG.nd) (aF (bA (i:=1) pG.nd (aX kZ jL (aA 1) (aA 2))))) (aF (eU 1))))) ?_;rintro _ R ⟨ns,rfl,ok,_,q⟩;refine⟨rfl,?_⟩;refine bM (λl ρ=>∃(ms:List Int)(a:Int)(x y:Sl),l=ms.map U.n/\ρ=[x,.sh (.n a),y]/\(∀n∈ms,1<=n/\n<=9)/\R (.sh (.n (ms.foldl (λa n=>a*n) a)))) ?_ ?_ ⟨ns,1,_,_,rfl,rfl,ok,q⟩
 ·rintro ρ ⟨ms,a,x,y,e,rfl,_,q⟩;obtain rfl:=List.map_eq_nil_iff.mp e.symm;exact q
 ·rintro u r ρ ⟨ms,a,x,y,e,rfl,h,q⟩ ih;obtain⟨n,ms,rfl,rfl,rfl⟩:=List.map_eq_cons_iff.mp e.symm;have hn:=h n Af;exact⟨.inr ⟨∅,∅⟩,ih _ ⟨ms,_,_,_,rfl,rfl,λm hm=>h m (Ae _ hm),q⟩⟩
def grU(C:Addr)(ns:List Int)(rs:List Rim):U:=.ob C ["sizes","rims"] [.ls (ns.map U.n),.ls (rs.map Rim.u)]
def aRg:Fv:=λus R=>∃(ns:List Int)(rs:List Rim),us=[.ls (ns.map U.n),.ls (rs.map Rim.u)]/\(∀n∈ns,1<=n/\n<=9)/\1<=ns.length/\ns.length<=3/\rs.length=ns.length/\(∀r∈rs,r.ok)/\R (.sh .no)
def mD:aL ["sizes","rims","line","rim"] ["sizes","rims"] (aC nJ):={}
def aQ7(F:Fun K "check_lines" "check_lines" nJ f fd)(c_is_within:Cal P w K mg base CX0 2 "is_within" PW3 (spV jU))(c_is_rim:Cal P w K mg base CX0 3 "is_rim" ["thing"] (spV aMt))(T:Txt mg):bC P w K mg base CX0 4 f fd ["sizes","rims"] (spV aRg):=by
 obtain⟨_,g_MOST_LINES⟩:=T.c_MOST_LINES;obtain⟨_,g_GREATEST_SIZE⟩:=T.c_GREATEST_SIZE;refine vfn F mD (λcdv A outer s H E hr=>(aD (dF (wD (vL (gK (vO wJ wJ cH cH aG (bD aV dI T.len Dw (aN (aA 0) aU)) (dU g_MOST_LINES))) (rF (cO (aBc (huD hr)) lG (bD aV dI T.len Dw (aN (aA 1) aU)) (bD aV dI T.len Dw (aN (aA 0) aU)))))) (aF mK) bN) (aF (dC Aw rfl (zB T.enumerate (aB (aA 1) aH)) (wO rfl (fG (i:=2) mD.nd (fG (i:=3) mD.nd sU))) (aF (dF (wD (vL (gK (iH (aO c_is_within (hr.mono ⋯) rfl (aB (bW bF bY (aA 0) (aA 2)) (aB aG (aB (dU g_GREATEST_SIZE) aH)))))) (rF (gK (iH (aO c_is_rim (hr.mono ⋯) rfl (aB (aA 3) aH))))))) (aF mK) bN)))))) ?_;rintro _ R ⟨ns,rs,rfl,ok,l1,l3,el,rk,q⟩;refine⟨rfl,?_⟩;have e1:(ns.map U.n).length=ns.length:=Ab ..;have e2:(rs.map Rim.u).length=ns.length:=by rw[Ab,el]
 refine⟨λ_=>⟨λh=>?_,λ_=>⟨trivial,trivial,λh=>?_,λ_=>?_⟩⟩,λh=>?_⟩
 ·simp at h;lia
 ·simp only[U.eq,U.d,D.eq,eqV,Sl.rd]at h;simp[el]at h
 ·refine bM (λl ρ=>∃(k:Nat)(ss:List Rim)(x y:Sl),l=(ss.map Rim.u |>.zipIdx k).map (λx=> .tp [.n (x.2:Nat),x.1])/\ρ=[.sh (.ls (ns.map U.n)),.sh (.ls (rs.map Rim.u)),x,y]/\k+ss.length=ns.length/\∀r∈ss,r.ok) ?_ ?_ ⟨0,rs,_,_,rfl,rfl,∅,rk⟩
  ·rintro ρ ⟨k,ss,x,y,e,rfl,_⟩;exact q
  ·rintro u r ρ ⟨k,ss,x,y,e,rfl,hk,ho⟩ ih;match ss,e,hk,ho with
   |s::ss,e,hk,ho=>
    cases e;have hl:k<ns.length:=by rw[Ah]at hk;lia
    have hn:=ok _ (Dz hl);refine⟨rfl,U.n ns[k],sO (by rw[Ax,Aj hl];rfl),_,_,_,_,rfl,rfl,?_⟩;refine⟨λh=>?_,λ_=>⟨s,rfl,ho s Af,nofun,λ_=>ih _ ⟨k+1,ss,_,_,rfl,rfl,by rw[Ah]at hk;lia,λr hr=>ho r (Ae _ hr)⟩⟩⟩;simp[isIn,hn.1,hn.2]at h
 ·simp at h;lia
def aNu(C:Addr):Fv:=λus R=>∃ns rs,us=[grU C ns rs]/\R (.sh (.n ns.length))
def aBx:aL ["self"] ["self"] (aC pK):={}
def aN9{C:Addr}(F:Fun K "lines" "Grid.lines" pK f fd)(cG:Cfl K C ["sizes","rims"])(T:Txt mg):bC P w K mg base CX0 1 f fd ["self"] (spV (aNu C)):=by
 refine vfn F aBx (λcdv A outer s H E hr=>(aF (aY (bD aV dI T.len Dw (aN (dO cG (aA 0)) aU))))) ?_;rintro _ R ⟨ns,rs,rfl,q⟩;refine⟨rfl,rfl,.inl ⟨rfl,?_⟩⟩;rw[<-Ab (f:=U.n)]at q;exact q
def aT4(C:Addr):Fv:=λus R=>∃ns rs,us=[grU C ns rs]/\jF ns/\R (.sh (.n (rJ ns)))
def sY:aL ["self"] ["self"] (aC iD):={}
def aSv{C:Addr}(F:Fun K "places_many" "Grid.places_many" iD f fd)(cG:Cfl K C ["sizes","rims"])(c_product:Cal P w K mg base CX0 1 "product" ["sizes"] (spV aOs)):bC P w K mg base CX0 2 f fd ["self"] (spV (aT4 C)):=by
 refine vfn F sY (λcdv A outer s H E hr=>(aF (aY (aO c_product (hr.mono ⋯) rfl (aB (dO cG (aA 0)) aH))))) ?_;rintro _ R ⟨ns,rs,rfl,g,q⟩;exact⟨rfl,rfl,.inl ⟨rfl,ns,rfl,g.ok,g.l3,q⟩⟩
end Q
namespace KR
variable {fd:FuncData}{f:Addr}{z:List Nat}{H H':Hp}{g:Nat}{fs:List (Str×V)}{r:List Nat}{o:HO}{X:Cx}{pos:Pos}{rd:Addr}{a:Addr}{x:Str}{es:List Expr}{p:Addr}{d:Nat}
open PySem PyProof.Rows L2
def top(i:Nat):Stmt:=PySem.Challenge.pw_slanttiles_k34_where_spots_are_used_last.main.body.getD i (.Pass ⟨0,0,0,0⟩)
abbrev aPs:Stmt:=top 65
abbrev aBi:Stmt:=top 66
abbrev aHl:Stmt:=inClass (top 24) 0
abbrev aIy:Stmt:=inClass (top 25) 0
abbrev aIp:Stmt:=inClass (top 26) 0
abbrev aIq:Stmt:=inClass (top 32) 0
abbrev aG9:Stmt:=inClass (top 33) 0
abbrev aEh:Stmt:=inClass (top 64) 0
abbrev aAv:Stmt:=inClass (top 64) 1
abbrev aD1:Stmt:=inClass (top 64) 2
abbrev aIu:Stmt:=inClass (top 64) 3
abbrev aC8:Stmt:=inClass (top 64) 4
abbrev aIj:Stmt:=inClass (top 64) 5
abbrev aC6:Stmt:=inClass (top 64) 6
abbrev zO:Stmt:=inClass (top 64) 7
abbrev uX:Stmt:=inClass (top 64) 8
abbrev rZ:Stmt:=inClass (top 64) 9
abbrev zK:Stmt:=inClass (top 64) 10
abbrev aBr(n:Nat):V:=V.int (n:Int)
def Kp(a:Addr)(H H':Hp):Prop:=∀b o,H b=some o->b≠a->H' b=some o
def Kp.trans{H H1 H2:Hp}(x:Kp a H H1)(y:Kp a H1 H2):Kp a H H2:=λb o h n=>y b o (x b o h n) n
def Kp.same{H H1 H2:Hp}(x:Kp a H H1)(y:fJ H1 H2):Kp a H H2:=λb o h n=>y b o (x b o h n)
def Kp.of(x:fJ H H'):Kp a H H':=λb o h _=>x b o h
def sameNew{H:Hp}(h:H p=none):fJ H (upd H p o):=λb u e=>by
 rw[aP (aQ e h)];exact e
def jV{H H1:Hp}(h:H p=none)(s:fJ H H1):fJ H (upd H1 p o):=λb u e=>by
 rw[aP (aQ e h)];exact s b u e
def aUn{H:Hp}:Kp p H (upd H p o):=λb u e n=>by
 rw[aP n];exact e
def small{n:Nat}(h:n<=10000):n<sizeLine:=by
 have:(10000:Nat)<sizeLine:=by decide
 lia
def bAd{n:String}(hg:Gl X x)(hm:X.mg x=none)(hv:bootBuiltins x=some (.type n))(hn:x≠"__name__":=by decide)(hd:ND x:=by decide):PE X (.Name x pos) (tC (.ty n)):=aDs (v:=.ty n) hg hm hv rfl hn hd
structure Txt(K:Ac)(mg:Str->Option Value):Prop where
 isinstance:mg "isinstance"=none
 int:mg "int"=none
 tuple:mg "tuple"=none
 len:mg "len"=none
 any:mg "any"=none
 str:mg "str"=none
 mfi:∃t,mg "MOST_FIGURES"=some (.int 13 t)
 mst2:∃t,mg "MOST_STEPS_term_texts"=some (.int 3 t)
 mwi:∃t,mg "MOST_WITHIN"=some (.int 12 t)
inductive Tm where
 |num (n:Int)
 |take (b:Int) (ss:List Int)
 |rest (t:Tm) (y:Int)
 |cho (a b c:Tm)
 |bin (k:Fin 5) (a b:Tm)
abbrev Tk:Type:=Int×List Int
def opn(k:Fin 5):Str:=match k with|0=>"+"|1=>"-"|2=>"*"|3=>"min"|4=>"max"
structure Cn where
 num:Addr
 take:Addr
 rest:Addr
 cho:Addr
 bin:Fin 5->Addr
def cls(N:Cn):Tm->Addr
 |.num _=>N.num
 |.take _ _=>N.take
 |.rest _ _=>N.rest
 |.cho _ _ _=>N.cho
 |.bin k _ _=>N.bin k
def IsC(N:Cn)(C:Addr):Prop:=C=N.num∨C=N.take∨C=N.rest∨C=N.cho∨∃k,C=N.bin k
def isC(N:Cn):∀t:Tm,IsC N (cls N t)
 |.num _=> .inl rfl
 |.take _ _=> .inr (.inl rfl)
 |.rest _ _=> .inr (.inr (.inl rfl))
 |.cho _ _ _=> .inr (.inr (.inr (.inl rfl)))
 |.bin k _ _=> .inr (.inr (.inr (.inr ⟨k,rfl⟩)))
def jY(N:Cn)(H:Hp)(fs:List (Str×V)):Tm->Prop
 |.num n=>fs=[(("value":Str),V.int n)]
 |.take b ss=>∃q,fs=[(("back":Str),V.int b),(("steps":Str),V.ref q)]/\H q=some (.tup (ss.map V.int))
 |.rest t y=>∃p dx gs,fs=[(("one":Str),V.ref p),(("by":Str),V.int y)]/\H p=some (.ins (cls N t) dx gs)/\jY N H gs t
 |.cho a b c=>∃p dp ps q dq qs r dr rs,fs=[(("test":Str),V.ref p),(("one":Str),V.ref q),(("other":Str),V.ref r)]/\(H p=some (.ins (cls N a) dp ps)/\jY N H ps a)/\(H q=some (.ins (cls N b) dq qs)/\jY N H qs b)/\H r=some (.ins (cls N c) dr rs)/\jY N H rs c
 |.bin _ a b=>∃p dp ps q dq qs,fs=[(("one":Str),V.ref p),(("other":Str),V.ref q)]/\(H p=some (.ins (cls N a) dp ps)/\jY N H ps a)/\H q=some (.ins (cls N b) dq qs)/\jY N H qs b
def KpN(H H':Hp):Prop:=∀c o,H c=some o->(∀xs,o≠.lst xs)->H' c=some o
def KpN.of(s:fJ H H'):KpN H H':=λc o e _=>s c o e
def jY.keep{N:Cn}(s:KpN H H'):∀{t:Tm}{fs:List (Str×V)},jY N H fs t->jY N H' fs t
 |.num _,_,h=>h
 |.take _ _,_,⟨q,e,h⟩=>⟨q,e,s _ _ h (by intro _ z;cases z)⟩
 |.rest _ _,_,⟨p,dx,gs,e,h,h2⟩=>⟨p,dx,gs,e,s _ _ h (by intro _ z;cases z),h2.keep s⟩
 |.cho _ _ _,_,⟨p,dp,ps,q,dq,qs,r,dr,rs,e,⟨h1,g1⟩,⟨h2,g2⟩,h3,g3⟩=>⟨p,dp,ps,q,dq,qs,r,dr,rs,e,⟨s _ _ h1 (by intro _ z;cases z),g1.keep s⟩,⟨s _ _ h2 (by intro _ z;cases z),g2.keep s⟩,s _ _ h3 (by intro _ z;cases z),g3.keep s⟩
 |.bin _ _ _,_,⟨p,dp,ps,q,dq,qs,e,⟨h1,g1⟩,h2,g2⟩=>⟨p,dp,ps,q,dq,qs,e,⟨s _ _ h1 (by intro _ z;cases z),g1.keep s⟩,s _ _ h2 (by intro _ z;cases z),g2.keep s⟩
def jY.same{N:Cn}(s:fJ H H'){t:Tm}(h:jY N H fs t):jY N H' fs t:=h.keep (KpN.of s)
def lE(N:Cn)(H:Hp)(t:Tm)(v:V):Prop:=∃p dx fs,v=.ref p/\H p=some (.ins (cls N t) dx fs)/\jY N H fs t
def kids:Tm->List Tm
 |.num _=>[]
 |.take _ _=>[]
 |.rest t _=>[t]
 |.cho a b c=>[a,b,c]
 |.bin _ a b=>[a,b]
def ht:Tm->Nat
 |.num _=>1
 |.take _ _=>1
 |.rest t _=>ht t+1
 |.cho a b c=>max (ht a) (max (ht b) (ht c))+1
 |.bin _ a b=>max (ht a) (ht b)+1
def dZ:Tm->Nat
 |.num _=>1
 |.take _ _=>1
 |.rest t _=>1+dZ t
 |.cho a b c=>1+(dZ a+(dZ b+dZ c))
 |.bin _ a b=>1+(dZ a+dZ b)
def raw:Tm->List Tk
 |.num _=>[]
 |.take b ss=>[(b,ss)]
 |.rest t _=>raw t
 |.cho a b c=>raw a++(raw b++raw c)
 |.bin _ a b=>raw a++raw b
def oY(t:Tm):0<ht t:=by cases t<;>exact Pz _
def aA5{t k:Tm}(h:k∈kids t):ht k<ht t:=by cases t<;>grind [kids,ht]
def yX(t:Tm):(kids t).length<=3:=by cases t<;>simp[kids]
def aJ2{t k:Tm}(h:k∈kids t)(x:Tk)(hx:x∈raw k):x∈raw t:=by cases t<;>grind [kids,raw]
def rO(t:Tm)(l:List Tk):Prop:=l.Pairwise (λx y=>iV x y=true)/\∀x,x∈l↔x∈raw t
def aB2{x y:Tk}(h:iV x y=true):iV y x=false:=by
 unfold iV at h⊢;by_cases e:x.1=y.1
 ·rw[if_pos e]at h;rw[if_pos e.symm];exact aC4 _ _ h
 ·rw[if_neg e,decide_eq_true_iff]at h;rw[if_neg (Cy e),decide_eq_false_iff_not]
  lia
theorem aG0:∀{l m:List Tk},l.Pairwise (λx y=>iV x y=true)->m.Pairwise (λx y=>iV x y=true)->(∀x,x∈l↔x∈m)->l=m
 | [],[],_,_,_=>rfl
 | [],b::m,_,_,h=>absurd ((h b).mpr Af) (by simp)
 |a::l,[],_,_,h=>absurd ((h a).mp Af) (by simp)
 |a::l,b::m,h1,h2,h=>by
  have ha:=List.pairwise_cons.mp h1;have hb:=List.pairwise_cons.mp h2;have O:∀x y:Tk,iV x y=true->iV y x=false:=λx y=>aB2;have irr:∀x:Tk,iV x x=true->False:=λx hx=>by have:=O x x hx;rw[hx]at this;cases this
  have e:a=b:=by
   rcases List.mem_cons.mp ((h a).mp Af)with z|z
   ·exact z
   ·rcases List.mem_cons.mp ((h b).mpr Af)with y|y
    ·exact y.symm
    ·have:=O _ _ (ha.1 b y);rw[hb.1 a z]at this;cases this
  subst e;rw[aG0 ha.2 hb.2 λx=>⟨λhx=>?_,λhx=>?_⟩]
  ·rcases List.mem_cons.mp ((h x).mp (Ae _ hx))with z|z
   ·exact(irr a (by have:=ha.1 x hx;rw[z]at this;exact this)).elim
   ·exact z
  ·rcases List.mem_cons.mp ((h x).mpr (Ae _ hx))with z|z
   ·exact(irr a (by have:=hb.1 x hx;rw[z]at this;exact this)).elim
   ·exact z
def rO.uniq{t:Tm}{l m:List Tk}(h1:rO t l)(h2:rO t m):l=m:=aG0 h1.1 h2.1 λx=>(h1.2 x).trans (h2.2 x).symm
def wL(x:Tk):Prop:=1<=x.1/\x.1<=3/\∀s∈x.2, -9<=s/\s<=9
def Wf:Tm->Prop
 |.num n=> -1000000000000<=n/\n<=1000000000000
 |.take _ _=>True
 |.rest t y=>1<=y/\y<=1000000000/\Wf t
 |.cho a b c=>Wf a/\Wf b/\Wf c
 |.bin _ a b=>Wf a/\Wf b
structure Cf(K:Ac)(C:Addr)(fs:List Str):Prop where
 cl:Cls K C
 na:∀f∈fs,kW K C f
inductive aVb(K:Ac)(a:Str)(vs:List V)(H:Hp)(Q:VK)(z3_:XK):Prop
 |mk (p C dx:Addr) (x:V) (q0_:vs=[.ref p,x]) (q1_:H p=some (.ins C dx [])) (q2_:Cf K C [a]) (q3_:Q .non (upd H p (.ins C dx [(a,x)]))):aVb K a vs H Q z3_
def aZx(K:Ac)(a:Str):Sp:=λvs H Q z3_=>aVb K a vs H Q z3_
inductive aT2(K:Ac)(a b:Str)(vs:List V)(H:Hp)(Q:VK)(z3_:XK):Prop
 |mk (p C dx:Addr) (x y:V) (q0_:vs=[.ref p,x,y]) (q1_:H p=some (.ins C dx [])) (q2_:Cf K C [a,b]) (q3_:Q .non (upd (upd H p (.ins C dx [(a,x)])) p (.ins C dx [(a,x),(b,y)]))):aT2 K a b vs H Q z3_
def aEs(K:Ac)(a b:Str):Sp:=λvs H Q z3_=>aT2 K a b vs H Q z3_
inductive aTz(K:Ac)(a b c:Str)(vs:List V)(H:Hp)(Q:VK)(z3_:XK):Prop
 |mk (p C dx:Addr) (x y z:V) (q0_:vs=[.ref p,x,y,z]) (q1_:H p=some (.ins C dx [])) (q2_:Cf K C [a,b,c]) (q3_:Q .non (upd (upd (upd H p (.ins C dx [(a,x)])) p (.ins C dx [(a,x),(b,y)])) p (.ins C dx [(a,x),(b,y),(c,z)]))):aTz K a b c vs H Q z3_
def aY3(K:Ac)(a b c:Str):Sp:=λvs H Q z3_=>aTz K a b c vs H Q z3_
variable {P:Program}{w:World}{K:Ac}{mg:Str->Option Value}{base:Heap}
def aTa:aL ["self","value"] ["self","value"] (aC aHl):={}
def aO8(F:Fun K "__init__" "Number.__init__" aHl f fd):bC P w K mg base CX0 1 f fd ["self","value"] (aZx K "value"):=by
 refine F.ok aTa (λvs H Q E h=>?_) (λcdv A outer s H vs Q E hr h=>?_)
 ·obtain⟨p,C,dx,x,rfl,_⟩:=h;rfl
 ·obtain⟨p,C,dx,x,rfl,hp,c,q⟩:=h;refine⟨_,(aR (dN (pv 0) (pv 1) rfl)),?_⟩;exact⟨_,rfl,_,rfl,p,C,dx,_,rfl,hp,c.cl,c.na _ (by simp),⋯,q⟩
def aSd:aL ["self","back","steps"] ["self","back","steps"] (aC aIy):={}
def aPi(F:Fun K "__init__" "Take.__init__" aIy f fd):bC P w K mg base CX0 1 f fd ["self","back","steps"] (aEs K "back" "steps"):=by
 refine F.ok aSd (λvs H Q E h=>?_) (λcdv A outer s H vs Q E hr h=>?_)
 ·obtain⟨p,C,dx,x,y,rfl,_⟩:=h;rfl
 ·obtain⟨p,C,dx,x,y,rfl,hp,c,q⟩:=h;refine⟨_,(aK (dN (pv 0) (pv 1) rfl) (aR (dN (pv 0) (pv 2) rfl))),?_⟩;refine⟨_,rfl,_,rfl,p,C,dx,_,rfl,hp,c.cl,c.na _ (by simp),⋯,?_⟩;exact⟨_,rfl,_,rfl,p,C,dx,_,rfl,aJ,c.cl,c.na _ (by simp),by show(1:Nat)<1000;decide,q⟩
def aRt:aL ["self","one","other"] ["self","one","other"] (aC aIp):={}
def rT(F:Fun K "__init__" "Paired.__init__" aIp f fd):bC P w K mg base CX0 1 f fd ["self","one","other"] (aEs K "one" "other"):=by
 refine F.ok aRt (λvs H Q E h=>?_) (λcdv A outer s H vs Q E hr h=>?_)
 ·obtain⟨p,C,dx,x,y,rfl,_⟩:=h;rfl
 ·obtain⟨p,C,dx,x,y,rfl,hp,c,q⟩:=h;refine⟨_,(aK (dN (pv 0) (pv 1) rfl) (aR (dN (pv 0) (pv 2) rfl))),?_⟩;refine⟨_,rfl,_,rfl,p,C,dx,_,rfl,hp,c.cl,c.na _ (by simp),⋯,?_⟩;exact⟨_,rfl,_,rfl,p,C,dx,_,rfl,aJ,c.cl,c.na _ (by simp),by show(1:Nat)<1000;decide,q⟩
def aS3:aL ["self","one","by"] ["self","one","by"] (aC aIq):={}
def aM6(F:Fun K "__init__" "Rest.__init__" aIq f fd):bC P w K mg base CX0 1 f fd ["self","one","by"] (aEs K "one" "by"):=by
 refine F.ok aS3 (λvs H Q E h=>?_) (λcdv A outer s H vs Q E hr h=>?_)
 ·obtain⟨p,C,dx,x,y,rfl,_⟩:=h;rfl
 ·obtain⟨p,C,dx,x,y,rfl,hp,c,q⟩:=h;refine⟨_,(aK (dN (pv 0) (pv 1) rfl) (aR (dN (pv 0) (pv 2) rfl))),?_⟩;refine⟨_,rfl,_,rfl,p,C,dx,_,rfl,hp,c.cl,c.na _ (by simp),⋯,?_⟩;exact⟨_,rfl,_,rfl,p,C,dx,_,rfl,aJ,c.cl,c.na _ (by simp),by show(1:Nat)<1000;decide,q⟩
def aS5:aL ["self","test","one","other"] ["self","test","one","other"] (aC aG9):={}
def aNj(F:Fun K "__init__" "Chosen.__init__" aG9 f fd):bC P w K mg base CX0 1 f fd ["self","test","one","other"] (aY3 K "test" "one" "other"):=by
 refine F.ok aS5 (λvs H Q E h=>?_) (λcdv A outer s H vs Q E hr h=>?_)
 ·obtain⟨p,C,dx,x,y,z,rfl,_⟩:=h;rfl
 ·obtain⟨p,C,dx,x,y,z,rfl,hp,c,q⟩:=h;refine⟨_,(aK (dN (pv 0) (pv 1) rfl) (aK (dN (pv 0) (pv 2) rfl) (aR (dN (pv 0) (pv 3) rfl)))),?_⟩;refine⟨_,rfl,_,rfl,p,C,dx,_,rfl,hp,c.cl,c.na _ (by simp),⋯,?_⟩;refine⟨_,rfl,_,rfl,p,C,dx,_,rfl,aJ,c.cl,c.na _ (by simp),by show(1:Nat)<1000;decide,?_⟩;exact⟨_,rfl,_,rfl,p,C,dx,_,rfl,aJ,c.cl,c.na _ (by simp),by show(2:Nat)<1000;decide,q⟩
structure Mkr(P:Program)(w:World)(K:Ac)(mg:Str->Option Value)(base:Heap)(C:Addr)(x:Str)(ps:List Str)(sp:Sp):Prop where
 ex:∃f fd,bC P w K mg base CX0 1 f fd ps sp/\Mk K C f/\mg x=some (.ref C)/\Binds K fd ps []
def tM{C:Addr}{ps:List Str}{sp:Sp}{E:XK}{e:Expr}{t:TA}{p pos:Pos}(R:Mkr X.prog X.w X.K X.mg X.base C x ps sp)(hr:dG 2 X.A)(hg:Gl X x)(hx:pL CX0 X E)(ha:PA X (e::es) t)
  (hdb:ND x:=by decide) (he:SE X e es:=by rfl) (hpl:BT X pos es:=by rfl):PE X (.Call (.Name x p) (e::es) [] pos) (aT1 C sp [] E t):=by
 obtain⟨f,fd,F,M,hm,hb⟩:=R.ex;exact aKi M F hr hg hm hb .nil hx ha hdb he hpl
def sF{a b:Str}(h:a≠b:=by decide+kernel):decide (V.str a=V.str b)=false:=decide_eq_false λz=>h (V.str.inj z)
def bnm(k:Fin 5):Str:=match k with|0=>"Added"|1=>"Lessened"|2=>"Multiplied"|3=>"Least"|4=>"Most"
def aHi{H:Hp}{x dx C:Addr}(nx:H x=none)(nd:H dx=none):fJ H (upd (upd (upd H dx (.own x)) x (.ins C dx [])) x (.ins C dx fs)):=jV nx (jV nx (jV nd (fJ.refl H)))
def rK{N:Cn}{K:Ac}{H H1:Hp}{k:Fin 5}{t1 t2:Tm}{v1 v2:V}{Q:VK}{E:XK}(c:Cf K (N.bin k) ["one","other"])(u1:lE N H1 t1 v1)(u2:lE N H1 t2 v2)(s:fJ H H1)(q:∀(v':V)(H':Hp),fJ H H'->lE N H' (.bin k t1 t2) v'->Q v' H'):
  ∀x dx,H1 x=none->H1 dx=none->dx≠x->aEs K "one" "other" (.ref x::([v1,v2]++[])) (upd (upd H1 dx (.own x)) x (.ins (N.bin k) dx [])) (λv H2=>v=.non/\Q (.ref x) H2) E:=by
 intro x dx nx nd ne;obtain⟨p1,d1,f1,rfl,h1,g1⟩:=u1;obtain⟨p2,d2,f2,rfl,h2,g2⟩:=u2;refine⟨x,N.bin k,dx,.ref p1,.ref p2,rfl,aJ,c,rfl,?_⟩;have sN:fJ H1 (upd (upd (upd (upd H1 dx (.own x)) x (.ins (N.bin k) dx [])) x (.ins (N.bin k) dx [("one",.ref p1)])) x (.ins (N.bin k) dx [("one",.ref p1),("other",.ref p2)])):=jV nx (aHi nx nd);exact q _ _ (s.trans sN) ⟨x,dx,_,rfl,aJ,p1,d1,f1,p2,d2,f2,rfl,⟨sN _ _ h1,g1.same sN⟩,sN _ _ h2,g2.same sN⟩
def aWj{t k:Tm}(h:k∈kids t)(w:Wf t):Wf k:=by cases t<;>grind [kids,Wf]
def aJe{n:Nat}(h:n<=9000):n<=sizeLine:=by rw[Cp];lia
def Kp.upd{a q:Addr}(k:Kp a H H')(hq:H q=none):Kp a H (upd H' q o):=λb u e n=>by
 rw[aP (aQ e hq)];exact k b u e n
def aXp{i j:Str}{l m:List Nat}{H:Hp}{Q:VK}(h1:i=tx l)(h2:j=tx m)(hz:l.length+m.length<=9000)(q:Q (.str (tx (l++m))) H):aT9 (.str i) (.str j) H Q:=by
 subst h1 h2;exact⟨_,_,rfl,rfl,by rw[gM,gM];exact aJe hz,by rw[gQ];exact q⟩
def aDd{α:Type}{f:α->V}{l:List α}{i:Nat}{x:V}(h:(l.map f)[i]? =some x):∃n,x=f n/\l[i]? =some n:=by
 rw[Ax]at h;cases g:l[i]? with
 |none=>rw[g]at h;cases h
 |some b=>rw[g]at h;cases h;exact⟨b,rfl,rfl⟩
def lF{c:Bool}{a b:Prop}(h:c=true)(x:a):if c=true then a else b:=by rw[if_pos h];exact x
def fU{c:Bool}{a b:Prop}(h:c=false)(x:b):if c=true then a else b:=by rw[if_neg (by rw[h];exact Al)];exact x
def aC9{i:Int}{t:Tok}(hg:Gl X x)(hm:X.mg x=some (.int i t))(hd:ND x:=by decide):PE X (.Name x pos) (tC (.int i)):=zH (v:=.int i) hg hm ⟨_,rfl⟩ hd
def dg(m:Nat):List Nat:=(Lw 10 m).map Char.toNat
def aPy:∀d:Nat,d<10->(Pa d).toNat=48+d:=by decide
def aF7{m:Nat}(h:m<10):dg m=[48+m]:=by
 unfold dg;rw[Oz h];show [(Pa m).toNat]=_;rw[aPy m h]
def aNq{m:Nat}(h:10<=m):dg m=dg (m / 10)++[48+m % 10]:=by
 have hm:m % 10<10:=Lm m ⋯;have t:Lw 10 (m / 10)++Lw 10 (m % 10)=Lw 10 (10*(m / 10)+m % 10):=Nat.toDigits_append_toDigits ⋯ ∅ hm;rw[Nat.div_add_mod]at t;unfold dg;rw[<-t,Bb,Oz hm];show _++[(Pa (m % 10)).toNat]=_;rw[aPy _ hm]
def aWz(m:Nat):Py (dg m):=by
 induction m using Nh with
 |_ m ih=>
  by_cases h:m<10
  ·rw[aF7 h];intro c hc;rw[List.mem_singleton.mp hc]
   lia
  ·rw[aNq ∅];intro c hc;rcases List.mem_append.mp hc with z|z
   ·exact ih (m / 10) ∅ c z
   ·rw[List.mem_singleton.mp z];lia
def aVy(m:Nat):Kt (dg m)=m:=W.KIN.val_back m
def vJ(m:Nat)(h:0<m):∃c r,dg m=c::r/\49<=c/\c<=57:=by
 induction m using Nh with
 |_ m ih=>
  by_cases h10:m<10
  ·exact⟨_,_,aF7 h10,∅,∅⟩
  ·obtain⟨c,r,e,h1,h2⟩:=ih (m / 10) ∅ ∅;exact⟨c,r++[48+m % 10],by rw[aNq ∅,e];rfl,h1,h2⟩
theorem aDn:∀(k m:Nat),m<10 ^ (k+1)->(dg m).length<=k+1
 |0,m,h=>by rw[aF7 (by simpa using h)];exact Am _
 |k+1,m,h=>by
  by_cases h10:m<10
  ·rw[aF7 h10];show 1<=_;lia
  ·rw[aNq ∅,Ag];have:=aDn k (m / 10) (by rw[Wp]at h;lia);show _+1<=_
   lia
def zE:dg 0=[48]:=aF7 ⋯
def zN(m:Nat):itx (m:Int)=dg m:=Ry m
def aEp(m:Nat):itx (Xj m)=45::dg (m+1):=by
 have e:=Ry (m+1);have h:toString (Xj m)="-"++toString (((m+1:Nat):Int)):=rfl;unfold itx;rw[h];have:∀a b:String,(As (a++b)).cps.toList=(As a).cps.toList++(As b).cps.toList:=λa b=>by
  rw[Po,Po,Po,String.toList_append,Bb]
 rw[this,e];rfl
def sH{n:Int}(h:n.natAbs<10 ^ 13):(itx n).length<=14:=by
 cases n with
 |ofNat m=>rw[show To m=(m:Int)from rfl,zN];have:=aDn 12 m h;lia
 |negSucc m=>rw[aEp,Ah];have:=aDn 12 (m+1) (by simpa using h);lia
def xJ{n:Int}(h:n.natAbs<10 ^ 13):n.natAbs.log2<1920:=by
 by_cases z:n.natAbs=0
 ·rw[z];decide
 ·exact(Xi z).mpr (Lx h (by
   have:(10:Nat) ^ 13<2 ^ 50:=by decide
   exact Bg this (Nat.pow_le_pow_right ⋯ ⋯)))
def sgn(x:Str):List Nat:=x.cps.toList
def txt:Tm->List Nat
 |.num n=>itx n
 |.take b ss=>91::(glu [32] (itx b::ss.map itx)++[93])
 |.rest t y=>40::(txt t++([32,114,101,115,116,32]++(itx y++[41])))
 |.cho a b c=>40::(txt a++([32,63,32]++(txt b++([32,58,32]++(txt c++[41])))))
 |.bin k a b=>40::(txt a++(32::(sgn (opn k)++(32::(txt b++[41])))))
def lH(t:Tm):Prop:=Wf t/\∀x∈raw t,wL x/\1<=x.2.length/\x.2.length<=3
def bL{x:String}(l:List Nat)(h:(As x).cps.toList=l):As x=tx l:=by rw[aGd (As x),h]
def aJq(k:Fin 5):(sgn (opn k)).length<=3:=by
 match k with
 |0=>decide
 |1=>decide
 |2=>decide
 |3=>decide
 |4=>decide
theorem aD5(sep:List Nat):∀(ls:List (List Nat))(m:Nat),(∀l∈ls,l.length<=m)->(glu sep ls).length<=ls.length*(m+sep.length)
 | [],_,_=>Ay _
 | [x],m,h=>by
  have:=h x Af;show x.length<=1*(m+sep.length)
  lia
 |x::y::r,m,h=>by
  have h1:=h x Af;have h2:=aD5 sep (y::r) m λl hl=>h l (Ae _ hl);rw[glu,Ag,Ag,Ah,Wm]
  lia
def uJ{s:Int}(h: -9<=s/\s<=9):s.natAbs<10 ^ 13:=by lia
theorem mQ:∀{t:Tm},lH t->(txt t).length<=70*dZ t
 |.num n,h=>by
  have h1:=h.1;have:=sH (n:=n) (by simp only[Wf]at h1;lia);show(itx n).length<=70*1
  lia
 |.take b ss,h=>by
  obtain⟨⟨h1,h2,h3⟩,h4,h5⟩:=h.2 (b,ss) Af;have:(glu [32] (itx b::ss.map itx)).length<=(itx b::ss.map itx).length*(14+1):=aD5 [32] _ 14 λl hl=>by
   rcases List.mem_cons.mp hl with rfl|hl
   ·exact sH (by simp only at h1 h2;lia)
   ·obtain⟨s,hs,rfl⟩:=List.mem_map.mp hl;exact sH (uJ (h3 s hs))
  rw[Ah,Ab]at this;show(glu [32] (itx b::ss.map itx)++[93]).length+1<=70*1;rw[Ag];simp only at h4 h5;show _+1+1<=_
  lia
 |.rest t y,h=>by
  have h1:=h.1;have i1:=mQ (t:=t) ⟨h1.2.2,h.2⟩;have:=sH (n:=y) (by have:=h1.1;have:=h1.2.1;lia);simp only[txt,dZ,Ah,Ag,Be]
  lia
 |.cho a b c,h=>by
  have h1:=h.1;have i1:=mQ (t:=a) ⟨h1.1,λx hx=>h.2 x (by simp[raw,hx])⟩;have i2:=mQ (t:=b) ⟨h1.2.1,λx hx=>h.2 x (by simp[raw,hx])⟩;have i3:=mQ (t:=c) ⟨h1.2.2,λx hx=>h.2 x (by simp[raw,hx])⟩;simp only[txt,dZ,Ah,Ag,Be]
  lia
 |.bin k a b,h=>by
  have h1:=h.1;have i1:=mQ (t:=a) ⟨h1.1,λx hx=>h.2 x (by simp[raw,hx])⟩;have i2:=mQ (t:=b) ⟨h1.2,λx hx=>h.2 x (by simp[raw,hx])⟩;have:=aJq k;simp only[txt,dZ,Ah,Ag,Be]
  lia
def lH.kid{t k:Tm}(h:k∈kids t)(a:lH t):lH k:=⟨aWj h a.1,λx hx=>a.2 x (aJ2 h x hx)⟩
def aR1{x z:Str}{t:Tok}(hg:Gl X x)(hm:X.mg x=some (.str z t))(hd:ND x:=by decide):PE X (.Name x pos) (tC (.str z)):=zH (v:=.str z) hg hm ⟨_,rfl⟩ hd
def aJo(hg:Gl X x)(hm:X.mg x=some (.ref a))(hd:ND x:=by decide):PE X (.Name x pos) (tC (.ref a)):=zH (v:=.ref a) hg hm rfl hd
def gR(CR:Addr)(H:Hp)(rd:Addr)(z:List Nat)(g:Nat):Prop:=∃dx,H rd=some (.ins CR dx [(("text":Str),V.str (tx z)),(("gone":Str),aBr g)])
def gR.same{CR:Addr}(s:fJ H H')(h:gR CR H rd z g):gR CR H' rd z g:=let⟨dx,e⟩:=h;⟨dx,s _ _ e⟩
def dig(c:Nat):Bool:=decide (48<=c/\c<=57)
def rN(z:List Nat)(g:Nat):Bool:=match z[g]? with|some c=>dig c|none=>false
inductive aGy(CR:Addr)(vs:List V)(H:Hp)(Q:VK)(z3_:XK):Prop
 |mk (rd:Addr) (z:List Nat) (g:Nat) (q0_:vs=[.ref rd]) (q1_:gR CR H rd z g) (q2_:z.length<=9000) (q3_:Q (.str (tx ((z.drop g).take 1))) H):aGy CR vs H Q z3_
def lN(CR:Addr):Sp:=λvs H Q z3_=>aGy CR vs H Q z3_
inductive aJz(CR:Addr)(vs:List V)(H:Hp)(Q:VK)(z3_:XK):Prop
 |mk (rd:Addr) (z w:List Nat) (g:Nat) (r:List Nat) (q0_:vs=[.ref rd,.str (tx w)]) (q1_:gR CR H rd z g) (q2_:z.length<=9000) (q3_:(∀c∈w,c<128)) (q4_:z.drop g=w++r) (q5_:∀H',Kp rd H H'->gR CR H' rd z (g+w.length)->Q .non H'):aJz CR vs H Q z3_
def rC(CR:Addr):Sp:=λvs H Q z3_=>aJz CR vs H Q z3_
inductive aP6(CR:Addr)(vs:List V)(H:Hp)(Q:VK)(z3_:XK):Prop
 |mk (rd:Addr) (z:List Nat) (g:Nat) (q0_:vs=[.ref rd]) (q1_:gR CR H rd z g) (q2_:z.length<=9000) (q3_:Q (.bl (rN z g)) H):aP6 CR vs H Q z3_
def aVh(CR:Addr):Sp:=λvs H Q z3_=>aP6 CR vs H Q z3_
def NoD(r:List Nat):Prop:=∀c s,r=c::s->dig c=false
inductive aJ4(CR:Addr)(vs:List V)(H:Hp)(Q:VK)(z3_:XK):Prop
 |mk (rd:Addr) (z:List Nat) (g m:Nat) (r:List Nat) (q0_:vs=[.ref rd]) (q1_:gR CR H rd z g) (q2_:z.length<=9000) (q3_:z.drop g=dg m++r) (q4_:NoD r) (q5_:m<10 ^ 13) (q6_:∀H',Kp rd H H'->gR CR H' rd z (g+(dg m).length)->Q (aBr m) H'):aJ4 CR vs H Q z3_
def aEa(CR:Addr):Sp:=λvs H Q z3_=>aJ4 CR vs H Q z3_
inductive aJd(CR:Addr)(vs:List V)(H:Hp)(Q:VK)(z3_:XK):Prop
 |mk (rd:Addr) (z:List Nat) (g:Nat) (n:Int) (r:List Nat) (q0_:vs=[.ref rd]) (q1_:gR CR H rd z g) (q2_:z.length<=9000) (q3_:z.drop g=itx n++r) (q4_:NoD r) (q5_:n.natAbs<10 ^ 13) (q6_:∀H',Kp rd H H'->gR CR H' rd z (g+(itx n).length)->Q (.int n) H'):aJd CR vs H Q z3_
def aD8(CR:Addr):Sp:=λvs H Q z3_=>aJd CR vs H Q z3_
def take1{g c:Nat}(h:z.drop g=c::r):(z.drop g).take 1=[c]:=by rw[h];rfl
def zG{g c:Nat}(h:z.drop g=c::r):z[g]? =some c:=by
 have:=List.getElem?_drop (xs:=z) (i:=g) (j:=0);rw[h]at this;simpa using this.symm
def cU{w r:List Nat}(h:z.drop g=w++r):z.drop (g+w.length)=r:=by
 rw[<-Kf,h,Tn]
def aRd:∀c:Nat,c∈sgn "0123456789"↔dig c=true:=by
 intro c;unfold dig;rw[decide_eq_true_iff,show sgn "0123456789"=[48,49,50,51,52,53,54,55,56,57]from rfl];simp only[Fc,Ei,or_false];omega
def aAk{x:String}{l:List Nat}(h:(As x).cps.toList=l):[V.ref rd,V.str (As x)]=[V.ref rd,V.str (tx l)]:=by rw[bL l h]
abbrev FR:List Str:=["text","gone"]
abbrev DR(P:Program)(w:World)(K:Ac)(mg:Str->Option Value)(base:Heap)(k:Nat)(CR:Addr)(m:Str)(ps:List Str)(sp:Sp):Prop:=Dis P w K mg base CX0 k (·=CR) m ps (λ_=>sp)
section
variable {P:Program}{w:World}{K:Ac}{mg:Str->Option Value}{base:Heap}{CR:Addr}
def aK5:aL ["self"] ["self"] (aC aAv):={}
def aPu(F:Fun K "ahead" "TermReader.ahead" aAv f fd)(c:Cf K CR FR):bC P w K mg base CX0 1 f fd ["self"] (lN CR):=by
 refine F.ok aK5 (λvs H Q E h=>?_) (λcdv A outer s H vs Q E hr h=>?_)
 ·obtain⟨rd,z,g,rfl,_⟩:=h;rfl
 ·obtain⟨rd,z,g,rfl,⟨dx,hp⟩,zl,q⟩:=h;refine⟨_,(aR (cV (aAn aPt (mC (pv 0) rfl) (vX (mC (pv 0) rfl)) (vX (qI uD (mC (pv 0) rfl) dX))))),?_⟩;have q':Q (.str (tx ((z.drop g).take (g+1-g)))) H:=by rw[show g+1-g=1 by lia];exact q
  exact⟨_,rfl,rd,CR,dx,_,_,rfl,hp,c.cl,c.na _ (by simp),rfl,_,rfl,rd,CR,dx,_,_,rfl,hp,c.cl,c.na _ (by simp),rfl,(g:Int),rfl,_,rfl,rd,CR,dx,_,_,rfl,hp,c.cl,c.na _ (by simp),rfl,_,_,rfl,rfl,((g+1:Nat):Int),rfl,z,g,g+1,rfl,rfl,rfl,∅,aJe zl,q'⟩
def aFs:aL ["self","signs","sign"] ["self","signs"] (aC aD1):={}
def aTj(F:Fun K "pass_by" "TermReader.pass_by" aD1 f fd)(c:Cf K CR FR)(D_ahead:DR P w K mg base 1 CR "ahead" ["self"] (lN CR)):bC P w K mg base CX0 2 f fd ["self","signs"] (rC CR):=by
 refine F.ok aFs (λvs H Q E h=>?_) (λcdv A outer s H vs Q E hr h=>?_)
 ·obtain⟨rd,z,w',g,r,rfl,_⟩:=h;rfl
 ·obtain⟨rd,z,w',g,r,rfl,R,zl,asc,hz,q⟩:=h;refine⟨_,(aR (aP9 Aw rfl (aYh (pv 1)) (bR (i:=2) aFs.nd rfl (Cw rfl)) (aK (fD (cM aKd (bI (pv 0) D_ahead (hr.mono ∅) bH) (pv 2) (cZ _)) (aR eF) cC) (aR (dN (pv 0) (qI uD (mC (pv 0) rfl) dX) rfl))))),?_⟩;refine⟨_,rfl,w',rfl,asc,?_⟩;refine aR6 (z:=w') (λi σ H2=>∃v2,σ=[some (.ref rd),some (.str (tx w')),v2]/\Kp rd H H2/\gR CR H2 rd z (g+i)) ⟨_,rfl,Kp.of (fJ.refl H),R⟩ ?_ ?_
  ·rintro i ch σ H2 hi ⟨v2,rfl,k2,dx,hp⟩;have hd:z.drop (g+i)=ch::(w'.drop (i+1)++r):=by
    obtain⟨hlt,e⟩:=List.getElem?_eq_some_iff.mp hi;rw[<-Kf,hz,Hn (En hlt),Bd hlt,e];rfl
   refine⟨_,rfl,rd,CR,dx,_,rfl,hp,rfl,rfl,rd,z,g+i,rfl,⟨dx,hp⟩,zl,_,rfl,rfl,_,rfl,?_⟩;rw[take1 hd];refine aMs rfl ?_;refine⟨_,rfl,rd,CR,dx,_,_,rfl,hp,c.cl,c.na _ (by simp),rfl,_,_,rfl,rfl,_,rfl,rd,CR,dx,_,rfl,hp,c.cl,c.na _ (by simp),by show(2:Nat)<1000;decide,?_⟩;exact⟨_,rfl,k2.trans aUn,dx,aJ⟩
  ·rintro σ H2 ⟨v2,rfl,k2,R2⟩;exact q H2 k2 R2
def aRu:aL ["self"] ["self"] (aC aIu):={}
def aW9{t0:Tok}(F:Fun K "figure_is_ahead" "TermReader.figure_is_ahead" aIu f fd)(D_ahead:DR P w K mg base 1 CR "ahead" ["self"] (lN CR))(g_FIGURES:mg "FIGURES"=some (.str "0123456789" t0)):bC P w K mg base CX0 2 f fd ["self"] (aVh CR):=by
 refine F.ok aRu (λvs H Q E h=>?_) (λcdv A outer s H vs Q E hr h=>?_)
 ·obtain⟨rd,z,g,rfl,_⟩:=h;rfl
 ·obtain⟨rd,z,g,rfl,R,zl,q⟩:=h;have R':=R;obtain⟨dx,hp⟩:=R';refine⟨_,(aR (cV (aPj (aEb aKd (bI (pv 0) D_ahead (hr.mono ∅) bH) cA (cZ _)) (aO0 (aEb aLq (bI (pv 0) D_ahead (hr.mono ∅) bH) (aR1 rfl g_FIGURES) rfl))))),?_⟩;refine⟨_,rfl,rd,CR,dx,_,rfl,hp,rfl,rfl,rd,z,g,rfl,R,zl,rfl,_,rfl,?_⟩;cases hd:z.drop g with
  |nil=>
   have e:rN z g=false:=by
    unfold rN;rw[show z[g]? =none from Co (List.drop_eq_nil_iff.mp hd)]
   rw[e]at q;exact qK q
  |cons ch r=>
   have e:rN z g=dig ch:=by unfold rN;rw[zG hd]
   rw[e]at q;refine lF (by rw[decide_eq_false λz=>by have:=jM ((V.str.inj z).trans (bL [] rfl));cases this];rfl) ?_;refine⟨_,rfl,rd,CR,dx,_,rfl,hp,rfl,rfl,rd,z,g,rfl,R,zl,_,_,rfl,rfl,?_⟩;rw[take1 hd];have f1:=StrLaws.found_one (As "0123456789") ch;have f2:(!(Lu (As "0123456789") (tx [ch]) 0 (As "0123456789").length 1).isEmpty)=dig ch:=by
    refine f1.trans ?_;rw[Ex,decide_eq_true_iff];exact aRd ch
   rw[f2];exact q
def aFe:aL ["self","begin"] ["self"] (aC aC8):={}
def aSw(F:Fun K "read_figures" "TermReader.read_figures" aC8 f fd)(c:Cf K CR FR)(D_ahead:DR P w K mg base 1 CR "ahead" ["self"] (lN CR))(D_pass_by:DR P w K mg base 2 CR "pass_by" ["self","signs"] (rC CR))(D_figure_is_ahead:DR P w K mg base 2 CR "figure_is_ahead" ["self"] (aVh CR))(T:Txt K mg):bC P w K mg base CX0 3 f fd ["self"] (aEa CR):=by
 refine F.ok aFe (λvs H Q E h=>?_) (λcdv A outer s H vs Q E hr h=>?_)
 ·obtain⟨rd,z,g,m,r,rfl,_⟩:=h;rfl
 ·obtain⟨rd,z,g,m,r,rfl,R,zl,hz,nd,hm,q⟩:=h;obtain⟨dx,hp⟩:=R;obtain⟨_,g_MOST_FIGURES⟩:=T.mfi;refine⟨_,(aK (iB (i:=1) aFe.nd rfl (Cw rfl) (mC (pv 0) rfl)) (aK (fD (aDv (aAh (bI (pv 0) D_figure_is_ahead (hr.mono ∅) bH))) (aR eF) cC) (aK (fD (cM oH (bI (pv 0) D_ahead (hr.mono ∅) bH) cA (cZ _)) (aK (cQ (cL (pv 0) D_pass_by (hr.mono ∅) bH (aM cA aZ))) (aR (cV dX))) cC) (aK (uW Aw (PW.pt (aHg (aAh (bI (pv 0) D_figure_is_ahead (hr.mono ∅) bH)) (aDc (cM vH (qI iJ (mC (pv 0) rfl) (pv 1)) (aC9 rfl g_MOST_FIGURES) (cZ _))))) (aR (dN (pv 0) (qI uD (mC (pv 0) rfl) dX) rfl))) (aR (cV (lU aLi rfl T.int Tw (aM (aAn aPt (mC (pv 0) rfl) (vX (pv 1)) (vX (mC (pv 0) rfl))) aZ)))))))),?_⟩;have al:=aWz m;have ln:=aDn 12 m hm;obtain⟨ch,rs,ec⟩:∃c rs,dg m=c::rs:=by
   rcases Fh m with h0|h0
   ·exact⟨48,[],by rw[h0,zE]⟩
   ·obtain⟨c,r,e,_⟩:=vJ m h0;exact⟨c,r,e⟩
  have hd:z.drop g=ch::(rs++r):=by rw[hz,ec];rfl
  have dch:rN z g=true:=by unfold rN;rw[zG hd];exact decide_eq_true (al ch (by rw[ec];exact Af))
  refine⟨_,rfl,rd,CR,dx,_,_,rfl,hp,c.cl,c.na _ (by simp),rfl,?_⟩;refine⟨_,rfl,rd,CR,dx,_,rfl,hp,rfl,rfl,rd,z,g,rfl,⟨dx,hp⟩,zl,_,rfl,?_⟩;rw[dch];refine qK ?_;refine⟨_,rfl,rd,CR,dx,_,rfl,hp,rfl,rfl,rd,z,g,rfl,⟨dx,hp⟩,zl,rfl,_,rfl,?_⟩;rw[take1 hd];rcases Fh m with h0|h0
  ·subst h0;rw[zE]at ec hz q;cases ec;refine lF (decide_eq_true (congrArg V.str (bL [48] rfl).symm)) ?_;refine⟨_,rfl,rd,CR,dx,_,rfl,hp,rfl,rfl,rd,z,[48],g,r,aAk rfl,⟨dx,hp⟩,zl,⋯,hz,λH1 k1 R1=>?_⟩;exact q H1 k1 R1
  ·obtain⟨c',r',e',h49,h57⟩:=vJ m h0;rw[ec]at e';obtain⟨rfl,rfl⟩:=Bs e';refine fU (decide_eq_false λx=>by have:=jM ((V.str.inj x).trans (bL [48] rfl));injection this with h1;lia) ?_;refine⟨λk σ H1=>∃i,k=(dg m).length-i/\i<=(dg m).length/\σ=[some (.ref rd),some (aBr g)]/\Kp rd H H1/\gR CR H1 rd z (g+i),⟨_,0,rfl,Ay _,rfl,Kp.of (fJ.refl H),dx,hp⟩,?_⟩;rintro k σ H1 ⟨i,rfl,hi,rfl,k1,dx1,hp1⟩;refine⟨_,rfl,rd,CR,dx1,_,rfl,hp1,rfl,rfl,rd,z,g+i,rfl,⟨dx1,hp1⟩,zl,_,rfl,?_⟩;have dr:z.drop (g+i)=(dg m).drop i++r:=by rw[<-Kf,hz,Hn hi]
   by_cases lt:i<(dg m).length
   ·have hc:z[g+i]? =some (dg m)[i]:=zG (r:=(dg m).drop (i+1)++r) (by rw[dr,Bd lt];rfl);have dd:rN z (g+i)=true:=by unfold rN;rw[hc];exact decide_eq_true (al _ (Dz lt))
    rw[dd];refine aGf ?_;refine⟨_,rfl,rd,CR,dx1,_,_,rfl,hp1,c.cl,c.na _ (by simp),rfl,_,rfl,_,_,rfl,rfl,_,_,rfl,rfl,_,rfl,?_⟩;refine lF (decide_eq_true (by show((g+i:Nat):Int)-(g:Int)<13;lia)) ?_;refine⟨λσ' H'=>∃m',m'<(dg m).length-i/\_,λ_ _ z=>z,?_⟩;refine⟨_,rfl,rd,CR,dx1,_,_,rfl,hp1,c.cl,c.na _ (by simp),rfl,_,_,rfl,rfl,_,rfl,rd,CR,dx1,_,rfl,hp1,c.cl,c.na _ (by simp),by show(2:Nat)<1000;decide,?_⟩;exact⟨(dg m).length-(i+1),∅,i+1,rfl,lt,rfl,k1.trans aUn,dx1,aJ⟩
   ·have ei:i=(dg m).length:=by lia
    subst ei;have dd:rN z (g+(dg m).length)=false:=by
     rw[Gx (Am _),Ec]at dr;unfold rN;cases r with
     |nil=>rw[show z[g+(dg m).length]? =none from Co (List.drop_eq_nil_iff.mp dr)]
     |cons x y=>rw[zG dr];exact nd x y rfl
    rw[dd];refine qK ?_;have ct:(z.drop g).take (g+(dg m).length-g)=dg m:=by rw[show g+(dg m).length-g=(dg m).length by lia,hz,Th]
    refine⟨_,rfl,rd,CR,dx1,_,_,rfl,hp1,c.cl,c.na _ (by simp),rfl,_,rfl,(g:Int),rfl,_,rfl,rd,CR,dx1,_,_,rfl,hp1,c.cl,c.na _ (by simp),rfl,((g+(dg m).length:Nat):Int),rfl,z,g,g+(dg m).length,rfl,rfl,rfl,∅,aJe zl,?_⟩;rw[ct];refine⟨dg m,rfl,by rw[ec];simp,al,∅,?_⟩;rw[aVy];exact q H1 k1 ⟨dx1,hp1⟩
def aRx:aL ["self"] ["self"] (aC aIj):={}
def aXv(F:Fun K "read_number" "TermReader.read_number" aIj f fd)(D_ahead:DR P w K mg base 1 CR "ahead" ["self"] (lN CR))(D_pass_by:DR P w K mg base 2 CR "pass_by" ["self","signs"] (rC CR))(D_read_figures:DR P w K mg base 3 CR "read_figures" ["self"] (aEa CR)):bC P w K mg base CX0 4 f fd ["self"] (aD8 CR):=by
 refine F.ok aRx (λvs H Q E h=>?_) (λcdv A outer s H vs Q E hr h=>?_)
 ·obtain⟨rd,z,g,n,r,rfl,_⟩:=h;rfl
 ·obtain⟨rd,z,g,n,r,rfl,⟨dx,hp⟩,zl,hz,nd,hn,q⟩:=h;refine⟨_,(aK (fD (cM aKd (bI (pv 0) D_ahead (hr.mono ∅) bH) cA (cZ _)) (aR (cV (bI (pv 0) D_read_figures (hr.mono ∅) bH))) cC) (aK (cQ (cL (pv 0) D_pass_by (hr.mono ∅) bH (aM cA aZ))) (aK (fD (cM oH (bI (pv 0) D_ahead (hr.mono ∅) bH) cA (cZ _)) (aR eF) cC) (aR (cV (aNv aHb (bI (pv 0) D_read_figures (hr.mono ∅) bH))))))),?_⟩;refine⟨_,rfl,rd,CR,dx,_,rfl,hp,rfl,rfl,rd,z,g,rfl,⟨dx,hp⟩,zl,rfl,_,rfl,?_⟩;cases n with
  |ofNat m=>
   rw[show To m=(m:Int)from rfl,zN]at hz q;obtain⟨ch,rs,ec,hc⟩:∃c rs,dg m=c::rs/\48<=c:=by
    rcases Fh m with h0|h0
    ·exact⟨48,[],by rw[h0,zE],∅⟩
    ·obtain⟨c,r,e,h1,_⟩:=vJ m h0;exact⟨c,r,e,∅⟩
   rw[take1 (c:=ch) (r:=rs++r) (by rw[hz,ec];rfl)];refine lF (by rw[decide_eq_false λx=>by have:=jM ((V.str.inj x).trans (bL [45] rfl));injection this with h1;lia];rfl) ?_;exact⟨_,rfl,rd,CR,dx,_,rfl,hp,rfl,rfl,rd,z,g,m,r,rfl,⟨dx,hp⟩,zl,hz,nd,hn,λH1 k1 R1=>q H1 k1 R1⟩
  |negSucc m=>
   rw[aEp]at hz q;rw[take1 (c:=45) (r:=dg (m+1)++r) (by rw[hz];rfl)];refine aMs (congrArg V.str (bL [45] rfl).symm) ?_;refine⟨_,rfl,rd,CR,dx,_,rfl,hp,rfl,rfl,rd,z,[45],g,dg (m+1)++r,aAk rfl,⟨dx,hp⟩,zl,⋯,hz,λH1 k1 R1=>?_⟩;obtain⟨dx1,hp1⟩:=R1;have h2:z.drop (g+1)=dg (m+1)++r:=cU (w:=[45]) hz;obtain⟨c',r',e',h49,h57⟩:=vJ (m+1) ∅;refine⟨_,rfl,rd,CR,dx1,_,rfl,hp1,rfl,rfl,rd,z,g+1,rfl,⟨dx1,hp1⟩,zl,rfl,_,rfl,?_⟩;rw[take1 (c:=c') (r:=r'++r) (by rw[h2,e'];rfl)];refine fU (decide_eq_false λx=>by have:=jM ((V.str.inj x).trans (bL [48] rfl));injection this with h1;lia) ?_;refine⟨_,rfl,rd,CR,dx1,_,rfl,hp1,rfl,rfl,rd,z,g+1,m+1,r,rfl,⟨dx1,hp1⟩,zl,h2,nd,by simpa using hn,λH2 k2 R2=>?_⟩;refine⟨_,rfl,?_⟩;refine q H2 (k1.trans k2) ?_;rw[Ah,show g+((dg (m+1)).length+1)=g+1+(dg (m+1)).length by lia];exact R2
end
def tl:List Int->List Nat
 | []=>[]
 |s::r=>32::(itx s++tl r)
theorem aOj:∀(b:Int)(ss:List Int),glu [32] (itx b::ss.map itx)=itx b++tl ss
 |b,[]=>by simp[glu,tl]
 |b,s::r=>by rw[Au,glu,aOj s r];rfl
def aBh(b:Int)(ss:List Int):txt (.take b ss)=91::(itx b++(tl ss++[93])):=by rw[txt,aOj,Bi]
def lZ{c:Nat}(h:dig c=false):NoD (c::r):=λx s e=>by cases e;exact h
def aHs{ss:List Int}:NoD (tl ss++93::r):=by
 cases ss with
 |nil=>exact lZ rfl
 |cons s r=>exact lZ rfl
def Kp.freeR{CR:Addr}{a q:Addr}(k:Kp a H H')(R:gR CR H' a z g)(hq:H' q=none):H q=none:=by
 obtain⟨dx,e⟩:=R;cases h:H q with
 |none=>rfl
 |some o=>
  have:q≠a:=λz=>by rw[z,e]at hq;cases hq
  rw[k q o h this]at hq;cases hq
def aUq{CR:Addr}{H:Hp}{rd q:Addr}(R:gR CR H rd z g)(h:H q=some o)(no:∀dx fs,o≠.ins CR dx fs):q≠rd:=λe=>by
 obtain⟨dx,e2⟩:=R;rw[e,e2]at h;cases h;exact no _ _ rfl
def gR.new{CR:Addr}{H:Hp}{rd q:Addr}(R:gR CR H rd z g)(h:q≠rd):gR CR (upd H q o) rd z g:=let⟨dx,e⟩:=R;⟨dx,by rw[aP (Cy h)];exact e⟩
inductive aE6(N:Cn)(CR:Addr)(vs:List V)(H:Hp)(Q:VK)(z3_:XK):Prop
 |mk (rd:Addr) (z:List Nat) (g:Nat) (b:Int) (ss:List Int) (r:List Nat) (q0_:vs=[.ref rd]) (q1_:gR CR H rd z g) (q2_:z.length<=9000) (q3_:z.drop g=txt (.take b ss)++r) (q4_:wL (b,ss)) (q5_:1<=ss.length) (q6_:ss.length<=3) (q7_:∀(v':V)(H':Hp),Kp rd H H'->gR CR H' rd z (g+(txt (.take b ss)).length)->lE N H' (.take b ss) v'->Q v' H'):aE6 N CR vs H Q z3_
def aDf(N:Cn)(CR:Addr):Sp:=λvs H Q z3_=>aE6 N CR vs H Q z3_
section
variable {P:Program}{w:World}{K:Ac}{mg:Str->Option Value}{base:Heap}{CR:Addr}{N:Cn}
def aA8:aL ["self","back","steps"] ["self"] (aC aC6):={}
def aPo(F:Fun K "read_take" "TermReader.read_take" aC6 f fd)(D_ahead:DR P w K mg base 1 CR "ahead" ["self"] (lN CR))(D_pass_by:DR P w K mg base 2 CR "pass_by" ["self","signs"] (rC CR))(D_read_number:DR P w K mg base 4 CR "read_number" ["self"] (aD8 CR))(R_take:Mkr P w K mg base N.take "Take" ["self","back","steps"] (aEs K "back" "steps"))(c2:Cf K N.take ["back","steps"])(T:Txt K mg):bC P w K mg base CX0 5 f fd ["self"] (aDf N CR):=by
 refine F.ok aA8 (λvs H Q E h=>?_) (λcdv A outer s H vs Q E hr h=>?_)
 ·obtain⟨rd,z,g,b,ss,r,rfl,_⟩:=h;rfl
 ·obtain⟨rd,z,g,b,ss,r,rfl,R,zl,hz,⟨b1,b3,bd⟩,l1,l3,q⟩:=h;obtain⟨_,g_MOST_STEPS_term_texts⟩:=T.mst2;simp only at b1 b3 bd;refine⟨_,(aK (cQ (cL (pv 0) D_pass_by (hr.mono ∅) bH (aM cA aZ))) (aK (iB (i:=1) aA8.nd rfl (Cw rfl) (bI (pv 0) D_read_number (hr.mono ∅) bH)) (aK (cQ (cL (pv 0) D_pass_by (hr.mono ∅) bH (aM cA aZ))) (aK (iB (i:=2) aA8.nd rfl (Cw rfl) (aOw (aM (bI (pv 0) D_read_number (hr.mono ∅) bH) aZ))) (aK (uW Aw (PW.pt (aHg (cM oH (bI (pv 0) D_ahead (hr.mono ∅) bH) cA (cZ _)) (aDc (cM vH (fQ aV (by rfl) T.len Nb (aM (pv 2) aZ)) (aC9 rfl g_MOST_STEPS_term_texts) (cZ _))))) (aK (cQ (cL (pv 0) D_pass_by (hr.mono ∅) bH (aM cA aZ))) (aR (cQ (vW De Gf Ge oO (pv 2) (aM (bI (pv 0) D_read_number (hr.mono ∅) bH) aZ)))))) (aK (cQ (cL (pv 0) D_pass_by (hr.mono ∅) bH (aM cA aZ))) (aR (cV (tM R_take (hr.mono ∅) rfl bH (aM (pv 1) (aM (lU tL rfl T.tuple Mz (aM (pv 2) aZ)) aZ))))))))))),?_⟩;obtain⟨s0,sr,rfl⟩:∃s0 sr,ss=s0::sr:=by
   cases ss with
   |nil=>simp at l1
   |cons a b=>exact⟨a,b,rfl⟩
  rw[aBh]at hz q;have R':=R;obtain⟨dx,hp⟩:=R';have z0:z.drop g=[91]++(itx b++(tl (s0::sr)++(93::r))):=by rw[hz];simp
  refine⟨_,rfl,rd,CR,dx,_,rfl,hp,rfl,rfl,rd,z,[91],g,_,aAk rfl,R,zl,⋯,z0,λH1 k1 R1=>?_⟩;have z1:=cU z0;obtain⟨dx1,hp1⟩:=id R1;refine⟨_,rfl,rd,CR,dx1,_,rfl,hp1,rfl,rfl,rd,z,_,b,_,rfl,R1,zl,z1,aHs,∅,λH2 k2 R2=>?_⟩;have z2:=cU z1;obtain⟨dx2,hp2⟩:=id R2;refine⟨_,rfl,rd,CR,dx2,_,rfl,hp2,rfl,rfl,rd,z,[32],_,itx s0++(tl sr++93::r),aAk rfl,R2,zl,⋯,by rw[z2];simp[tl],λH3 k3 R3=>?_⟩;have z3:z.drop (g+ [91].length+(itx b).length+ [32].length)=itx s0++(tl sr++93::r):=cU (w:=[32]) (by rw[z2];simp[tl]);obtain⟨dx3,hp3⟩:=id R3;have hs0:=uJ (bd s0 Af);refine⟨_,rfl,rd,CR,dx3,_,rfl,hp3,rfl,rfl,rd,z,_,s0,_,rfl,R3,zl,z3,aHs,hs0,λH4 k4 R4=>?_⟩;have z4:=cU z3;have k04:=((k1.trans k2).trans k3).trans k4;refine⟨by show 1<=sizeLine;decide,λD nD=>?_⟩;have Dr:D≠rd:=λe=>by obtain⟨_,e4⟩:=id R4;rw[e,e4]at nD;cases nD
  have nH:=k04.freeR R4 nD;refine⟨λk σ H5=>∃(i p:Nat),k=sr.length-i/\i<=sr.length/\σ=[some (.ref rd),some (.int b),some (.ref D)]/\Kp rd H H5/\gR CR H5 rd z p/\H5 D=some (.lst ((s0::sr.take i).map V.int))/\z.drop p=tl (sr.drop i)++93::r/\p+(tl (sr.drop i)).length=g+1+(itx b).length+(tl (s0::sr)).length,⟨_,0,_,rfl,Ay _,rfl,k04.upd nH,R4.new Dr,aJ,z4,?_⟩,?_⟩
  ·simp only[Hh,tl,Ah,Ag,Be]
   lia
  rintro k σ H5 ⟨i,p,rfl,hi,rfl,k5,R5,hD,z5,hl⟩;obtain⟨dx5,hp5⟩:=id R5;refine⟨_,rfl,rd,CR,dx5,_,rfl,hp5,rfl,rfl,rd,z,p,rfl,R5,zl,rfl,_,rfl,?_⟩;by_cases lt:i<sr.length
  ·have ed:sr.drop i=sr[i]::sr.drop (i+1):=Bd lt;rw[ed,tl]at z5 hl;rw[take1 (c:=32) z5];refine lF (decide_eq_true (congrArg V.str (bL [32] rfl).symm)) ?_;have hs:=uJ (bd sr[i] (Ae _ (Dz lt)));rw[Ah]at l3;refine⟨_,rfl,D,_,rfl,.inl (SqL.of hD),_,_,rfl,rfl,_,rfl,?_⟩;refine lF (decide_eq_true (by rw[Ab,Ah,Bu];show((min i sr.length+1:Nat):Int)<3;lia)) ?_;refine⟨λσ' H'=>∃m',m'<sr.length-i/\_,λ_ _ z=>z,?_⟩;have z5':z.drop p=[32]++(itx sr[i]++(tl (sr.drop (i+1))++93::r)):=by rw[z5];simp
   refine⟨_,rfl,rd,CR,dx5,_,rfl,hp5,rfl,rfl,rd,z,[32],p,_,aAk rfl,R5,zl,⋯,z5',λH6 k6 R6=>?_⟩;have z6:=cU z5';obtain⟨dx6,hp6⟩:=id R6;have hD6:H6 D=some (.lst ((s0::sr.take i).map V.int)):=k6 _ _ hD Dr;refine⟨_,rfl,.inl ⟨rfl,_,SqL.of hD6⟩,_,rfl,rd,CR,dx6,_,rfl,hp6,rfl,rfl,rd,z,_,sr[i],_,rfl,R6,zl,z6,aHs,hs,λH7 k7 R7=>?_⟩;have z7:=cU z6;have hD7:H7 D=some (.lst ((s0::sr.take i).map V.int)):=k7 _ _ (k6 _ _ hD Dr) Dr;refine⟨D,_,_,rfl,rfl,hD7,small (by rw[Ab,Ah,Bu];lia),?_⟩;refine⟨sr.length-(i+1),∅,i+1,_,rfl,lt,rfl,((k5.trans k6).trans k7).upd nH,R7.new Dr,?_,z7,?_⟩
   ·rw[aJ];show some (HO.lst ((s0::sr.take i).map V.int++[V.int sr[i]]))=_;rw[Kd,Aj lt, <-List.cons_append,Bb];rfl
   ·simp only[Ah,Ag,Be]at hl⊢
    lia
  ·have ei:i=sr.length:=by lia
   subst ei;rw[Gx (Am _)]at z5 hl;rw[take1 (c:=93) z5];refine fU (decide_eq_false λx=>by have:=jM ((V.str.inj x).trans (bL [32] rfl));injection this with h1;lia) ?_;have z5':z.drop p=[93]++r:=z5;refine⟨_,rfl,rd,CR,dx5,_,rfl,hp5,rfl,rfl,rd,z,[93],p,_,aAk rfl,R5,zl,⋯,z5',λH6 k6 R6=>?_⟩;have hD6:H6 D=some (.lst ((s0::sr).map V.int)):=by have:=k6 _ _ hD Dr;rw[Fe]at this;exact this
   refine⟨_,rfl,_,rfl,D,_,rfl,.inl ⟨SqL.of hD6,λu nu=>?_⟩⟩;generalize e:upd H6 u _=H7;obtain⟨s7,e7⟩:=aYg nu e;refineλx dx nx nd ne=>⟨x,N.take,dx,.int b,.ref u,rfl,aJ,c2,rfl,?_⟩;have sN:fJ H7 (upd (upd (upd (upd H7 dx (.own x)) x (.ins N.take dx [])) x (.ins N.take dx [("back",.int b)])) x (.ins N.take dx [("back",.int b),("steps",.ref u)])):=jV nx (aHi nx nd);refine q _ _ (((k5.trans k6).same s7).same sN) ?_ ⟨x,dx,_,rfl,aJ,u,rfl,sN _ _ e7⟩;have:p+ [93].length=g+(91::(itx b++(tl (s0::sr)++[93]))).length:=by
    simp only[Ah,Ag,Be,tl]at hl⊢
    lia
   rw[<-this];exact(R6.same s7).same sN
def aX8{K:Ac}{o e:Expr}{to:TE}{t:TA}{name:Str}{apos cpos:Pos}{T id:String}{r:V->List V->Hp->VK->Prop}(h:X.K=K)(pa:PlainAttrs T)(slot:Slot T name id)(hty:typeOf (.builtin id)=pure (.type "method_descriptor"))(hm:MtR X id r)(ho:PE X o to)(ha:PA X (e::es) t)
  (hbase:attributeBase o name X.env (eval o X.env)=eval o X.env:=by rfl)
  (hfew:((backTo cpos (starEach (e::es) X.env)).all (λx=> !x.1) && (backToKw cpos (keywordEach [] X.env)).all (λx=>x.1.isSome)
   && decide ((e::es).length+([]:List Keyword).length+(if([]:List Keyword).isEmpty then 0 else 1)<30))=true:=by rfl)
  (hline:EL apos cpos:=by rfl) (hs:SE X e es:=by rfl) (hplain:BT X cpos es:=by rfl):PE X (.Call (.Attribute o name apos) (e::es) [] cpos) (tBM K T r to t):=by
 subst h;exact vW pa slot hty hm ho ha hbase hfew hline hs hplain
def wl:List (List Nat):=[[43],[45],[42],[109,105,110],[109,97,120],[114,101,115,116],[63]]
def Words(K:Ac)(aW:Addr):Prop:=∀H:Hp,SqT K H aW (wl.map λl=>V.str (tx l))
inductive aJl(CR:Addr)(vs:List V)(H:Hp)(Q:VK)(z3_:XK):Prop
 |mk (rd:Addr) (z:List Nat) (g:Nat) (x r:List Nat) (q0_:vs=[.ref rd]) (q1_:gR CR H rd z g) (q2_:z.length<=9000) (q3_:x∈wl) (q4_:z.drop g=x++r) (q5_:∀H',Kp rd H H'->gR CR H' rd z (g+x.length)->Q (.str (tx x)) H'):aJl CR vs H Q z3_
def aHw(CR:Addr):Sp:=λvs H Q z3_=>aJl CR vs H Q z3_
def aX9(x:List Nat)(ls:List (List Nat)):inV (.str (tx x)) (ls.map λl=>V.str (tx l))=decide (x∈ls):=by
 rw[Ex,decide_eq_true_iff];unfold inV;rw[Se];constructor
 ·rintro⟨y,hy,e⟩;obtain⟨l,hl,rfl⟩:=List.mem_map.mp hy;have:tx l=tx x:=by simpa[eqV]using e
  rw[<-jM this];exact hl
 ·intro h;exact⟨_,List.mem_map.mpr ⟨x,h,rfl⟩,by simp[eqV]⟩
def aXg:∀x∈wl,∀k:Nat,k<x.length->x.take k∉wl:=by decide
def aXc:∀x∈wl,∀c∈x,c<128:=by decide
def aYi:∀x∈wl,x.length<=4:=by decide
abbrev aSb:List Str:=["self","begun","longer"]
def wH:aL ["self","begun","longer"] ["self"] (aC zO):={}
def aSc{f aW:Addr}(F:Fun K "read_word" "TermReader.read_word" zO f fd)(D_ahead:DR P w K mg base 1 CR "ahead" ["self"] (lN CR))(D_pass_by:DR P w K mg base 2 CR "pass_by" ["self","signs"] (rC CR))(g_WORDS:mg "WORDS"=some (.ref aW))(W_:Words K aW)(T:Txt K mg):bC P w K mg base CX0 3 f fd ["self"] (aHw CR):=by
 refine F.ok wH (λvs H Q E h=>?_) (λcdv A outer s H vs Q E hr h=>?_)
 ·obtain⟨rd,z,g,x,r,rfl,_⟩:=h;rfl
 ·obtain⟨rd,z,g,x,r,rfl,R,zl,hx,hz,q⟩:=h;refine⟨_,(aK (iB (i:=1) wH.nd rfl (Cw rfl) cA) (aK (uW Aw (cM aDu (pv 1) (aJo rfl g_WORDS) rfl) (aK (iB (i:=2) wH.nd rfl (Eb rfl) (qI aRp (pv 1) (bI (pv 0) D_ahead (hr.mono ∅) bH))) (aK (fD (PW.pt (aVl (cM oH (pv 2) (pv 1) (cZ _)) (aQ9 (aDv (aAh (fQ aNp rfl T.any boot_any (aM (aUd (own:=["word"]) (cap:=[("longer",2)]) (g:=tW 0) (aC zO) aSb rfl rfl (λx h=>bU h) (by decide+kernel) rfl (aRh (aJo rfl g_WORDS)) (λcl C s2 H2 fp=>(bR (i:=0) (show(["word","longer"]:List Str).Nodup by decide+kernel) rfl (Cw rfl) (Eb rfl))) (λcl C s2 H2 fp=>(aX8 (K:=K) rfl Nq PySem.F.slot_str_startswith PySem.F.type_str_startswith aL4 (pv 0) (aM (pv 1) aZ)))) aZ))))))) (aR eF) cC) (aK (cQ (cL (pv 0) D_pass_by (hr.mono ∅) bH (aM (bI (pv 0) D_ahead (hr.mono ∅) bH) aZ))) (aR (iB (i:=1) wH.nd rfl (Cw rfl) (pv 2))))))) (aR (cV (pv 1))))),?_⟩;have xl:=aYi x hx;refine⟨λk σ H1=>∃i v2,k=x.length-i/\i<=x.length/\σ=[some (.ref rd),some (.str (tx (x.take i))),v2]/\Kp rd H H1/\gR CR H1 rd z (g+i),⟨_,0,_,rfl,Ay _,by rw[show As ""=tx []from bL [] rfl];rfl,Kp.of (fJ.refl H),R⟩,?_⟩;rintro k σ H1 ⟨i,v2,rfl,hi,rfl,k1,R1⟩;obtain⟨dx1,hp1⟩:=id R1;refine⟨_,rfl,aW,_,rfl,.inr (W_ H1),rfl,rfl,_,rfl,?_⟩;rw[aX9];rcases Gm i x.length with lt|ge
  ·refine lF (by rw[decide_eq_false (aXg x hx i lt)];rfl) ?_;refine⟨λσ' H'=>∃m',m'<x.length-i/\_,λ_ _ z=>z,?_⟩;have hd:z.drop (g+i)=[x[i]]++(x.drop (i+1)++r):=by rw[<-Kf,hz,Hn hi,Bd lt];rfl
   have hc:=aXc x hx _ (Dz lt);have e1:x.take i++[x[i]]=x.take (i+1):=by rw[Kd,Aj lt];rfl
   refine⟨_,rfl,_,rfl,rd,CR,dx1,_,rfl,hp1,rfl,rfl,rd,z,g+i,rfl,R1,zl,?_⟩;rw[take1 hd];refine aXp rfl rfl (by rw[Bu];show _+1<=9000;lia) ?_;rw[e1];refine⟨_,rfl,_,rfl,rfl,_,rfl,?_⟩;refine fU (decide_eq_false λe=>?_) ?_
   ·have:=congrArg Bj (jM (V.str.inj e));rw[Bu,Bu]at this
    lia
   have xt:(x.take (i+1)).length=i+1:=by rw[Bu];lia
   generalize ey:x.take (i+1)=y;rw[ey]at xt;refine⟨aW,rfl,⟨_,W_ H1⟩,λD hD=>?_⟩;refine aQ6 (K:=K) (a:=aW) (xs:=wl.map λl=>V.str (tx l)) (λj acc σ H3=>(∃v0,σ=[v0,some (.str (tx y))])/\fJ H1 H3/\H3 D=some (.lst acc)/\acc=((wl.take j).map λl=>decide (l.take y.length=y)).map V.bl) ⟨⟨_,rfl⟩,sameNew hD,aJ,rfl⟩ (λj acc σ H3 _ _=>W_ H3) ?_ ?_
   ·rintro j v acc σ H3 hj hv ⟨⟨v0,rfl⟩,s3,hD3,rfl⟩;obtain⟨l,rfl,hl⟩:=aDd hv;refine⟨_,rfl,rfl,_,rfl,l,y,rfl,rfl,?_⟩;refine aY5 hD3 (small (by rw[Ab,Ab,Bu];have:wl.length=7:=rfl;lia)) hj ⟨⟨_,rfl⟩,jV hD s3,aJ,?_⟩;rw[Kd,hl,Bb,Bb];rfl
   ·rintro acc σ H3 ⟨_,s3,hD3,rfl⟩;rw[Ab,Fe]at hD3;refine⟨D,_,rfl,SqL.of hD3,rfl,?_⟩;have an:(wl.map λl=>decide (l.take y.length=y)).any id=true:=by
     rw[Se];exact⟨_,List.mem_map.mpr ⟨x,hx,rfl⟩,by rw[xt,ey];simp⟩
    rw[an];refine⟨_,rfl,?_⟩;refine qK ?_;have R3:=R1.same s3;obtain⟨dx3,hp3⟩:=id R3;refine⟨_,rfl,rd,CR,dx3,_,rfl,hp3,rfl,rfl,_,rfl,rd,CR,dx3,_,rfl,hp3,rfl,rfl,rd,z,g+i,rfl,R3,zl,?_⟩;rw[take1 hd];refine⟨rd,z,[x[i]],g+i,_,rfl,R3,zl,λc hc'=>by rw[List.mem_singleton.mp hc'];exact hc,hd,λH4 k4 R4=>?_⟩;refine⟨_,rfl,x.length-(i+1),∅,i+1,some (.str (tx y)),rfl,lt,?_,(k1.same s3).trans k4,R4⟩;rw[ey];rfl
  ·have ei:i=x.length:=by lia
   subst ei;rw[Fe];refine fU (by rw[decide_eq_true hx];rfl) ?_;exact⟨_,rfl,q H1 k1 R1⟩
end
def spl:Tm->Option (Tm×List Nat×List Nat)
 |.rest t y=>some (t,[114,101,115,116],itx y)
 |.cho a b c=>some (a,[63],txt b++([32,58,32]++txt c))
 |.bin k a b=>some (a,sgn (opn k),txt b)
 |_=>none
def aI0:∀{t a:Tm}{x y:List Nat},spl t=some (a,x,y)->txt t=40::(txt a++(32::(x++(32::(y++[41])))))
 |.rest t y,_,_,_,h=>by cases h;simp[txt]
 |.cho a b c,_,_,_,h=>by cases h;simp[txt]
 |.bin k a b,_,_,_,h=>by cases h;simp[txt]
def aO2(k:Fin 5):sgn (opn k)∈wl/\sgn (opn k)≠[114,101,115,116]/\sgn (opn k)≠[63]:=by
 match k with
 |0=>decide
 |1=>decide
 |2=>decide
 |3=>decide
 |4=>decide
def aXq:∀{t a:Tm}{x y:List Nat},spl t=some (a,x,y)->x∈wl/\a∈kids t
 |.rest t y,_,_,_,h=>by cases h;exact⟨⋯,by simp[kids]⟩
 |.cho a b c,_,_,_,h=>by cases h;exact⟨⋯,by simp[kids]⟩
 |.bin k a b,_,_,_,h=>by cases h;exact⟨(aO2 k).1,by simp[kids]⟩
def aGm(N:Cn)(CR:Addr):Prop:=∀t:Tm,cls N t≠CR
def uN{N:Cn}{CR:Addr}{rd p dx:Addr}{t:Tm}(n:aGm N CR)(R:gR CR H rd z g)(k:Kp rd H H')(h:H p=some (.ins (cls N t) dx fs)):H' p=some (.ins (cls N t) dx fs):=k _ _ h (aUq R h λ_ _ e=>by injection e with e1;exact n t e1)
def jY.kp{N:Cn}{CR:Addr}(n:aGm N CR)(R:gR CR H rd z g)(s:Kp rd H H'):∀{t:Tm}{fs:List (Str×V)},jY N H fs t->jY N H' fs t
 |.num _,_,h=>h
 |.take _ _,_,⟨q,e,h⟩=>⟨q,e,s _ _ h (aUq R h λ_ _ e=>by cases e)⟩
 |.rest _ _,_,⟨p,dx,gs,e,h,h2⟩=>⟨p,dx,gs,e,uN n R s h,h2.kp n R s⟩
 |.cho _ _ _,_,⟨p,dp,ps,q,dq,qs,r,dr,rs,e,⟨h1,g1⟩,⟨h2,g2⟩,h3,g3⟩=>⟨p,dp,ps,q,dq,qs,r,dr,rs,e,⟨uN n R s h1,g1.kp n R s⟩,⟨uN n R s h2,g2.kp n R s⟩,uN n R s h3,g3.kp n R s⟩
 |.bin _ _ _,_,⟨p,dp,ps,q,dq,qs,e,⟨h1,g1⟩,h2,g2⟩=>⟨p,dp,ps,q,dq,qs,e,⟨uN n R s h1,g1.kp n R s⟩,uN n R s h2,g2.kp n R s⟩
def lE.kp{N:Cn}{CR:Addr}(n:aGm N CR)(R:gR CR H rd z g)(s:Kp rd H H'){t:Tm}{v:V}(h:lE N H t v):lE N H' t v:=let⟨p,dx,fs,e,h1,h2⟩:=h;⟨p,dx,fs,e,uN n R s h1,h2.kp n R s⟩
inductive aCu(N:Cn)(vs:List V)(H:Hp)(Q:VK)(z3_:XK):Prop
 |mk (k:Fin 5) (a b:Tm) (va vb:V) (q0_:vs=[.str (opn k),va,vb]) (q1_:lE N H a va) (q2_:lE N H b vb) (q3_:∀(v':V)(H':Hp),fJ H H'->lE N H' (.bin k a b) v'->Q v' H'):aCu N vs H Q z3_
def zV(N:Cn):Sp:=λvs H Q z3_=>aCu N vs H Q z3_
inductive aCe(N:Cn)(CR:Addr)(d:Nat)(vs:List V)(H:Hp)(Q:VK)(z3_:XK):Prop
 |mk (rd:Addr) (z:List Nat) (g:Nat) (t a:Tm) (x y r:List Nat) (va:V) (wi:Nat) (q0_:vs=[.ref rd,va,.str (tx x),aBr wi]) (q1_:gR CR H rd z g) (q2_:z.length<=9000) (q3_:spl t=some (a,x,y)) (q4_:z.drop g=y++(41::r)) (q5_:lE N H a va) (q6_:ht t<=d+1) (q7_:wi+d<=12) (q8_:lH t) (q9_:∀(v':V)(H':Hp),Kp rd H H'->gR CR H' rd z (g+y.length)->lE N H' t v'->Q v' H'):aCe N CR d vs H Q z3_
def aFy(N:Cn)(CR:Addr)(d:Nat):Sp:=λvs H Q z3_=>aCe N CR d vs H Q z3_
inductive aI6(N:Cn)(CR:Addr)(d:Nat)(vs:List V)(H:Hp)(Q:VK)(z3_:XK):Prop
 |mk (rd:Addr) (z:List Nat) (g:Nat) (t:Tm) (r:List Nat) (wi:Nat) (q0_:vs=[.ref rd,aBr wi]) (q1_:gR CR H rd z g) (q2_:z.length<=9000) (q3_:z.drop g=txt t++r) (q4_:NoD r) (q5_:ht t<=d) (q6_:wi+d<=12) (q7_:lH t) (q8_:∀(v':V)(H':Hp),Kp rd H H'->gR CR H' rd z (g+(txt t).length)->lE N H' t v'->Q v' H'):aI6 N CR d vs H Q z3_
def aAa(N:Cn)(CR:Addr)(d:Nat):Sp:=λvs H Q z3_=>aI6 N CR d vs H Q z3_
inductive aBd(N:Cn)(CR:Addr)(d:Nat)(vs:List V)(H:Hp)(Q:VK)(z3_:XK):Prop
 |mk (rd:Addr) (z:List Nat) (g:Nat) (t a:Tm) (x y r:List Nat) (wi:Nat) (q0_:vs=[.ref rd,aBr wi]) (q1_:gR CR H rd z g) (q2_:z.length<=9000) (q3_:spl t=some (a,x,y)) (q4_:z.drop g=txt t++r) (q5_:ht t<=d+1) (q6_:wi+d+1<=12) (q7_:lH t) (q8_:∀(v':V)(H':Hp),Kp rd H H'->gR CR H' rd z (g+(txt t).length)->lE N H' t v'->Q v' H'):aBd N CR d vs H Q z3_
def aCr(N:Cn)(CR:Addr)(d:Nat):Sp:=λvs H Q z3_=>aBd N CR d vs H Q z3_
structure aFc(P:Program)(w:World)(K:Ac)(mg:Str->Option Value)(base:Heap)(N:Cn):Prop where
 num:Mkr P w K mg base N.num "Number" ["self","value"] (aZx K "value")
 take:Mkr P w K mg base N.take "Take" ["self","back","steps"] (aEs K "back" "steps")
 rest:Mkr P w K mg base N.rest "Rest" ["self","one","by"] (aEs K "one" "by")
 cho:Mkr P w K mg base N.cho "Chosen" ["self","test","one","other"] (aY3 K "test" "one" "other")
 bin:∀k,Mkr P w K mg base (N.bin k) (bnm k) ["self","one","other"] (aEs K "one" "other")
 c1:Cf K N.num ["value"]
 c2:Cf K N.take ["back","steps"]
 c3:Cf K N.rest ["one","by"]
 c4:Cf K N.cho ["test","one","other"]
 c5:∀k,Cf K (N.bin k) ["one","other"]
section
variable {P:Program}{w:World}{K:Ac}{mg:Str->Option Value}{base:Heap}{CR:Addr}{N:Cn}
def aXx:aL ["word","one","other"] ["word","one","other"] (aC aPs):={}
def aLm(F:Fun K "pair_by" "pair_by" aPs f fd)(M:aFc P w K mg base N):bC P w K mg base CX0 3 f fd ["word","one","other"] (zV N):=by
 refine F.ok aXx (λvs H Q E h=>?_) (λcdv A outer s H vs Q E hr h=>?_)
 ·obtain⟨k,a,b,va,vb,rfl,_⟩:=h;rfl
 ·obtain⟨k,a,b,va,vb,rfl,ta,tb,q⟩:=h;have R_bin:=M.bin;refine⟨_,(aK (fD (cM oH (pv 0) cA (cZ _)) (aR (cV (tM (R_bin 0) (hr.mono ∅) rfl bH (aM (pv 1) (aM (pv 2) aZ))))) cC) (aK (fD (cM oH (pv 0) cA (cZ _)) (aR (cV (tM (R_bin 1) (hr.mono ∅) rfl bH (aM (pv 1) (aM (pv 2) aZ))))) cC) (aK (fD (cM oH (pv 0) cA (cZ _)) (aR (cV (tM (R_bin 2) (hr.mono ∅) rfl bH (aM (pv 1) (aM (pv 2) aZ))))) cC) (aK (fD (cM oH (pv 0) cA (cZ _)) (aR (cV (tM (R_bin 3) (hr.mono ∅) rfl bH (aM (pv 1) (aM (pv 2) aZ))))) cC) (aR (cV (tM (R_bin 4) (hr.mono ∅) rfl bH (aM (pv 1) (aM (pv 2) aZ))))))))),?_⟩;match k,q with
  |0,q=>
   refine⟨_,rfl,rfl,_,rfl,lF (decide_eq_true rfl) ?_⟩;exact⟨_,rfl,_,rfl,rK (M.c5 0) ta tb (fJ.refl H) q⟩
  |1,q=>
   refine⟨_,rfl,rfl,_,rfl,fU sF ?_⟩;refine⟨_,rfl,rfl,_,rfl,lF (decide_eq_true rfl) ?_⟩;exact⟨_,rfl,_,rfl,rK (M.c5 1) ta tb (fJ.refl H) q⟩
  |2,q=>
   refine⟨_,rfl,rfl,_,rfl,fU sF ?_⟩;refine⟨_,rfl,rfl,_,rfl,fU sF ?_⟩;refine⟨_,rfl,rfl,_,rfl,lF (decide_eq_true rfl) ?_⟩;exact⟨_,rfl,_,rfl,rK (M.c5 2) ta tb (fJ.refl H) q⟩
  |3,q=>
   refine⟨_,rfl,rfl,_,rfl,fU sF ?_⟩;refine⟨_,rfl,rfl,_,rfl,fU sF ?_⟩;refine⟨_,rfl,rfl,_,rfl,fU sF ?_⟩;refine⟨_,rfl,rfl,_,rfl,lF (decide_eq_true rfl) ?_⟩;exact⟨_,rfl,_,rfl,rK (M.c5 3) ta tb (fJ.refl H) q⟩
  |4,q=>
   refine⟨_,rfl,rfl,_,rfl,fU sF ?_⟩;refine⟨_,rfl,rfl,_,rfl,fU sF ?_⟩;refine⟨_,rfl,rfl,_,rfl,fU sF ?_⟩;refine⟨_,rfl,rfl,_,rfl,fU sF ?_⟩;exact⟨_,rfl,_,rfl,rK (M.c5 4) ta tb (fJ.refl H) q⟩
def zX:aL ["self","one","word","within","other"] ["self","one","word","within"] (aC rZ):={}
def aMa(F:Fun K "read_behind" "TermReader.read_behind" rZ f fd)(n:aGm N CR)(M:aFc P w K mg base N)(D_pass_by:DR P w K mg base 2 CR "pass_by" ["self","signs"] (rC CR))(D_read_figures:DR P w K mg base 3 CR "read_figures" ["self"] (aEa CR))(D_read_part:DR P w K mg base (3*d+3) CR "read_part" ["self","within"] (aAa N CR d))(c_pairBy:Cal P w K mg base CX0 3 "pair_by" ["word","one","other"] (zV N)):bC P w K mg base CX0 (3*d+4) f fd ["self","one","word","within"] (aFy N CR d):=by
 refine F.ok zX (λvs H Q E h=>?_) (λcdv A outer s H vs Q E hr h=>?_)
 ·obtain⟨rd,z,g,t,a,x,y,r,va,wi,rfl,_⟩:=h;rfl
 ·obtain⟨rd,z,g,t,a,x,y,r,va,wi,rfl,R,zl,sp,hz,ta,hd,hw,ok,q⟩:=h;have R_rest:=M.rest;have R_cho:=M.cho;obtain⟨dx,hp⟩:=id R;refine⟨_,(aK (fD (cM oH (pv 2) cA (cZ _)) (aR (cV (tM R_rest (hr.mono ∅) rfl bH (aM (pv 1) (aM (bI (pv 0) D_read_figures (hr.mono ∅) bH) aZ))))) cC) (aK (iB (i:=4) zX.nd rfl (Cw rfl) (cL (pv 0) D_read_part (hr.mono ∅) bH (aM (pv 3) aZ))) (aK (fD (cM oH (pv 2) cA (cZ _)) (aK (cQ (cL (pv 0) D_pass_by (hr.mono ∅) bH (aM cA aZ))) (aR (cV (tM R_cho (hr.mono ∅) rfl bH (aM (pv 1) (aM (pv 4) (aM (cL (pv 0) D_read_part (hr.mono ∅) bH (aM (pv 3) aZ)) aZ))))))) cC) (aR (cV (aR2 c_pairBy (hr.mono ∅) rfl bH (aM (pv 2) (aM (pv 1) (aM (pv 4) aZ))))))))),?_⟩;cases t with
  |num _=>cases sp
  |take _ _=>cases sp
  |rest t1 yy=>
   cases sp;refine⟨_,rfl,rfl,_,rfl,lF (decide_eq_true (congrArg V.str (bL [114,101,115,116] rfl).symm)) ?_⟩;have y1:=ok.1.1;have y2:=ok.1.2.1;obtain⟨m,rfl⟩:∃m:Nat,yy=(m:Int):=⟨yy.toNat,∅⟩;rw[zN]at hz q;refine⟨_,rfl,_,rfl,rd,CR,dx,_,rfl,hp,rfl,rfl,rd,z,g,m,_,rfl,R,zl,hz,lZ rfl,∅,λH1 k1 R1=>?_⟩;obtain⟨p1,d1,f1,rfl,h1,g1⟩:=ta.kp n R k1;refineλx dx nx nd ne=>⟨x,N.rest,dx,.ref p1,_,rfl,aJ,M.c3,rfl,?_⟩;have sN:fJ H1 (upd (upd (upd (upd H1 dx (.own x)) x (.ins N.rest dx [])) x (.ins N.rest dx [("one",.ref p1)])) x (.ins N.rest dx [("one",.ref p1),("by",.int (m:Int))])):=jV nx (aHi nx nd);exact q _ _ (k1.same sN) (R1.same sN) ⟨x,dx,_,rfl,aJ,p1,d1,f1,rfl,sN _ _ h1,g1.same sN⟩
  |cho t1 t2 t3=>
   cases sp;have h2':ht t2+1<=ht (.cho a t2 t3):=Ll (aA5 (by simp[kids]));have h3':ht t3+1<=ht (.cho a t2 t3):=Ll (aA5 (by simp[kids]));have o2:lH t2:=ok.kid (t:=.cho a t2 t3) (by simp[kids]);have o3:lH t3:=ok.kid (t:=.cho a t2 t3) (by simp[kids]);refine⟨_,rfl,rfl,_,rfl,fU (decide_eq_false λe=>by have:=jM ((V.str.inj e).trans (bL [114,101,115,116] rfl));cases this) ?_⟩;have hz0:z.drop g=txt t2++(32::(58::(32::(txt t3++41::r)))):=by rw[hz];simp
   refine⟨_,rfl,rd,CR,dx,_,rfl,hp,rfl,rfl,_,rfl,rd,z,g,t2,_,wi,rfl,R,zl,hz0,lZ rfl,∅,hw,o2,λv2 H2 k2 R2 u2=>?_⟩;have hz1:z.drop (g+(txt t2).length)=[32,58,32]++(txt t3++41::r):=cU hz0;have hz2:=cU hz1;obtain⟨dx2,hp2⟩:=id R2;refine⟨_,rfl,rfl,_,rfl,lF (decide_eq_true (congrArg V.str (bL [63] rfl).symm)) ?_⟩;refine⟨_,rfl,rd,CR,dx2,_,rfl,hp2,rfl,rfl,rd,z,[32,58,32],_,_,aAk rfl,R2,zl,⋯,hz1,λH3 k3 R3=>?_⟩;obtain⟨dx3,hp3⟩:=id R3;refine⟨_,rfl,_,rfl,_,rfl,rd,CR,dx3,_,rfl,hp3,rfl,rfl,_,rfl,rd,z,_,t3,_,wi,rfl,R3,zl,hz2,lZ rfl,∅,hw,o3,λv3 H4 k4 R4 u3=>?_⟩;obtain⟨p1,d1,f1,rfl,h1,g1⟩:=((ta.kp n R k2).kp n R2 k3).kp n R3 k4;obtain⟨p2,d2,f2,rfl,h2,g2⟩:=(u2.kp n R2 k3).kp n R3 k4;obtain⟨p3,d3,f3,rfl,h3,g3⟩:=u3;refineλx dx nx nd ne=>⟨x,N.cho,dx,.ref p1,.ref p2,.ref p3,rfl,aJ,M.c4,rfl,?_⟩;have sN:fJ H4 (upd (upd (upd (upd (upd H4 dx (.own x)) x (.ins N.cho dx [])) x (.ins N.cho dx [("test",.ref p1)])) x (.ins N.cho dx [("test",.ref p1),("one",.ref p2)])) x (.ins N.cho dx [("test",.ref p1),("one",.ref p2),("other",.ref p3)])):=jV nx (jV nx (aHi nx nd));refine q _ _ (((k2.trans k3).trans k4).same sN) ?_ ⟨x,dx,_,rfl,aJ,p1,d1,f1,p2,d2,f2,p3,d3,f3,rfl,⟨sN _ _ h1,g1.same sN⟩,⟨sN _ _ h2,g2.same sN⟩,sN _ _ h3,g3.same sN⟩;have e2:g+(txt t2++(([32,58,32]:List Nat)++txt t3)).length=g+(txt t2).length+([32,58,32]:List Nat).length+(txt t3).length:=by simp only[Ag];lia
   rw[e2];exact R4.same sN
  |bin k t1 t2=>
   cases sp;have h2':ht t2+1<=ht (.bin k a t2):=Ll (aA5 (by simp[kids]));have o2:lH t2:=ok.kid (t:=.bin k a t2) (by simp[kids]);obtain⟨_,n1,n2⟩:=aO2 k;refine⟨_,rfl,rfl,_,rfl,fU (decide_eq_false λe=>n1 (jM ((V.str.inj e).trans (bL [114,101,115,116] rfl)))) ?_⟩;refine⟨_,rfl,rd,CR,dx,_,rfl,hp,rfl,rfl,_,rfl,rd,z,g,t2,_,wi,rfl,R,zl,hz,lZ rfl,∅,hw,o2,λv2 H2 k2 R2 u2=>?_⟩;refine⟨_,rfl,rfl,_,rfl,fU (decide_eq_false λe=>n2 (jM ((V.str.inj e).trans (bL [63] rfl)))) ?_⟩;refine⟨_,rfl,_,rfl,_,rfl,k,a,t2,va,v2,congrArg (λs=>[V.str s,va,v2]) (aGd (opn k)).symm,ta.kp n R k2,u2,λv' H' s' u'=>?_⟩;exact q v' H' (k2.same s') (R2.same s') u'
def rY:aL ["self","within","one","word","term"] ["self","within"] (aC uX):={}
def aNk(F:Fun K "read_bracket" "TermReader.read_bracket" uX f fd)(n:aGm N CR)(D_pass_by:DR P w K mg base 2 CR "pass_by" ["self","signs"] (rC CR))(D_read_word:DR P w K mg base 3 CR "read_word" ["self"] (aHw CR))(D_read_part:DR P w K mg base (3*d+3) CR "read_part" ["self","within"] (aAa N CR d))(D_read_behind:DR P w K mg base (3*d+4) CR "read_behind" ["self","one","word","within"] (aFy N CR d))(T:Txt K mg):bC P w K mg base CX0 (3*d+5) f fd ["self","within"] (aCr N CR d):=by
 refine F.ok rY (λvs H Q E h=>?_) (λcdv A outer s H vs Q E hr h=>?_)
 ·obtain⟨rd,z,g,t,a,x,y,r,wi,rfl,_⟩:=h;rfl
 ·obtain⟨rd,z,g,t,a,x,y,r,wi,rfl,R,zl,sp,hz,hd,hw,ok,q⟩:=h;obtain⟨dx,hp⟩:=id R;obtain⟨_,g_MOST_WITHIN⟩:=T.mwi;have tt:=aI0 sp;obtain⟨xw,ak⟩:=aXq sp;have ha:=aA5 ak;have oa:=ok.kid ak;refine⟨_,(aK (fD (cM oH (pv 1) (aC9 rfl g_MOST_WITHIN) (cZ _)) (aR eF) cC) (aK (cQ (cL (pv 0) D_pass_by (hr.mono ∅) bH (aM cA aZ))) (aK (iB (i:=2) rY.nd rfl (Cw rfl) (cL (pv 0) D_read_part (hr.mono ∅) bH (aM (qI uD (pv 1) dX) aZ))) (aK (cQ (cL (pv 0) D_pass_by (hr.mono ∅) bH (aM cA aZ))) (aK (iB (i:=3) rY.nd rfl (Cw rfl) (bI (pv 0) D_read_word (hr.mono ∅) bH)) (aK (cQ (cL (pv 0) D_pass_by (hr.mono ∅) bH (aM cA aZ))) (aK (iB (i:=4) rY.nd rfl (Cw rfl) (cL (pv 0) D_read_behind (hr.mono ∅) bH (aM (pv 2) (aM (pv 3) (aM (qI uD (pv 1) dX) aZ))))) (aK (cQ (cL (pv 0) D_pass_by (hr.mono ∅) bH (aM cA aZ))) (aR (cV (pv 4))))))))))),?_⟩;refine⟨_,rfl,rfl,_,rfl,fU (decide_eq_false λe=>by have:(wi:Int)=12:=V.int.inj e;lia) ?_⟩;have z0:z.drop g=[40]++(txt a++(32::(x++(32::(y++41::r))))):=by rw[hz,tt];simp
  refine⟨_,rfl,rd,CR,dx,_,rfl,hp,rfl,rfl,rd,z,[40],g,_,aAk rfl,R,zl,⋯,z0,λH1 k1 R1=>?_⟩;have z1:=cU z0;obtain⟨dx1,hp1⟩:=id R1;refine⟨_,rfl,rd,CR,dx1,_,rfl,hp1,rfl,rfl,_,rfl,_,_,rfl,rfl,rd,z,_,a,_,wi+1,rfl,R1,zl,z1,lZ rfl,∅,∅,oa,λva H2 k2 R2 u2=>?_⟩;have z2:z.drop (g+ [40].length+(txt a).length)=[32]++(x++(32::(y++41::r))):=cU z1;obtain⟨dx2,hp2⟩:=id R2;refine⟨_,rfl,rd,CR,dx2,_,rfl,hp2,rfl,rfl,rd,z,[32],_,_,aAk rfl,R2,zl,⋯,z2,λH3 k3 R3=>?_⟩;have z3:=cU z2;obtain⟨dx3,hp3⟩:=id R3;refine⟨_,rfl,rd,CR,dx3,_,rfl,hp3,rfl,rfl,rd,z,_,x,_,rfl,R3,zl,xw,z3,λH4 k4 R4=>?_⟩;have z4:=cU z3;have z4:z.drop (g+ [40].length+(txt a).length+ [32].length+x.length)=[32]++(y++41::r):=z4;obtain⟨dx4,hp4⟩:=id R4;refine⟨_,rfl,rd,CR,dx4,_,rfl,hp4,rfl,rfl,rd,z,[32],_,_,aAk rfl,R4,zl,⋯,z4,λH5 k5 R5=>?_⟩;have z5:=cU z4;obtain⟨dx5,hp5⟩:=id R5;have u5:=((u2.kp n R2 k3).kp n R3 k4).kp n R4 k5;refine⟨_,rfl,rd,CR,dx5,_,rfl,hp5,rfl,rfl,_,rfl,_,rfl,_,rfl,_,_,rfl,rfl,rd,z,_,t,a,x,y,r,va,wi+1,rfl,R5,zl,sp,z5,u5,hd,∅,ok,λv' H6 k6 R6 u6=>?_⟩;have z6:z.drop (g+ [40].length+(txt a).length+ [32].length+x.length+ [32].length+y.length)=[41]++r:=cU z5;obtain⟨dx6,hp6⟩:=id R6;refine⟨_,rfl,rd,CR,dx6,_,rfl,hp6,rfl,rfl,rd,z,[41],_,_,aAk rfl,R6,zl,⋯,z6,λH7 k7 R7=>?_⟩;refine⟨_,rfl,?_⟩;refine q v' H7 ((((((k1.trans k2).trans k3).trans k4).trans k5).trans k6).trans k7) ?_ (u6.kp n R6 k7);have e:g+(txt t).length=g+([40]:List Nat).length+(txt a).length+([32]:List Nat).length+x.length+([32]:List Nat).length+y.length+([41]:List Nat).length:=by
   rw[tt];simp only[Ah,Ag,Be]
   lia
  rw[e];exact R7
def aMv:aL ["self","within"] ["self","within"] (aC zK):={}
def aTb(F:Fun K "read_part" "TermReader.read_part" zK f fd)(M:aFc P w K mg base N)(D_ahead:DR P w K mg base 1 CR "ahead" ["self"] (lN CR))(D_read_number:DR P w K mg base 4 CR "read_number" ["self"] (aD8 CR))(D_read_take:DR P w K mg base 5 CR "read_take" ["self"] (aDf N CR))(D_read_bracket:DR P w K mg base (3*d+5) CR "read_bracket" ["self","within"] (aCr N CR d)):bC P w K mg base CX0 (3*d+6) f fd ["self","within"] (aAa N CR (d+1)):=by
 refine F.ok aMv (λvs H Q E h=>?_) (λcdv A outer s H vs Q E hr h=>?_)
 ·obtain⟨rd,z,g,t,r,wi,rfl,_⟩:=h;rfl
 ·obtain⟨rd,z,g,t,r,wi,rfl,R,zl,hz,nd,hd,hw,ok,q⟩:=h;obtain⟨dx,hp⟩:=id R;have R_num:=M.num;refine⟨_,(aK (fD (cM oH (bI (pv 0) D_ahead (hr.mono ∅) bH) cA (cZ _)) (aR (cV (cL (pv 0) D_read_bracket (hr.mono ∅) bH (aM (pv 1) aZ)))) cC) (aK (fD (cM oH (bI (pv 0) D_ahead (hr.mono ∅) bH) cA (cZ _)) (aR (cV (bI (pv 0) D_read_take (hr.mono ∅) bH))) cC) (aR (cV (tM R_num (hr.mono ∅) rfl bH (aM (bI (pv 0) D_read_number (hr.mono ∅) bH) aZ)))))),?_⟩;refine⟨_,rfl,rd,CR,dx,_,rfl,hp,rfl,rfl,rd,z,g,rfl,R,zl,rfl,_,rfl,?_⟩;cases hs:spl t with
  |some w3=>
   obtain⟨a,x,y⟩:=w3;rw[take1 (c:=40) (r:=txt a++(32::(x++(32::(y++41::r))))) (by rw[hz,aI0 hs];simp)];refine lF (decide_eq_true (congrArg V.str (bL [40] rfl).symm)) ?_;exact⟨_,rfl,rd,CR,dx,_,rfl,hp,rfl,rfl,_,rfl,rd,z,g,t,a,x,y,r,wi,rfl,R,zl,hs,hz,hd,hw,ok,λv' H1 k1 R1 u1=>q v' H1 k1 R1 u1⟩
  |none=>
   cases t with
   |rest _ _=>cases hs
   |cho _ _ _=>cases hs
   |bin _ _ _=>cases hs
   |take b ss=>
    obtain⟨g1,l1,l3⟩:=ok.2 (b,ss) Af;rw[take1 (c:=91) (r:=itx b++(tl ss++93::r)) (by rw[hz,aBh];simp)];refine fU (decide_eq_false λx=>by have:=jM ((V.str.inj x).trans (bL [40] rfl));injection this with h1;lia) ?_;refine⟨_,rfl,rd,CR,dx,_,rfl,hp,rfl,rfl,rd,z,g,rfl,R,zl,rfl,_,rfl,?_⟩;rw[take1 (c:=91) (r:=itx b++(tl ss++93::r)) (by rw[hz,aBh];simp)];refine lF (decide_eq_true (congrArg V.str (bL [91] rfl).symm)) ?_;exact⟨_,rfl,rd,CR,dx,_,rfl,hp,rfl,rfl,rd,z,g,b,ss,r,rfl,R,zl,hz,g1,l1,l3,λv' H1 k1 R1 u1=>q v' H1 k1 R1 u1⟩
   |num m=>
    have h1:=ok.1;have hz:z.drop g=itx m++r:=hz;obtain⟨ch,rs,ec,hc⟩:∃c rs,itx m=c::rs/\c≠40/\c≠91:=by
     cases m with
     |ofNat k=>
      rw[show To k=(k:Int)from rfl,zN];rcases Fh k with h0|h0
      ·exact⟨48,[],by rw[h0,zE],∅,∅⟩
      ·obtain⟨c,r,e,h1,h2⟩:=vJ k h0;exact⟨c,r,e,∅,∅⟩
     |negSucc k=>exact⟨45,_,aEp k,∅,∅⟩
    rw[take1 (c:=ch) (r:=rs++r) (by rw[hz,ec];rfl)];refine fU (decide_eq_false λx=>by have:=jM ((V.str.inj x).trans (bL [40] rfl));injection this with h1;exact hc.1 h1) ?_;refine⟨_,rfl,rd,CR,dx,_,rfl,hp,rfl,rfl,rd,z,g,rfl,R,zl,rfl,_,rfl,?_⟩;rw[take1 (c:=ch) (r:=rs++r) (by rw[hz,ec];rfl)];refine fU (decide_eq_false λx=>by have:=jM ((V.str.inj x).trans (bL [91] rfl));injection this with h1;exact hc.2 h1) ?_;refine⟨_,rfl,rd,CR,dx,_,rfl,hp,rfl,rfl,rd,z,g,m,r,rfl,R,zl,hz,nd,by simp only[Wf]at h1;lia,λH1 k1 R1=>?_⟩;refineλx dx nx nd ne=>⟨x,N.num,dx,.int m,rfl,aJ,M.c1,rfl,?_⟩;exact q _ _ (k1.same (aHi nx nd)) (R1.same (aHi nx nd)) ⟨x,dx,_,rfl,aJ,rfl⟩
end
inductive aU9(K:Ac)(vs:List V)(H:Hp)(Q:VK)(z3_:XK):Prop
 |mk (p C dx:Addr) (x:V) (q0_:vs=[.ref p,x]) (q1_:H p=some (.ins C dx [])) (q2_:Cf K C FR) (q3_:Q .non (upd (upd H p (.ins C dx [("text",x)])) p (.ins C dx [("text",x),("gone",aBr 0)]))):aU9 K vs H Q z3_
def aYm(K:Ac):Sp:=λvs H Q z3_=>aU9 K vs H Q z3_
inductive aAr(N:Cn)(vs:List V)(H:Hp)(Q:VK)(z3_:XK):Prop
 |mk (t:Tm) (q0_:vs=[.str (tx (txt t))]) (q1_:ht t<=8) (q2_:lH t) (q3_:dZ t<=40) (q4_:∀(v':V)(H':Hp),fJ H H'->lE N H' t v'->Q v' H'):aAr N vs H Q z3_
def aCy(N:Cn):Sp:=λvs H Q z3_=>aAr N vs H Q z3_
section
variable {P:Program}{w:World}{K:Ac}{mg:Str->Option Value}{base:Heap}{CR:Addr}{N:Cn}
def aOu:aL ["self","text"] ["self","text"] (aC aEh):={}
def aL3(F:Fun K "__init__" "TermReader.__init__" aEh f fd):bC P w K mg base CX0 1 f fd ["self","text"] (aYm K):=by
 refine F.ok aOu (λvs H Q E h=>?_) (λcdv A outer s H vs Q E hr h=>?_)
 ·obtain⟨p,C,dx,x,rfl,_⟩:=h;rfl
 ·obtain⟨p,C,dx,x,rfl,hp,c,q⟩:=h;refine⟨_,(aK (dN (pv 0) (pv 1) rfl) (aR (dN (pv 0) dX rfl))),?_⟩;refine⟨_,rfl,_,rfl,p,C,dx,_,rfl,hp,c.cl,c.na _ (by simp),⋯,?_⟩;exact⟨_,rfl,p,C,dx,_,rfl,aJ,c.cl,c.na _ (by simp),by show(1:Nat)<1000;decide,q⟩
def wZ:aL ["text","reader","term"] ["text"] (aC aBi):={}
def aIm(F:Fun K "read_written" "read_written" aBi f fd)(R_rd:Mkr P w K mg base CR "TermReader" ["self","text"] (aYm K))(c:Cf K CR FR)(n:aGm N CR)(D_read_part:DR P w K mg base 27 CR "read_part" ["self","within"] (aAa N CR 8))(T:Txt K mg):bC P w K mg base CX0 28 f fd ["text"] (aCy N):=by
 refine F.ok wZ (λvs H Q E h=>?_) (λcdv A outer s H vs Q E hr h=>?_)
 ·obtain⟨t,rfl,_⟩:=h;rfl
 ·obtain⟨t,rfl,hd,ok,pr,q⟩:=h;have tl:=mQ ok;refine⟨_,(aK (fD (aDv (aAh (fQ xV rfl T.isinstance Ou (aM (pv 0) (aM (bAd rfl T.str Oj) aZ))))) (aR eF) cC) (aK (iB (i:=1) wZ.nd rfl (Cw rfl) (tM R_rd (hr.mono ∅) rfl bH (aM (pv 0) aZ))) (aK (iB (i:=2) wZ.nd rfl (Cw rfl) (cL (pv 1) D_read_part (hr.mono ∅) bH (aM dX aZ))) (aK (fD (cM aKd (mC (pv 1) rfl) (fQ aDb (by rfl) T.len Nb (aM (pv 0) aZ)) (cZ _)) (aR eF) cC) (aR (cV (pv 2))))))),?_⟩;refine⟨_,rfl,_,"str",_,true,rfl,.str _,rfl,_,rfl,?_⟩;refine qK ?_;refine⟨_,rfl,λx dx nx nd ne=>⟨x,CR,dx,_,rfl,aJ,c,rfl,?_⟩⟩;have sN:fJ H (upd (upd (upd (upd H dx (.own x)) x (.ins CR dx [])) x (.ins CR dx [("text",.str (tx (txt t)))])) x (.ins CR dx [("text",.str (tx (txt t))),("gone",aBr 0)])):=jV nx (aHi nx nd);revert sN;generalize eH:upd (upd (upd (upd H dx (.own x)) x (.ins CR dx [])) x (.ins CR dx [("text",.str (tx (txt t)))])) x (.ins CR dx [("text",.str (tx (txt t))),("gone",aBr 0)])=H1;intro sN;have hp1:H1 x=some (.ins CR dx [("text",.str (tx (txt t))),("gone",aBr 0)]):=by rw[<-eH];exact aJ
  refine⟨_,rfl,x,CR,dx,_,rfl,hp1,rfl,rfl,x,txt t,0,t,[],0,rfl,⟨dx,hp1⟩,∅,by simp,(λ_ _ e=>by cases e),hd,∅,ok,λv' H2 k2 R2 u2=>?_⟩;obtain⟨dx2,hp2⟩:=id R2;have s02:fJ H H2:=λb o e=>k2 b o (sN b o e) λz=>by rw[z,nx]at e;cases e
  refine⟨_,rfl,x,CR,dx2,_,_,rfl,hp2,c.cl,c.na _ (by simp),rfl,_,rfl,_,rfl,aJe (by rw[gM];lia),?_⟩;refine⟨rfl,_,rfl,?_⟩;rw[gM,Ii];refine aMs rfl ?_;exact⟨_,rfl,q v' H2 s02 u2⟩
end
end KR
namespace Q
variable {ns:List Int}{us:List Value}{n:Nat}{ps:List Str}{t:Tm}{ys:List Tk}{rs:List Rim}{kvs:List (Tke×U)}{l:List Tk}{row:List Tk}{ts:List Tm}{x q:Str}{g1 g2 g3 g4:FuncData}{R:Sl->Prop}{fs:List Str}{lo hi:Option Int}{f1 f2 f3 f4:Addr}{k:Nat}{u:U}{H:Hp}{r:Int}
open PySem PyProof.Rows L2 KR
def enc(N:Cn):Tm->U
 |.num n=> .ob N.num ["value"] [.n n]
 |.take b ss=> .ob N.take ["back","steps"] [.n b,.tp (ss.map U.n)]
 |.rest t y=> .ob N.rest ["one","by"] [enc N t,.n y]
 |.cho a b c=> .ob N.cho ["test","one","other"] [enc N a,enc N b,enc N c]
 |.bin k a b=> .ob (N.bin k) ["one","other"] [enc N a,enc N b]
def aCk{W B:Addr->Prop}{p:Addr}{o:HO}(e:EB W B H)(h:H p=some o)(n:¬Mt o):¬B p:=λz=>by
 obtain⟨xs,q,m⟩:=e.bl p z;rw[h]at q;cases q;exact n m
theorem uH{W B:Addr->Prop}{H:Hp}{N:Cn}(e:EB W B H):∀{t:Tm}{p dx:Addr}{fs:List (Str×V)},H p=some (.ins (cls N t) dx fs)->jY N H fs t->DU W B H (enc N t) (.ref p)
 |.num n,p,dx,fs,h,hf=>by
  obtain rfl:=hf;exact⟨p,dx,[.int n],rfl,aCk e h id,h,rfl,_,_,rfl,⟨rfl,rfl⟩,rfl⟩
 |.take b ss,p,dx,fs,h,hf=>by
  obtain⟨q,rfl,hq⟩:=hf;exact⟨p,dx,[.int b,.ref q],rfl,aCk e h id,h,rfl,_,_,rfl,⟨rfl,rfl⟩,_,_,rfl,⟨q,_,rfl,aCk e hq id,hq,DUs.mapInts⟩,rfl⟩
 |.rest t y,p,dx,fs,h,hf=>by
  obtain⟨q,dq,gs,rfl,hq,f⟩:=hf;exact⟨p,dx,[.ref q,.int y],rfl,aCk e h id,h,rfl,_,_,rfl,uH e hq f,_,_,rfl,⟨rfl,rfl⟩,rfl⟩
 |.cho a b c,p,dx,fs,h,hf=>by
  obtain⟨q1,d1,g1,q2,d2,g2,q3,d3,g3,rfl,⟨h1,f1⟩,⟨h2,f2⟩,h3,f3⟩:=hf;exact⟨p,dx,[.ref q1,.ref q2,.ref q3],rfl,aCk e h id,h,rfl,_,_,rfl,uH e h1 f1,_,_,rfl,uH e h2 f2,_,_,rfl,uH e h3 f3,rfl⟩
 |.bin k a b,p,dx,fs,h,hf=>by
  obtain⟨q1,d1,g1,q2,d2,g2,rfl,⟨h1,f1⟩,h2,f2⟩:=hf;exact⟨p,dx,[.ref q1,.ref q2],rfl,aCk e h id,h,rfl,_,_,rfl,uH e h1 f1,_,_,rfl,uH e h2 f2,rfl⟩
def aV7{W B:Addr->Prop}{N:Cn}{v:V}(e:EB W B H)(h:lE N H t v):DU W B H (enc N t) v:=by
 obtain⟨p,dx,fs,rfl,h1,h2⟩:=h;exact uH e h1 h2
def gC{N:Cn}{m:Str}{F:Addr->Fv}{G:TVa}{ρ:EV}(t:Tm)(h1:(["value","back","steps","one","by","test","other"]:List Str).elem m=false)(h:G ρ λvs=>F (cls N t) (enc N t::vs) R):mOb (IsC N) m F G ρ R (enc N t):=by
 have hc:=isC N t;have k:∀ns:List Str,(∀x∈ns,x∈(["value","back","steps","one","by","test","other"]:List Str))->ns.elem m=false:=λns hn=>by
  cases q:ns.elem m with
  |false=>rfl
  |true=>
   have:=hn m (List.elem_iff.mp q);rw[List.elem_iff.mpr this]at h1;cases h1
 cases t with
 |num n=>exact⟨hc,k _ (by simp),h⟩
 |take b ss=>exact⟨hc,k _ (by simp),h⟩
 |rest t y=>exact⟨hc,k _ (by simp),h⟩
 |cho a b c=>exact⟨hc,k _ (by simp),h⟩
 |bin j a b=>exact⟨hc,k _ (by simp),h⟩
def iW(N:Cn)(C:Addr):Fv:=λus R=>∃t,us=[enc N t]/\cls N t=C/\R (.ow ((kids t).map (enc N)))
variable {P:Program}{w:World}{K:Ac}{mg:Str->Option Value}{base:Heap}{f C:Addr}{fd:FuncData}{N:Cn}
def aBo:aL ["self"] ["self"] (aC lQ):={}
def aB8(F:Fun K "inner" "Term.inner" lQ f fd)(hC:∀t,cls N t=C->kids t=[]):bC P w K mg base CX0 1 f fd ["self"] (spV (iW N C)):=by
 refine vfn F aBo (λcdv A outer s H E hr=>(aF (aY (bZ aH)))) ?_;rintro _ R ⟨t,rfl,e,q⟩;rw[hC t e]at q;exact⟨rfl,q⟩
def yP:aL ["self"] ["self"] (aC iU):={}
def aLl{k:Fin 5}(F:Fun K "inner" "Paired.inner" iU f fd)(cP:Cfl K (N.bin k) ["one","other"])(hC:∀t,cls N t=N.bin k->∃a b,t=.bin k a b):bC P w K mg base CX0 1 f fd ["self"] (spV (iW N (N.bin k))):=by
 refine vfn F yP (λcdv A outer s H E hr=>(aF (aY (bZ (aB (dO cP (aA 0)) (aB (dO cP (aA 0)) aH)))))) ?_;rintro _ R ⟨t,rfl,e,q⟩;obtain⟨a,b,rfl⟩:=hC t e;exact⟨rfl,rfl,.inl ⟨rfl,rfl,.inr ⟨by decide+kernel,.inl ⟨rfl,q⟩⟩⟩⟩
def aBl:aL ["self"] ["self"] (aC lL):={}
def aLe(F:Fun K "inner" "Rest.inner" lL f fd)(cP:Cfl K N.rest ["one","by"])(hC:∀t,cls N t=N.rest->∃a y,t=.rest a y):bC P w K mg base CX0 1 f fd ["self"] (spV (iW N N.rest)):=by
 refine vfn F aBl (λcdv A outer s H E hr=>(aF (aY (bZ (aB (dO cP (aA 0)) aH))))) ?_;rintro _ R ⟨t,rfl,e,q⟩;obtain⟨a,b,rfl⟩:=hC t e;exact⟨rfl,rfl,.inl ⟨rfl,q⟩⟩
def yR:aL ["self"] ["self"] (aC jA):={}
def aL8(F:Fun K "inner" "Chosen.inner" jA f fd)(cP:Cfl K N.cho ["test","one","other"])(hC:∀t,cls N t=N.cho->∃a b c,t=.cho a b c):bC P w K mg base CX0 1 f fd ["self"] (spV (iW N N.cho)):=by
 refine vfn F yR (λcdv A outer s H E hr=>(aF (aY (bZ (aB (dO cP (aA 0)) (aB (dO cP (aA 0)) (aB (dO cP (aA 0)) aH))))))) ?_;rintro _ R ⟨t,rfl,e,q⟩;obtain⟨a,b,c,rfl⟩:=hC t e;exact⟨rfl,rfl,.inl ⟨rfl,rfl,.inr ⟨by decide+kernel,.inl ⟨rfl,rfl,.inr ⟨by decide+kernel,.inr ⟨by decide+kernel,.inl ⟨rfl,q⟩⟩⟩⟩⟩⟩⟩
def aCj(h:l.Pairwise λx y=>iV x y=true):l.Nodup:=h.imp λ{x y} h z=>by
 subst z;rw[aB2 h]at h;cases h
def Few(t:Tm):Prop:=∃ks:List Tk,ks.length<18/\∀x∈raw t,x∈ks
def yW(f:Few t)(h:rO t l):l.length<=17:=by
 obtain⟨ks,kl,km⟩:=f;have:=(aCj h.1).length_le_of_subset (l₂:=ks) λx hx=>km x ((h.2 x).mp hx)
 lia
def aOv(h:∀b ss,t≠.take b ss)(x:Tk):x∈raw t↔ ∃k∈kids t,x∈raw k:=by cases t<;>simp[raw,kids]<;>grind
def zA(t:Tm){d:Nat}(h:ht t<=d+1):∀k∈kids t,ht k<=d:=λk hk=>by have:=aA5 hk;lia
def qU(N:Cn)(d:Nat)(C:Addr):Fv:=λus R=>∃t,us=[enc N t]/\cls N t=C/\ht t<=d/\Few t/\∀ys,rO t ys->R (.ow (ys.map tkU))
abbrev kI(P:Program)(w:World)(K:Ac)(mg:Str->Option Value)(base:Heap)(N:Cn)(k:Nat)(m:Str)(F:Addr->Fv):Prop:=Dis P w K mg base CX0 k (IsC N) m ["self"] λC=>spV (F C)
variable {d:Nat}
def nP:aL ["self","pairs","part"] ["self"] (aC lJ):={}
def aKu(F:Fun K "takes" "Term.takes" lJ f fd)(hC:∀t,cls N t=C->∀b ss,t≠.take b ss)(D_inner:kI P w K mg base N 1 "inner" (iW N))(D_takes:kI P w K mg base N (d+1) "takes" (qU N d))(T:Txt mg):bC P w K mg base CX0 (d+2) f fd ["self"] (spV (qU N (d+1) C)):=by
 refine vfn F nP (λcdv A outer s H E hr=>(aD (bA (i:=1) nP.nd (bZ aH)) (aD (dC Aw rfl (bV (cI (aA 0) D_inner (hr.mono ∅))) (cX (i:=2) nP.nd) (aF (aOy 1 (cI (aA 2) D_takes (hr.mono ∅))))) (aF (aY (aC5 hr rfl T.sorted T.set (aN (aA 1) aU))))))) ?_;rintro _ R ⟨t,rfl,e,hd,fw,q⟩;refine⟨rfl,gC t (by decide+kernel) ⟨t,rfl,rfl,?_⟩⟩;refine bM (λl ρ=>∃(ks js:List Tm)(ps:List Tk)(x:Sl),l=ks.map (enc N)/\js++ks=kids t/\ρ=[.sh (enc N t),.ow (ps.map tkU),x]/\ps.length<=17*js.length/\∀y,y∈ps↔ ∃k∈js,y∈raw k) ?_ ?_ ⟨kids t,[],[],_,rfl,rfl,rfl,Am _,by simp⟩
 ·rintro ρ ⟨ks,js,ps,x,el,ej,rfl,pl,pm⟩;obtain rfl:=List.map_eq_nil_iff.mp el.symm;rw[Bf]at ej;subst ej;have kl:=yX t;have rk:=aOv (hC t e);exact⟨ps,rfl,∅,λys pw ym=>q ys ⟨pw,λy=>(ym y).trans ((pm y).trans (rk y).symm)⟩⟩
 ·rintro u r ρ ⟨ks,js,ps,x,el,ej,rfl,pl,pm⟩ ih;obtain⟨k,ks,rfl,rfl,rfl⟩:=List.map_eq_cons_iff.mp el.symm;have hk:k∈kids t:=by rw[<-ej];simp
  have fk:Few k:=let⟨zs,zl,zm⟩:=fw;⟨zs,zl,λy hy=>zm y (aJ2 hk y hy)⟩;refine gC k (by decide+kernel) ⟨k,rfl,rfl,zA t hd k hk,fk,λys ik=>?_⟩;have yl:=yW fk ik;have kl:=yX t;have jl:js.length+(ks.length+1)<=3:=by rw[<-ej,Ag,Ah]at kl;exact kl
  refine⟨by rw[Ab,Ab];lia,ih _ ⟨ks,js++[k],ps++ys,_,rfl,by rw[Bi];exact ej,by rw[Bb];rfl,by rw[Ag,Ag];show _<=17*(js.length+1);lia,λy=>?_⟩⟩;rw[Mo,pm y,ik.2 y];constructor
  ·rintro(⟨j,hj,hy⟩|hy)
   ·exact⟨j,Gb _ hj,hy⟩
   ·exact⟨k,by simp,hy⟩
  ·rintro⟨j,hj,hy⟩;rcases List.mem_append.mp hj with hj|hj
   ·exact .inl ⟨j,hj,hy⟩
   ·rw[List.mem_singleton.mp hj]at hy;exact .inr hy
def aBq:aL ["self"] ["self"] (aC lO):={}
def aLh(F:Fun K "takes" "Take.takes" lO f fd)(cK:Cfl K N.take ["back","steps"])(hC:∀t,cls N t=N.take->∃b ss,t=.take b ss):bC P w K mg base CX0 (d+2) f fd ["self"] (spV (qU N (d+1) N.take)):=by
 refine vfn F aBq (λcdv A outer s H E hr=>(aF (aY (bZ (aB (cY (aB (dO cK (aA 0)) (aB (dO cK (aA 0)) aH))) aH))))) ?_;rintro _ R ⟨t,rfl,e,hd,fw,q⟩;obtain⟨b,ss,rfl⟩:=hC t e;exact⟨rfl,rfl,.inl ⟨rfl,rfl,.inr ⟨by decide+kernel,.inl ⟨rfl,q [(b,ss)] ⟨Ja ..,λ_=>Ls⟩⟩⟩⟩⟩
def aG1(N:Cn)(g:Tm->Nat)(d:Nat)(C:Addr):Fv:=λus R=>∃t,us=[enc N t]/\cls N t=C/\ht t<=d/\dZ t<=200/\R (.sh (.n (g t)))
def aAt{t k:Tm}(h:k∈kids t):dZ k<=dZ t:=by cases t<;>grind [kids,dZ]
def aQ5(t:Tm):∀m:Int,(kids t=[]/\m=0)∨(m∈(kids t).map (λk=>(ht k:Int))/\∀a∈(kids t).map (λk=>(ht k:Int)),a<=m)->1+m=(ht t:Int):=by
 intro m h;cases t with
 |num n=>rcases h with ⟨_,h⟩|⟨h,_⟩<;>simp[kids,ht]at h⊢;lia
 |take b ss=>rcases h with ⟨_,h⟩|⟨h,_⟩<;>simp[kids,ht]at h⊢;lia
 |rest t y=>rcases h with ⟨h,_⟩|⟨h,_⟩<;>simp[kids,ht]at h⊢;lia
 |cho a b c=>rcases h with ⟨h,_⟩|⟨h,g⟩<;>simp[kids,ht]at h⊢;simp[kids]at g;lia
 |bin k a b=>rcases h with ⟨h,_⟩|⟨h,g⟩<;>simp[kids,ht]at h⊢;simp[kids]at g;lia
def aN5(t:Tm):1+((kids t).map (λk=>(dZ k:Int))).sum=(dZ t:Int):=by
 cases t<;>simp[kids,dZ]<;>lia
def ints_map{g:Tm->Nat}(ks:List Tm):ks.map (λk=>U.n (g k))=(ks.map λk=>(g k:Int)).map U.n:=by rw[Bh];rfl
def aGb{g:Tm->Nat}{h:U->(Option U->Prop)->Prop}{R:List U->Prop}(hf:∀k∈kids t,∀c:Option U->Prop,c (some (.n (g k)))->h (enc N k) c)(q:R (((kids t).map λk=>(g k:Int)).map U.n)):iK h ((kids t).map (enc N)) [] R:=by
 rw[<-ints_map]at q;revert hf q;generalize kids t=ks;have key:∀(ks:List Tm)(acc:List U),(∀k∈ks,∀c:Option U->Prop,c (some (.n (g k)))->h (enc N k) c)->R (acc++ks.map λk=>U.n (g k))->iK h (ks.map (enc N)) acc R:=by
  intro ks;induction ks with
  |nil=>exactλacc _ q=>by rw[Dg,Bf]at q;exact q
  |cons k ks ih=>exactλacc hf q=>hf k Af _ (ih _ (λj hj=>hf j (Ae _ hj)) (by rw[Bi];exact q))
 exactλhf q=>key ks [] hf q
abbrev aDw:List Str:=["self"]
def aBn:aL ["self"] ["self"] (aC jD):={}
def aLg(F:Fun K "depth" "Term.depth" jD f fd)(D_inner:kI P w K mg base N 1 "inner" (iW N))(D_depth:kI P w K mg base N (d+1) "depth" (aG1 N ht d))(T:Txt mg):bC P w K mg base CX0 (d+2) f fd ["self"] (spV (aG1 N ht (d+1) C)):=by
 refine vfn F aBn (λcdv A outer s H E hr=>(aF (aY (aX bB bK aG (aKa rfl T.max (aN (lY (own:=["part"]) (cap:=[]) (aC jD) aDw rfl rfl (λx h=>bU h) (by decide+kernel) rfl (vic (bV (cI (aA 0) D_inner (hr.mono ∅)))) (λcl C s2 H2 fp=>(bR (i:=0) (show(["part"]:List Str).Nodup by decide+kernel) rfl (Cw rfl) (Eb rfl))) (dM ⋯) (λcl C s2 H2 fp=>(cI (aA 0) D_depth (hr.mono ∅)))) aU) aG))))) ?_;rintro _ R ⟨t,rfl,e,hd,hp,q⟩;refine⟨rfl,gC t (by decide+kernel) ⟨t,rfl,rfl,?_⟩⟩;refine⟨by have:=yX t;rw[Ab];lia,aGb (g:=ht) (λk hk c hc=>gC k (by decide+kernel) ⟨k,rfl,rfl,zA t hd k hk,by have:=aAt hk;lia,hc⟩) ?_⟩;refine⟨_,rfl,λh=>?_,λm hm ha=>?_⟩
 ·have:=aQ5 t 0 (.inl ⟨List.map_eq_nil_iff.mp h,rfl⟩);rw[<-this]at q;exact q
 ·have:=aQ5 t m (.inr ⟨hm,ha⟩);rw[<-this]at q;exact q
abbrev aDh:List Str:=["self"]
def aBm:aL ["self"] ["self"] (aC iT):={}
def aKs(F:Fun K "parts" "Term.parts" iT f fd)(D_inner:kI P w K mg base N 1 "inner" (iW N))(D_parts:kI P w K mg base N (d+1) "parts" (aG1 N dZ d))(T:Txt mg):bC P w K mg base CX0 (d+2) f fd ["self"] (spV (aG1 N dZ (d+1) C)):=by
 refine vfn F aBm (λcdv A outer s H E hr=>(aF (aY (aX bB bK aG (bD (aO6 rfl) aXw T.sum boot_sum (aN (lY (own:=["part"]) (cap:=[]) (aC iT) aDh rfl rfl (λx h=>bU h) (by decide+kernel) rfl (vic (bV (cI (aA 0) D_inner (hr.mono ∅)))) (λcl C s2 H2 fp=>(bR (i:=0) (show(["part"]:List Str).Nodup by decide+kernel) rfl (Cw rfl) (Eb rfl))) (dM ⋯) (λcl C s2 H2 fp=>(cI (aA 0) D_parts (hr.mono ∅)))) aU)))))) ?_;rintro _ R ⟨t,rfl,e,hd,hp,q⟩;have kl:=yX t;refine⟨rfl,gC t (by decide+kernel) ⟨t,rfl,rfl,?_⟩⟩;refine⟨by rw[Ab];lia,aGb (g:=dZ) (λk hk c hc=>gC k (by decide+kernel) ⟨k,rfl,rfl,zA t hd k hk,by have:=aAt hk;lia,hc⟩) ?_⟩;refine⟨_,rfl,by rw[Ab];lia,λn hn=>?_,?_⟩
 ·obtain⟨k,hk,rfl⟩:=List.mem_map.mp hn;have:=aAt hk
  lia
 ·have:=aN5 t;rw[<-this]at q;exact q
def aIb:Fv:=λus R=>∃ss:List Int,us=[.tp (ss.map U.n)]/\1<=ss.length/\ss.length<=3/\(∀s∈ss, -9<=s/\s<=9)/\R (.sh (.b true))
abbrev aGv:List Str:=["thing"]
def aEo:aL ["thing"] ["thing"] (aC mU):={}
def aOq(F:Fun K "are_steps" "are_steps" mU f fd)(c_is_within:Cal P w K mg base CX0 2 "is_within" PW3 (spV jU))(T:Txt mg):bC P w K mg base CX0 3 f fd ["thing"] (spV aIb):=by
 obtain⟨_,g_MOST_STEPS_terms⟩:=T.c_MOST_STEPS_terms;obtain⟨_,g_GREATEST_STEP⟩:=T.c_GREATEST_STEP;refine vfn F aEo (λcdv A outer s H E hr=>(aD (dF (wD (vL (gK (iH (tY .tp nofun T.isinstance T.tuple Mz (aA 0)))) (rF (gK (vO wJ wJ cH cH aG (bD aV dI T.len Dw (aN (aA 0) aU)) (dU g_MOST_STEPS_terms)))))) (aF (aY yF)) bN) (aF (aY (bD aAb (aIi rfl) T.all boot_all (aN (lY (own:=["step"]) (cap:=[]) (aC mU) aGv rfl rfl (λx h=>bU h) (by decide+kernel) rfl (vic (aMk (aA 0))) (λcl C s2 H2 fp=>(bR (i:=0) (show(["step"]:List Str).Nodup by decide+kernel) rfl (Cw rfl) (Eb rfl))) (dM ⋯) (λcl C s2 H2 fp=>(aO c_is_within (hr.mono ⋯) rfl (aB (aA 0) (aB (aNn (dU g_GREATEST_STEP)) (aB (dU g_GREATEST_STEP) aH)))))) aU)))))) ?_;rintro _ R ⟨ss,rfl,l1,l3,hs,q⟩;have e1:(ss.map U.n).length=ss.length:=Ab ..;refine⟨rfl,_,rfl,nofun,λ_=>⟨λ_=>⟨λh=>?_,λ_=>?_⟩,λh=>?_⟩⟩
 ·simp at h;lia
 ·refine⟨∅,fY (h:=λ_=> .b true) (λu hu k hk=>?_) ?_⟩
  ·obtain⟨s,hs',rfl⟩:=List.mem_map.mp hu;have:=hs s hs';refine⟨_,_,_,_,rfl,rfl,?_⟩;show k (some (.b (isIn (.n s) (-9) 9)));rw[show isIn (.n s) (-9) 9=true by simp[isIn,this.1,this.2]];exact hk
  ·refine⟨ss.map λ_=>true,by rw[Bh,Bh];rfl,?_⟩;exact Rbl q (by simp)
 ·simp at h;lia
def qQ(N:Cn)(C:Addr):Fv:=λus R=>∃t,us=[enc N t]/\cls N t=C/\lH t/\R (.sh .no)
def vK:aL ["self"] ["self"] (aC gF):={}
def aB3(F:Fun K "own_fault" "Term.own_fault" gF f fd):bC P w K mg base CX0 4 f fd ["self"] (spV (qQ N C)):=by
 refine bC.mono (vfn F vK (λcdv A outer s H E(hr:dG 0 _)=>(aF (aY pI))) ?_) ⋯;rintro _ R ⟨t,rfl,e,ok,q⟩;exact⟨rfl,q⟩
def sZ:aL ["self"] ["self"] (aC eY):={}
def aLc(F:Fun K "own_fault" "Number.own_fault" eY f fd)(cN:Cfl K N.num ["value"])(hC:∀t,cls N t=N.num->∃n,t=.num n)(c_is_within:Cal P w K mg base CX0 2 "is_within" PW3 (spV jU))(T:Txt mg):bC P w K mg base CX0 4 f fd ["self"] (spV (qQ N N.num)):=by
 obtain⟨_,g_GREATEST_NUMBER⟩:=T.c_GREATEST_NUMBER;refine vfn F sZ (λcdv A outer s H E hr=>(aD (dF (iH (aO c_is_within (hr.mono ⋯) rfl (aB (dO cN (aA 0)) (aB (aNn (dU g_GREATEST_NUMBER)) (aB (dU g_GREATEST_NUMBER) aH))))) (aF (aY pI)) bN) (aF (aY bO)))) ?_;rintro _ R ⟨t,rfl,e,ok,q⟩;obtain⟨n,rfl⟩:=hC t e;have h:=ok.1;simp only[Wf]at h;refine⟨rfl,rfl,.inl ⟨rfl,_,_,_,_,rfl,rfl,λ_=>q,λz=>?_⟩⟩;simp[isIn,h.1,h.2]at z
def wN:aL ["self"] ["self"] (aC gA):={}
def aMi(F:Fun K "own_fault" "Take.own_fault" gA f fd)(cK:Cfl K N.take ["back","steps"])(hC:∀t,cls N t=N.take->∃b ss,t=.take b ss)(c_is_within:Cal P w K mg base CX0 2 "is_within" PW3 (spV jU))(c_are_steps:Cal P w K mg base CX0 3 "are_steps" ["thing"] (spV aIb))(T:Txt mg):bC P w K mg base CX0 4 f fd ["self"] (spV (qQ N N.take)):=by
 obtain⟨_,g_GREATEST_BACK⟩:=T.c_GREATEST_BACK;refine vfn F wN (λcdv A outer s H E hr=>(aD (dF (gK (iH (aO c_is_within (hr.mono ⋯) rfl (aB (dO cK (aA 0)) (aB aG (aB (dU g_GREATEST_BACK) aH)))))) (aF (aY bO)) bN) (aD (dF (gK (iH (aO c_are_steps (hr.mono ⋯) rfl (aB (dO cK (aA 0)) aH)))) (aF (aY bO)) bN) (aF (aY pI))))) ?_;rintro _ R ⟨t,rfl,e,ok,q⟩;obtain⟨b,ss,rfl⟩:=hC t e;obtain⟨⟨h1,h2,h3⟩,h4,h5⟩:=ok.2 (b,ss) Af;refine⟨rfl,rfl,.inl ⟨rfl,_,_,_,_,rfl,rfl,λz=>?_,λ_=>?_⟩⟩
 ·simp only at h1 h2;simp[isIn,h1,h2]at z
 ·exact⟨rfl,.inr ⟨by decide+kernel,.inl ⟨rfl,ss,rfl,h4,h5,h3,nofun,λ_=>q⟩⟩⟩
def vV:aL ["self"] ["self"] (aC gD):={}
def aL5(F:Fun K "own_fault" "Rest.own_fault" gD f fd)(cP:Cfl K N.rest ["one","by"])(hC:∀t,cls N t=N.rest->∃a y,t=.rest a y)(c_is_within:Cal P w K mg base CX0 2 "is_within" PW3 (spV jU))(T:Txt mg):bC P w K mg base CX0 4 f fd ["self"] (spV (qQ N N.rest)):=by
 obtain⟨_,g_GREATEST_DIVISOR⟩:=T.c_GREATEST_DIVISOR;refine vfn F vV (λcdv A outer s H E hr=>(aD (dF (iH (aO c_is_within (hr.mono ⋯) rfl (aB (dO cP (aA 0)) (aB aG (aB (dU g_GREATEST_DIVISOR) aH))))) (aF (aY pI)) bN) (aF (aY bO)))) ?_;rintro _ R ⟨t,rfl,e,ok,q⟩;obtain⟨a,y,rfl⟩:=hC t e;have h:=ok.1;simp only[Wf]at h;refine⟨rfl,rfl,.inr ⟨by decide+kernel,.inl ⟨rfl,_,_,_,_,rfl,rfl,λ_=>q,λz=>?_⟩⟩⟩;simp[isIn,h.1,h.2.1]at z
def fFF(N:Cn)(d:Nat):Fv:=λus R=>∃t,us=[enc N t]/\ht t<=d/\lH t/\R (.sh .no)
def mH:aL ["term","part","fault"] ["term"] (aC jT):={}
def bAj(F:Fun K "first_fault" "first_fault" jT f fd)(c_first_fault:Cal P w K mg base CX0 (d+4) "first_fault" ["term"] (spV (fFF N d)))(D_inner:kI P w K mg base N 1 "inner" (iW N))(D_own_fault:kI P w K mg base N 4 "own_fault" (qQ N)):bC P w K mg base CX0 (d+5) f fd ["term"] (spV (fFF N (d+1))):=by
 refine vfn F mH (λcdv A outer s H E hr=>(aD (dC Aw rfl (bV (cI (aA 0) D_inner (hr.mono ∅))) (cX (i:=1) mH.nd) (aD (bA (i:=2) mH.nd (aO c_first_fault (hr.mono ∅) rfl (aB (aA 1) aH))) (aF (dF (aJk (aA 2)) (aF (eU 2)) bN)))) (aF (aY (cI (aA 0) D_own_fault (hr.mono ∅)))))) ?_;rintro _ R ⟨t,rfl,hd,ok,q⟩;refine⟨rfl,gC t (by decide+kernel) ⟨t,rfl,rfl,?_⟩⟩;refine bM (λl ρ=>∃(ks:List Tm)(x y:Sl),l=ks.map (enc N)/\(∀k∈ks,k∈kids t)/\ρ=[.sh (enc N t),x,y]) ?_ ?_ ⟨kids t,_,_,rfl,λ_ h=>h,rfl⟩
 ·rintro ρ ⟨ks,x,y,el,hk,rfl⟩;exact gC t (by decide+kernel) ⟨t,rfl,rfl,ok,q⟩
 ·rintro u r ρ ⟨ks,x,y,el,hk,rfl⟩ ih;obtain⟨k,ks,rfl,rfl,rfl⟩:=List.map_eq_cons_iff.mp el.symm;have kk:=hk k Af;exact⟨k,rfl,zA t hd k kk,ok.kid kk,nofun,λ_=>ih _ ⟨ks,_,_,rfl,λj hj=>hk j (Ae _ hj),rfl⟩⟩
def Ln(t:Tm)(n:Nat):Prop:=(n=1∨n=2∨n=3)/\(∀x∈raw t,x.2.length=n)/\∃ks:List Tk,ks.length<=6/\∀x∈raw t,x∈ks
def Ln.few(h:Ln t n):Few t:=let⟨ks,l,m⟩:=h.2.2;⟨ks,∅,m⟩
def zY(N:Cn)(d:Nat):Fv:=λus R=>∃t n,us=[enc N t]/\ht t<=d/\Ln t n/\∀s,s=.sh .no∨s=.sh (.n (n:Nat))->R s
abbrev aG2:List Str:=["term","counts"]
def yK:aL ["term","counts"] ["term"] (aC pO):={}
def aHz(F:Fun K "lines_of" "lines_of" pO f fd)(D_takes:kI P w K mg base N (d+1) "takes" (qU N d))(T:Txt mg):bC P w K mg base CX0 (d+3) f fd ["term"] (spV (zY N d)):=by
 refine vfn F yK (λcdv A outer s H E hr=>(aD (bA (i:=1) yK.nd (aQ3 rfl T.sorted T.set (aN (lY (own:=["take"]) (cap:=[]) (aC pO) aG2 rfl rfl (λx h=>bU h) (by decide+kernel) rfl (vic (bV (cI (aA 0) D_takes (hr.mono ∅)))) (λcl C s2 H2 fp=>(bR (i:=0) (show(["take"]:List Str).Nodup by decide+kernel) rfl (Cw rfl) (Eb rfl))) (dM ⋯) (λcl C s2 H2 fp=>(bD aV dI T.len Dw (aN (bW bF bY (aA 0) aG) aU)))) aU))) (aD (dF (cO tG cH (bD aV dI T.len Dw (aN (aA 1) aU)) aG) (aF mK) bN) (aD (dF (cO (lW (huD hr)) lG (bD aV dI T.len Dw (aN (aA 1) aU)) aG) (aF (aY pI)) bN) (aF (aY (bW bF bY (aA 1) aG))))))) ?_;rintro _ R ⟨t,n,rfl,hd,ln,q⟩;refine⟨rfl,gC t (by decide+kernel) ⟨t,rfl,rfl,hd,ln.few,λys ik=>?_⟩⟩;have yl:=yW ln.few ik;refine⟨by rw[Ab];lia,fY (h:=λ_=> .n (n:Nat)) (λu hu k hk=>?_) ?_⟩
 ·obtain⟨y,hy,rfl⟩:=List.mem_map.mp hu;have e:=ln.2.1 y ((ik.2 y).mp hy);refine⟨_,rfl,?_⟩;show k (some (.n ((y.2.map U.n).length:Nat)));rw[Ab,e];exact hk
 ·refine⟨ys.map λ_=>n,n,by rw[Bh,Bh];rfl,λm hm=>?_,by rcases ln.1 with rfl|rfl|rfl<;>decide,?_⟩
  ·obtain⟨_,_,rfl⟩:=List.mem_map.mp hm;rfl
  ·generalize decide (0<(ys.map λ_=>n).length)=b;cases b
   ·exact⟨nofun,λ_=>⟨trivial,trivial,λ_=>q _ (.inl rfl),nofun⟩⟩
   ·exact⟨nofun,λ_=>⟨trivial,trivial,nofun,λ_=>⟨_,rfl,q _ (.inr rfl)⟩⟩⟩
def aD4(N:Cn)(d:Nat):Fv:=λus R=>∃t n,us=[enc N t]/\ht t<=d/\lH t/\dZ t<=60/\Ln t n/\R (.sh .no)
def tH:aL ["term","fault"] ["term"] (aC pY):={}
def aMj(F:Fun K "check_term" "check_term" pY f fd)(d12:d<=12)(c_first_fault:Cal P w K mg base CX0 (d+4) "first_fault" ["term"] (spV (fFF N d)))(c_lines_of:Cal P w K mg base CX0 (d+3) "lines_of" ["term"] (spV (zY N d)))(D_takes:kI P w K mg base N (d+1) "takes" (qU N d))(D_depth:kI P w K mg base N (d+1) "depth" (aG1 N ht d))(D_parts:kI P w K mg base N (d+1) "parts" (aG1 N dZ d))(T:Txt mg):bC P w K mg base CX0 (d+5) f fd ["term"] (spV (aD4 N d)):=by
 obtain⟨_,g_MOST_DEPTH⟩:=T.c_MOST_DEPTH;obtain⟨_,g_MOST_PARTS⟩:=T.c_MOST_PARTS;obtain⟨_,g_MOST_TAKES⟩:=T.c_MOST_TAKES;refine vfn F tH (λcdv A outer s H E hr=>(aD (bA (i:=1) tH.nd (aO c_first_fault (hr.mono ∅) rfl (aB (aA 0) aH))) (aD (dF (aJk (aA 1)) (aF mK) bN) (aD (aUo (aO c_lines_of (hr.mono ∅) rfl (aB (aA 0) aH))) (aD (dF (cO tG cH (cI (aA 0) D_depth (hr.mono ∅)) (dU g_MOST_DEPTH)) (aF mK) bN) (aD (dF (cO tG cH (cI (aA 0) D_parts (hr.mono ∅)) (dU g_MOST_PARTS)) (aF mK) bN) (aF (dF (cO tG cH (bD aV dI T.len Dw (aN (cI (aA 0) D_takes (hr.mono ∅)) aU)) (dU g_MOST_TAKES)) (aF mK) bN)))))))) ?_;rintro _ R ⟨t,n,rfl,hd,ok,hp,ln,q⟩;refine⟨rfl,t,rfl,hd,ok,nofun,λ_=>?_⟩;refine⟨t,n,rfl,hd,ln,λ_ _=>?_⟩;refine gC t (by decide+kernel) ⟨t,rfl,rfl,hd,∅,λz=>?_,λ_=>?_⟩
 ·have:=of_decide_eq_true z
  lia
 refine gC t (by decide+kernel) ⟨t,rfl,rfl,hd,∅,λz=>?_,λ_=>?_⟩
 ·have:=of_decide_eq_true z
  lia
 refine gC t (by decide+kernel) ⟨t,rfl,rfl,hd,ln.few,λys ik=>⟨λz=>?_,λ_=>q⟩⟩;have:=of_decide_eq_true z;obtain⟨ks,kl,km⟩:=ln.2.2;have h2:=(aCj ik.1).length_le_of_subset (l₂:=ks) λx hx=>km x ((ik.2 x).mp hx);rw[Ab]at this
 lia
def aFh(N:Cn):Fv:=λus R=>∃t,us=[.s (tx (txt t))]/\ht t<=8/\lH t/\dZ t<=40/\R (.sh (enc N t))
def aLn(h:bC P w K mg base CX0 k f fd ps (aCy N)):bC P w K mg base CX0 k f fd ps (spV (aFh N)):=h.imp λvs H Q E ⟨W,B,us,R,eb,d,⟨t,eu,h1,h2,h3,hR⟩,q⟩=>by
 subst eu;obtain⟨x,r,rfl,dx,dr⟩:=d;obtain rfl:r=[]:=dr;rw[dx.1];exact⟨t,rfl,h1,h2,h3,λv' H' s tr=>q _ _ _ hR (eb.same s) (aV7 (eb.to (eb.same s)) tr)⟩
def aMy(N:Cn):Fv:=λus R=>∃t n,us=[.s (tx (txt t))]/\ht t<=8/\lH t/\dZ t<=40/\Ln t n/\R (.sh (enc N t))
def vP:aL ["text","term"] ["text"] (aC qX):={}
def aN7(F:Fun K "read_term" "read_term" qX f fd)(c_read_written:Cal P w K mg base CX0 (k+13) "read_written" ["text"] (spV (aFh N)))(c_check_term:Cal P w K mg base CX0 13 "check_term" ["term"] (spV (aD4 N 8))):bC P w K mg base CX0 (k+14) f fd ["text"] (spV (aMy N)):=by
 refine vfn F vP (λcdv A outer s H E hr=>(aD (bA (i:=1) vP.nd (aO c_read_written (hr.mono ∅) rfl (aB (aA 0) aH))) (aD (aUo (aO c_check_term (hr.mono ∅) rfl (aB (aA 1) aH))) (aF (eU 1))))) ?_;rintro _ R ⟨t,n,rfl,hd,ok,hp,ln,q⟩;exact⟨rfl,t,rfl,hd,ok,hp,t,n,rfl,hd,ok,∅,ln,q⟩
def GoodR(n:Int)(m:Int)(l:List Int):Prop:=(l.length:Int)=n/\l.length<=40/\∀x∈l,0<=x/\x<m
def aQb:Fv:=λus R=>∃(l:List Int)(n m:Int),us=[.ls (l.map U.n),.n n,.n m]/\GoodR n m l/\R (.sh (.b true))
abbrev aNh:List Str:=["thing","many","modulus"]
def aLp:aL ["thing","many","modulus"] ["thing","many","modulus"] (aC wG):={}
def aP2(F:Fun K "is_row" "is_row" wG f fd)(c_is_within:Cal P w K mg base CX0 2 "is_within" PW3 (spV jU))(T:Txt mg):bC P w K mg base CX0 3 f fd ["thing","many","modulus"] (spV aQb):=by
 refine vfn F aLp (λcdv A outer s H E hr=>(aD (dF (wD (vL (gK (iH (tY .ls nofun T.isinstance T.list Io (aA 0)))) (rF (cO (aBc (huD hr)) lG (bD aV dI T.len Dw (aN (aA 0) aU)) (aA 1))))) (aF (aY yF)) bN) (aF (aY (bD aAb (aIi rfl) T.all boot_all (aN (lY (own:=["worth"]) (cap:=[("modulus",2)]) (aC wG) aNh rfl rfl (λx h=>bU h) (by decide+kernel) rfl (vic (bV (aA 0))) (λcl C s2 H2 fp=>(bR (i:=0) (show(["worth","modulus"]:List Str).Nodup by decide+kernel) rfl (Cw rfl) (Eb rfl))) (dM ⋯) (λcl C s2 H2 fp=>(aO c_is_within (hr.mono ⋯) rfl (aB (aA 0) (aB aG (aB (aX iJ cH (aA 1) aG) aH)))))) aU)))))) ?_;rintro _ R ⟨l,n,m,rfl,⟨h1,h2,h3⟩,q⟩;refine⟨rfl,_,rfl,nofun,λ_=>⟨trivial,trivial,λz=>?_,λ_=>?_⟩⟩
 ·simp[U.eq,U.d,D.eq,eqV,Sl.rd,h1]at z
 ·refine⟨by rw[Ab];lia,fY (h:=λ_=> .b true) (λu hu k hk=>?_) ⟨l.map λ_=>true,by rw[Bh,Bh];rfl,Rbl q (by simp)⟩⟩;obtain⟨x,hx,rfl⟩:=List.mem_map.mp hu;have:=h3 x hx;refine⟨_,_,_,_,rfl,rfl,?_⟩;show k (some (.b (isIn (.n x) 0 (m-1))));rw[show isIn (.n x) 0 (m-1)=true by simp[isIn,this.1];lia];exact hk
def iR(ls:List (List Int)):List U:=ls.map λl=> .ls (l.map U.n)
def aF5:Fv:=λus R=>∃(ls:List (List Int))(k n m:Int),us=[.ls (iR ls),.n k,.n n,.n m]/\(ls.length:Int)=k/\ls.length<=3/\(∀l∈ls,GoodR n m l)/\R (.sh (.b true))
abbrev aHr:List Str:=["thing","deep","many","modulus"]
def aGi:aL ["thing","deep","many","modulus"] ["thing","deep","many","modulus"] (aC oX):={}
def aHm(F:Fun K "are_rows" "are_rows" oX f fd)(c_is_row:Cal P w K mg base CX0 3 "is_row" ["thing","many","modulus"] (spV aQb))(T:Txt mg):bC P w K mg base CX0 4 f fd ["thing","deep","many","modulus"] (spV aF5):=by
 refine vfn F aGi (λcdv A outer s H E hr=>(aD (dF (wD (vL (gK (iH (tY .ls nofun T.isinstance T.list Io (aA 0)))) (rF (cO (aBc (huD hr)) lG (bD aV dI T.len Dw (aN (aA 0) aU)) (aA 1))))) (aF (aY yF)) bN) (aF (aY (bD aAb (aIi rfl) T.all boot_all (aN (lY (own:=["row"]) (cap:=[("many",2),("modulus",3)]) (aC oX) aHr rfl rfl (λx h=>bU h) (by decide+kernel) rfl (vic (bV (aA 0))) (λcl C s2 H2 fp=>(bR (i:=0) (show(["row","many","modulus"]:List Str).Nodup by decide+kernel) rfl (Cw rfl) (Eb rfl))) (dM ⋯) (λcl C s2 H2 fp=>(aO c_is_row (hr.mono ⋯) rfl (aB (aA 0) (aB (aA 1) (aB (aA 2) aH)))))) aU)))))) ?_;rintro _ R ⟨ls,k,n,m,rfl,h1,h2,h3,q⟩;have e1:(iR ls).length=ls.length:=Ab ..;refine⟨rfl,_,rfl,nofun,λ_=>⟨trivial,trivial,λz=>?_,λ_=>?_⟩⟩
 ·simp[U.eq,U.d,D.eq,eqV,Sl.rd,h1,e1]at z
 ·refine⟨∅,fY (h:=λ_=> .b true) (λu hu k hk=>?_) ⟨ls.map λ_=>true,by unfold iR;rw[Bh,Bh];rfl,Rbl q (by simp)⟩⟩;obtain⟨x,hx,rfl⟩:=List.mem_map.mp hu;exact⟨x,n,m,rfl,h3 x hx,hk⟩
def dpt(ys:List Tk):Int:=if ys=[]then 1 else ys.foldl (λm y=>max m y.1) 0
def aQk{m:Int}(hp:∀y∈ys,0<=y.1)(hm:m∈ys.map (·.1))(ha:∀a∈ys.map (·.1),a<=m):dpt ys=m:=by
 have key:∀(l:List Tk)(a:Int),(∀y∈l,y.1<=m)->a<=m->l.foldl (λm y=>max m y.1) a<=m/\a<=l.foldl (λm y=>max m y.1) a/\∀y∈l,y.1<=l.foldl (λm y=>max m y.1) a:=by
  intro l;induction l with
  |nil=>exactλa _ h=>⟨h,Nj _,λ_ z=>nomatch z⟩
  |cons x l ih=>
   intro a h1 h2;have hx:=h1 x Af;obtain⟨g1,g2,g3⟩:=ih (max a x.1) (λy hy=>h1 y (Ae _ hy)) ∅;refine⟨g1,by rw[Ed];lia,λy hy=>?_⟩;rw[Ed];rcases List.mem_cons.mp hy with rfl|hy
   ·lia
   ·exact g3 y hy
 obtain⟨y,hy,rfl⟩:=List.mem_map.mp hm;have h0:=hp y hy;obtain⟨g1,g2,g3⟩:=key ys 0 (λz hz=>ha _ (List.mem_map.mpr ⟨z,hz,rfl⟩)) h0;unfold dpt;rw[if_neg (by intro z;rw[z]at hy;cases hy)];have:=g3 y hy
 lia
def aUe(C:Addr):Fv:=λus R=>∃(ys:List Tk)(ns:List Str)(ws:List U),us=[.ob C ("taken"::ns) (.ls (ys.map tkU)::ws)]/\ys.length<=17/\(∀y∈ys,0<=y.1)/\R (.sh (.n (dpt ys)))
abbrev aG3:List Str:=["self"]
def aGj:aL ["self"] ["self"] (aC pA):={}
def aRr(F:Fun K "deep" "Job.deep" pA f fd)(cJ:Cfl K C ["taken"])(T:Txt mg):bC P w K mg base CX0 1 f fd ["self"] (spV (aUe C)):=by
 refine vfn F aGj (λcdv A outer s H E hr=>(aF (aY (aKa rfl T.max (aN (lY (own:=["take"]) (cap:=[]) (aC pA) aG3 rfl rfl (λx h=>bU h) (by decide+kernel) rfl (vic (bV (dO cJ (aA 0)))) (λcl C s2 H2 fp=>(bR (i:=0) (show(["take"]:List Str).Nodup by decide+kernel) rfl (Cw rfl) (Eb rfl))) (dM ⋯) (λcl C s2 H2 fp=>(bW bF bY (aA 0) aG))) aU) aG)))) ?_;rintro _ R ⟨ys,ns,ws,rfl,yl,hp,q⟩;have e:(ys.map tkU).map (λu=>match u with|.tp (x::_)=>x|u=>u)=(ys.map (·.1)).map U.n:=by rw[Bh,Bh];rfl
 refine⟨rfl,rfl,.inl ⟨rfl,by rw[Ab];lia,fY (h:=λu=>match u with|.tp (x::_)=>x|u=>u) (λu hu k hk=>?_) ?_⟩⟩
 ·obtain⟨y,hy,rfl⟩:=List.mem_map.mp hu;exact⟨_,rfl,hk⟩
 ·rw[Ec,e];refine⟨_,rfl,λz=>?_,λm hm ha=>?_⟩
  ·have z:=List.map_eq_nil_iff.mp z;subst z;exact q
  ·rw[aQk hp hm ha]at q;exact q
inductive aJc(us:List U)(R:(List Str->List U->Prop)):Prop
 |mk (ns:List Int) (rs:List Rim) (q0_:us=[.ls (ns.map U.n),.ls (rs.map Rim.u)]) (q1_:jF ns) (q2_:rs.length=ns.length) (q3_:(∀r∈rs,r.ok)) (q4_:R ["sizes","rims"] [.ls (ns.map U.n),.ls (rs.map Rim.u)]):aJc us R
def aH0:List U->(List Str->List U->Prop)->Prop:=λus R=>aJc us R
def vD(ns:List Int):U.dts 5 (ns.map U.n):=by
 induction ns with
 |nil=>trivial
 |cons r rs ih=>exact⟨trivial,ih⟩
def aI3(rs:List Rim):U.dts 5 (rs.map Rim.u):=by
 induction rs with
 |nil=>trivial
 |cons r rs ih=>exact⟨by cases r<;>first|exact⟨trivial,trivial⟩|exact⟨trivial,trivial,trivial⟩,ih⟩
def xR:aL ["self","sizes","rims"] ["self","sizes","rims"] (aC kY):={}
def aRe(F:Fun K "__init__" "Grid.__init__" kY f fd)(cG:Cfl K C ["sizes","rims"])(c_check_lines:Cal P w K mg base CX0 4 "check_lines" ["sizes","rims"] (spV aRg))(c_product:Cal P w K mg base CX0 1 "product" ["sizes"] (spV aOs))(T:Txt mg):bC P w K mg base CX0 5 f fd ["self","sizes","rims"] (spI C aH0):=by
 obtain⟨_,g_MOST_PLACES⟩:=T.c_MOST_PLACES;refine F.ok xR (λvs H Q E h=>?_) (λcdv A outer s H vs Q E hr h=>?_)
 ·obtain⟨x,dx,vs',H1,W,B,us,R,rfl,_,_,_,_,ds,⟨ns,rs,rfl,_⟩,_⟩:=h;rw[Ah, <-ds.length];rfl
 ·obtain⟨x,dx,vs',H1,W,B,us,R,rfl,n1,hx,s1,eb,ds,⟨ns,rs,rfl,g,el,rk,hR⟩,q⟩:=h;obtain⟨v1,_,rfl,d1,v2,r,rfl,d2,dr⟩:=ds;obtain rfl:r=[]:=dr;have ee:∀{H'},Fw W H1 H'->EE W B H' [.no,.sh (.ls (ns.map U.n)),.sh (.ls (rs.map Rim.u))] [some (.ref x),some v1,some v2]:=λfw=>pJ (mY (DU.mono (eb.keep fw) _ d1) (mY (DU.mono (eb.keep fw) _ d2) (aNy (eb.to fw))));have nw:¬W x:=λz=>eb.dm x (eb.wb x z) n1;have nB:¬B x:=eb.nw n1;refine⟨_,(aK (cQ (VE.can (aO c_check_lines (hr.mono ⋯) rfl (aB (aA 1) (aB (aA 2) aH))))) (aK (fD (VC.can (cO tG cH (aO c_product (hr.mono ⋯) rfl (aB (aA 1) aH)) (dU g_MOST_PLACES))) (aR eF) cC) (aK (dN (pv 0) (VE.can (dH (iG rfl) pR T.list Io (aN (aA 1) aU))) rfl) (aR (dN (pv 0) (VE.can (dH (iG rfl) pR T.list Io (aN (aA 2) aU))) rfl))))),?_⟩;have f0:=eb.same s1;refine aCl (R:=λ_=>True) (ee f0) ⟨ns,rs,rfl,g.ok,g.l1,g.l3,el,rk,trivial⟩ λs v H2 _ w2 _=>?_;have f2:=f0.trans w2;refine aAw (R:=λc=>c=false) (ee f2) ⟨ns,rfl,g.ok,g.l3,decide_eq_false (by have:=g.mn;lia)⟩ λc H3 hc w3=>?_;subst hc;refine qK ?_;have f3:=f2.trans w3;have hx3:H3 x=some (.ins C dx []):=w3.fr _ _ nw (w2.fr _ _ nw hx);refine aCl (R:=λs=>s=.ow (ns.map U.n)) (ee f3) rfl λs v4 H4 hs w4 r4=>?_;subst hs;obtain⟨p4,x4,rfl,n4,h4,d4⟩:=r4;have f4:=f3.trans w4;have hx4:=w4.fr _ _ nw hx3;refine⟨_,rfl,x,C,dx,_,rfl,hx4,cG.cl,cG.na _ (by simp),⋯,?_⟩;have f5:=f4.upd (o:=.ins C dx (jZ "sizes" (.ref p4) [])) n1 nw;have hx5:upd H4 x (.ins C dx (jZ "sizes" (.ref p4) [])) x=_:=aJ;have h5:=fM (B:=B) (o:=.ins C dx (jZ "sizes" (.ref p4) [])) hx4 p4 _ (λz=>(eb.to f3).dm p4 z n4) h4 (.inr ⟨_,rfl⟩);have d5:=DUs.data (fM (o:=.ins C dx (jZ "sizes" (.ref p4) [])) hx4) 5 _ (vD ns) d4.less;revert f5 hx5 h5 d5;generalize upd H4 x (.ins C dx (jZ "sizes" (.ref p4) []))=H5;intro f5 hx5 h5 d5;refine aCl (R:=λs=>s=.ow (rs.map Rim.u)) (ee f5) rfl λs v6 H6 hs w6 r6=>?_;subst hs;obtain⟨p6,x6,rfl,n6,h6,d6⟩:=r6;have hx6:=w6.fr _ _ nw hx5;refine⟨_,rfl,x,C,dx,_,rfl,hx6,cG.cl,cG.na _ (by simp),by show(1:Nat)<1000;decide,?_⟩;have e6:=eb.to (f5.trans w6);refine q ["sizes","rims"] _ [.ref p4,.ref p6] _ hR ((f5.trans w6).upd n1 nw) aJ rfl ⟨_,_,rfl,⟨p4,x4,rfl,(eb.to f3).nw n4,?_,?_⟩,_,_,rfl,⟨p6,x6,rfl,(eb.to f5).nw n6,?_,?_⟩,rfl⟩
  ·exact fM (B:=B) hx6 p4 _ ((eb.to f3).nw n4) (w6.fr _ _ (λz=>(eb.to f3).nw n4 (eb.wb _ z)) h5) (.inr ⟨_,rfl⟩)
  ·exact DUs.data (fM hx6) 5 _ (vD ns) (DUs.mono ((eb.to f5).keep w6) _ d5)
  ·exact fM (B:=B) hx6 p6 _ ((eb.to f5).nw n6) h6 (.inr ⟨_,rfl⟩)
  ·exact DUs.data (fM hx6) 5 _ (aI3 rs) d6.less
def uU(N:Cn)(CG CJ:Addr)(ns:List Int)(rs:List Rim)(t:Tm)(ys:List Tk)(m r:Int)(ls:List (List Int)):U:=.ob CJ ["taken","grid","term","modulus","rounds","first"] [.ls (ys.map tkU),grU CG ns rs,enc N t,.n m,.n r,.ls (iR ls)]
structure aT6(ns:List Int)(rs:List Rim)(t:Tm)(m r:Int)(ls:List (List Int)):Prop where
 gs:jF ns
 el:rs.length=ns.length
 rk:∀x∈rs,x.ok
 hd:ht t<=8
 ok:lH t
 pr:dZ t<=60
 ln:Ln t ns.length
 m2:2<=m/\m<=1000000000
 r0:0<=r/\r<=12
 rm:r*rJ ns<=120
 dp:∀ys,rO t ys->(ls.length:Int)=dpt ys
 l3:ls.length<=3
 rw_:∀l∈ls,GoodR (rJ ns) m l
inductive aKf(N:Cn)(CG:Addr)(us:List U)(R:(List Str->List U->Prop)):Prop
 |mk (ns:List Int) (rs:List Rim) (t:Tm) (m r:Int) (ls:List (List Int)) (q0_:us=[grU CG ns rs,enc N t,.n m,.n r,.ls (iR ls)]) (q1_:aT6 ns rs t m r ls) (q2_:∀ys,rO t ys->R ["taken","grid","term","modulus","rounds","first"] [.ls (ys.map tkU),grU CG ns rs,enc N t,.n m,.n r,.ls (iR ls)]):aKf N CG us R
def aHq(N:Cn)(CG:Addr):List U->(List Str->List U->Prop)->Prop:=λus R=>aKf N CG us R
def aJx(ls:List (List Int)):U.dts 6 (iR ls):=by
 induction ls with
 |nil=>trivial
 |cons l ls ih=>exact⟨vD l,ih⟩
def aH7(ys:List Tk):U.dts 7 (ys.map tkU):=by
 induction ys with
 |nil=>trivial
 |cons y ys ih=>exact⟨⟨trivial,vD y.2,trivial⟩,ih⟩
def bCc(i j:Int):U.eq (.n i) (.n j)=(i==j):=rfl
abbrev aBb:List Str:=["self","grid","term","modulus","rounds","first"]
def yO:aL ["self","grid","term","modulus","rounds","first"] ["self","grid","term","modulus","rounds","first"] (aC jE):={}
def aOd{CG CJ:Addr}(F:Fun K "__init__" "Job.__init__" jE f fd)(cJ:Cfl K CJ ["taken","grid","term","modulus","rounds","first"])(c_check_term:Cal P w K mg base CX0 13 "check_term" ["term"] (spV (aD4 N 8)))(c_lines_of:Cal P w K mg base CX0 11 "lines_of" ["term"] (spV (zY N 8)))
  (c_is_within:Cal P w K mg base CX0 2 "is_within" PW3 (spV jU)) (c_are_rows:Cal P w K mg base CX0 4 "are_rows" ["thing","deep","many","modulus"] (spV aF5)) (D_takes:kI P w K mg base N 9 "takes" (qU N 8)) (D_lines:Dis P w K mg base CX0 1 (·=CG) "lines" ["self"] λ_=>spV (aNu CG)) (D_places_many:Dis P w K mg base CX0 2 (·=CG) "places_many" ["self"] λ_=>spV (aT4 CG)) (D_deep:Dis P w K mg base CX0 1 (·=CJ) "deep" ["self"] λ_=>spV (aUe CJ)) (T:Txt mg):bC P w K mg base CX0 14 f fd ["self","grid","term","modulus","rounds","first"] (spI CJ (aHq N CG)):=by
 obtain⟨_,g_GREATEST_MODULUS⟩:=T.c_GREATEST_MODULUS;obtain⟨_,g_MOST_ROUNDS⟩:=T.c_MOST_ROUNDS;obtain⟨_,g_MOST_SPOTS⟩:=T.c_MOST_SPOTS;refine F.ok yO (λvs H Q E h=>?_) (λcdv A outer s H vs Q E hr h=>?_)
 ·obtain⟨x,dx,vs',H1,W,B,us,R,rfl,_,_,_,_,ds,⟨ns,rs,t,m,r,ls,rfl,_⟩,_⟩:=h;rw[Ah, <-ds.length];rfl
 ·obtain⟨x,dx,vs',H1,W,B,us,R,rfl,n1,hx,s1,eb,ds,⟨ns,rs,t,m,r,ls,rfl,g,hR⟩,q⟩:=h;obtain⟨v1,_,rfl,d1,v2,_,rfl,d2,v3,_,rfl,d3,v4,_,rfl,d4,v5,r5,rfl,d5,dr⟩:=ds;obtain rfl:r5=[]:=dr;have ee:∀{H' s0},Fw W H1 H'->EE W B H' [s0,.sh (grU CG ns rs),.sh (enc N t),.sh (.n m),.sh (.n r),.sh (.ls (iR ls))] [some (.ref x),some v1,some v2,some v3,some v4,some v5]->EE W B H' [s0,.sh (grU CG ns rs),.sh (enc N t),.sh (.n m),.sh (.n r),.sh (.ls (iR ls))] [some (.ref x),some v1,some v2,some v3,some v4,some v5]:=λ_ e=>e;have et:∀{H'},Fw W H1 H'->EE W B H' [.sh (grU CG ns rs),.sh (enc N t),.sh (.n m),.sh (.n r),.sh (.ls (iR ls))] [some v1,some v2,some v3,some v4,some v5]:=λfw=>mY (DU.mono (eb.keep fw) _ d1) (mY (DU.mono (eb.keep fw) _ d2) (mY d3 (mY d4 (mY (DU.mono (eb.keep fw) _ d5) (aNy (eb.to fw))))));have nw:¬W x:=λz=>eb.dm x (eb.wb x z) n1;refine⟨_,(aK (cQ (VE.can (aO c_check_term (hr.mono ⋯) rfl (aB (aA 2) aH)))) (aK (fD (VC.can (cO (aB7 (huD hr)) aNg (aO c_lines_of (hr.mono ⋯) rfl (aB (aA 2) aH)) (cY (aB pI (aB (cI (aA 1) D_lines (hr.mono ⋯)) aH))))) (aR eF) cC) (aK (fD (VC.can (gK (iH (aO c_is_within (hr.mono ⋯) rfl (aB (aA 3) (aB aG (aB (dU g_GREATEST_MODULUS) aH))))))) (aR eF) cC) (aK (fD (VC.can (wD (vL (gK (iH (aO c_is_within (hr.mono ⋯) rfl (aB (aA 4) (aB aG (aB (dU g_MOST_ROUNDS) aH)))))) (rF (cO tG cH (aX kZ jL (aA 4) (cI (aA 1) D_places_many (hr.mono ⋯))) (dU g_MOST_SPOTS)))))) (aR eF) cC) (aK (dN (pv 0) (VE.can (cI (aA 2) D_takes (hr.mono ⋯))) rfl) (aK (fD (VC.can (gK (iH (aO c_are_rows (hr.mono ⋯) rfl (aB (aA 5) (aB (cI (aA 0) D_deep (hr.mono ⋯)) (aB (cI (aA 1) D_places_many (hr.mono ⋯)) (aB (aA 3) aH)))))))) (aR eF) cC) (aK (dN (pv 0) (pv 1) rfl) (aK (dN (pv 0) (pv 2) rfl) (aK (dN (pv 0) (pv 3) rfl) (aK (dN (pv 0) (pv 4) rfl) (aR (dN (pv 0) (VE.can (lY (own:=["row"]) (cap:=[]) (aC jE) aBb rfl rfl (λx h=>bU h) (by decide+kernel) rfl (vic (bV (aA 5))) (λcl C s2 H2 fp=>(bR (i:=0) (show(["row"]:List Str).Nodup by decide+kernel) rfl (Cw rfl) (Eb rfl))) (dM ⋯) (λcl C s2 H2 fp=>(dH (iG rfl) pR T.list Io (aN (aA 0) aU))))) rfl)))))))))))),?_⟩;have f0:=eb.same s1;refine aCl (R:=λ_=>True) (pJ (et f0)) ⟨t,_,rfl,g.hd,g.ok,g.pr,g.ln,trivial⟩ λs v H2 _ w2 _=>?_;have f2:=f0.trans w2;refine aAw (R:=λc=>c=false) (pJ (et f2)) ⟨t,_,rfl,g.hd,g.ln,λs hs=>?_⟩ λc H3 hc w3=>?_
  ·rcases hs with rfl|rfl
   ·exact⟨rfl,rfl,ns,rs,rfl,trivial,⟨trivial,trivial,trivial⟩,rfl⟩
   ·refine⟨rfl,rfl,ns,rs,rfl,trivial,⟨trivial,trivial,trivial⟩,?_⟩;simp[bCc,Sl.rd]
  subst hc;refine qK ?_;have f3:=f2.trans w3;refine aAw (R:=λc=>c=false) (pJ (et f3)) ⟨_,_,_,_,rfl,rfl,?_⟩ λc H4 hc w4=>?_
  ·show(!isIn (.n m) 2 1000000000)=false;simp[isIn,g.m2.1,g.m2.2]
  subst hc;refine qK ?_;have f4:=f3.trans w4;refine aAw (R:=λc=>c=false) (pJ (et f4)) ⟨_,_,_,_,rfl,rfl,λz=>?_,λ_=>⟨rfl,rfl,ns,rs,rfl,g.gs,?_⟩⟩ λc H5 hc w5=>?_
  ·simp[isIn,g.r0.1,g.r0.2]at z
  ·refine⟨.inl ⟨by have:=g.r0;lia,by have:=g.r0;lia⟩,?_⟩;exact decide_eq_false (by have:=g.rm;lia)
  subst hc;refine qK ?_;have f5:=f4.trans w5;have hx5:H5 x=some (.ins CJ dx []):=w5.fr _ _ nw (w4.fr _ _ nw (w3.fr _ _ nw (w2.fr _ _ nw hx)));refine aCl (R:=λs=>∃ys,rO t ys/\s=.ow (ys.map tkU)) (pJ (et f5)) (gC t (by decide+kernel) ⟨t,rfl,rfl,g.hd,g.ln.few,λys hy=>⟨ys,hy,rfl⟩⟩) λs v6 H6 hs w6 r6=>?_;obtain⟨ys,hy,rfl⟩:=hs;obtain⟨p6,x6,rfl,n6,h6,d6⟩:=r6;have f6:=f5.trans w6;have hx6:=w6.fr _ _ nw hx5;have nB6:¬B p6:=(eb.to f5).nw n6;refine⟨_,rfl,x,CJ,dx,_,rfl,hx6,cJ.cl,cJ.na _ (by simp),⋯,?_⟩;have f7:=f6.upd (o:=.ins CJ dx (jZ "taken" (.ref p6) [])) n1 nw;have hx7:upd H6 x (.ins CJ dx (jZ "taken" (.ref p6) [])) x=_:=aJ;have h7:=fM (B:=B) (o:=.ins CJ dx (jZ "taken" (.ref p6) [])) hx6 p6 _ nB6 h6 (.inr ⟨_,rfl⟩);have d7:=DUs.data (fM (o:=.ins CJ dx (jZ "taken" (.ref p6) [])) hx6) 7 _ (aH7 ys) d6.less;revert f7 hx7 h7 d7;generalize upd H6 x (.ins CJ dx (jZ "taken" (.ref p6) []))=H7;intro f7 hx7 h7 d7;have yl:=yW g.ln.few hy;have yp:∀y∈ys,0<=y.1:=λy h=>by have:=(g.ok.2 y ((hy.2 y).mp h)).1.1;lia
  have dJ:DU W B H7 (.ob CJ ["taken"] [.ls (ys.map tkU)]) (.ref x):=⟨x,dx,[.ref p6],rfl,eb.nw n1,hx7,rfl,_,_,rfl,⟨p6,x6,rfl,nB6,h7,d7⟩,rfl⟩;refine aAw (R:=λc=>c=false) (mY dJ (et f7)) ⟨rfl,rfl,ys,[],[],rfl,yl,yp,rfl,rfl,ns,rs,rfl,g.gs,ls,_,_,_,rfl,g.dp ys hy,g.l3,g.rw_,rfl⟩ λc H8 hc w8=>?_;subst hc;refine qK ?_;have step:∀{H fs fs'},(Fw W H1 H/\H x=some (.ins CJ dx fs)/\DU W B H (.ls (ys.map tkU)) (.ref p6))->(Fw W H1 (upd H x (.ins CJ dx fs'))/\upd H x (.ins CJ dx fs') x=some (.ins CJ dx fs')/\DU W B (upd H x (.ins CJ dx fs')) (.ls (ys.map tkU)) (.ref p6)):=λ⟨a,b,c⟩=>⟨a.upd n1 nw,aJ,DU.data (fM b) 8 _ (aH7 ys) c⟩;have k8:Fw W H1 H8/\H8 x=some (.ins CJ dx [("taken",.ref p6)])/\DU W B H8 (.ls (ys.map tkU)) (.ref p6):=⟨f7.trans w8,w8.fr _ _ nw hx7,DU.mono ((eb.to f7).keep w8) _ ⟨p6,x6,rfl,nB6,h7,d7⟩⟩;have fl:∀{k:Nat},k<=6->k<1000:=λh=>by lia
  refine⟨_,rfl,_,rfl,x,CJ,dx,_,rfl,k8.2.1,cJ.cl,cJ.na _ (by simp),fl (by show(1:Nat)<=6;decide),?_⟩;have k9:=step (fs':=[("taken",.ref p6),("grid",v1)]) k8;refine⟨_,rfl,_,rfl,x,CJ,dx,_,rfl,k9.2.1,cJ.cl,cJ.na _ (by simp),fl (by show(2:Nat)<=6;decide),?_⟩;have k10:=step (fs':=[("taken",.ref p6),("grid",v1),("term",v2)]) k9;refine⟨_,rfl,_,rfl,x,CJ,dx,_,rfl,k10.2.1,cJ.cl,cJ.na _ (by simp),fl (by show(3:Nat)<=6;decide),?_⟩;have k11:=step (fs':=[("taken",.ref p6),("grid",v1),("term",v2),("modulus",v3)]) k10;refine⟨_,rfl,_,rfl,x,CJ,dx,_,rfl,k11.2.1,cJ.cl,cJ.na _ (by simp),fl (by show(4:Nat)<=6;decide),?_⟩;have k12:=step (fs':=[("taken",.ref p6),("grid",v1),("term",v2),("modulus",v3),("rounds",v4)]) k11;refine aCl (R:=λs=>s=.ow (iR ls)) (pJ (et k12.1)) ⟨by have:=g.l3;show(iR ls).length<=_;unfold iR;rw[Ab];lia,fY (h:=id) (λu hu k hk=>?_) (by rw[Ec,Ws])⟩ λs v13 H13 hs w13 r13=>?_
  ·obtain⟨l,_,rfl⟩:=List.mem_map.mp hu;exact hk
  subst hs;obtain⟨p13,x13,rfl,n13,h13,d13⟩:=r13;have f13:=k12.1.trans w13;have nB13:¬B p13:=(eb.to k12.1).nw n13;have k13:Fw W H1 H13/\H13 x=some (.ins CJ dx [("taken",.ref p6),("grid",v1),("term",v2),("modulus",v3),("rounds",v4)])/\DU W B H13 (.ls (ys.map tkU)) (.ref p6):=⟨f13,w13.fr _ _ nw k12.2.1,DU.mono ((eb.to k12.1).keep w13) _ k12.2.2⟩;refine⟨_,rfl,x,CJ,dx,_,rfl,k13.2.1,cJ.cl,cJ.na _ (by simp),fl (by show(5:Nat)<=6;decide),?_⟩;have k14:=step (fs':=[("taken",.ref p6),("grid",v1),("term",v2),("modulus",v3),("rounds",v4),("first",.ref p13)]) k13;have fin:=λu{v:V}(d:DU W B H1 u v)=>DU.mono (eb.keep k14.1) u d;exact q _ _ [.ref p6,v1,v2,v3,v4,.ref p13] _ (hR ys hy) k14.1 aJ rfl ⟨_,_,rfl,k14.2.2,_,_,rfl,fin _ d1,_,_,rfl,fin _ d2,_,_,rfl,fin _ d3,_,_,rfl,fin _ d4,_,_,rfl,⟨p13,x13,rfl,nB13,fM (B:=B) k13.2.1 p13 _ nB13 h13 (.inr ⟨_,rfl⟩),DUs.data (fM k13.2.1) 6 _ (aJx ls) d13.less⟩,rfl⟩
def aDx(K:Ac)(ns:List Int):Opq where
 φ:=λ_ B H v=>∃a,v=.ref a/\((¬B a/\Rd H a (.lst (ns.map V.int)))∨∀H',SqL K H' a (ns.map V.int))
 mono:=λk ⟨a,e,h⟩=>by
  rcases h with ⟨nb,h|⟨o,h⟩⟩|h
  ·exact⟨a,e,.inl ⟨(k _ _ nb h).1,.inl (k _ _ nb h).2⟩⟩
  ·exact⟨a,e,.inl ⟨(k _ _ nb h).1,.inr ⟨o,(k _ _ nb h).2⟩⟩⟩
  ·exact⟨a,e,.inr h⟩
 wm:=λ_ h=>h
def aVn(K:Ac):Fv:=λus R=>∃(ns:List Int)(k:Nat),us=[.op (aDx K ns),.n (k:Int)]/\∀n:Int,R (.sh (.n n))
def aY6(x:Int): -(2 ^ 64)<x % 2147483647/\x % 2147483647<2 ^ 64:=by lia
def DUs.two{W B:Addr->Prop}{u v:U}{vs:List V}(h:DUs W B H [u,v] vs):∃x y,vs=[x,y]/\DU W B H u x/\DU W B H v y:=by
 obtain⟨x,_,rfl,d1,y,r,rfl,d2,e⟩:=h;obtain rfl:r=[]:=e;exact⟨x,y,rfl,d1,d2⟩
def aD6:aL ["_law_script","_law_k"] ["_law_script","_law_k"] (aC rH):={}
def aSz(F:Fun K "_law_cell" "_law_cell" rH f fd)(T:Txt mg):bC P w K mg base CX0 1 f fd ["_law_script","_law_k"] (spV (aVn K)):=by
 refine F.ok aD6 (λvs H Q E h=>?_) (λcdv A outer s H vs Q E hr h=>?_)
 ·obtain⟨W,B,us,R,eb,ds,⟨ns,k,rfl,_⟩,_⟩:=h;rw[<-ds.length];rfl
 ·obtain⟨W,B,us,R,eb,ds,⟨ns,k,rfl,hR⟩,q⟩:=h;obtain⟨x,y,rfl,⟨a,rfl,hs⟩,⟨rfl,_⟩⟩:=DUs.two ds;have hS:SqL K H a (ns.map V.int):=hs.elim (λh=> .inl h.2) λh=>h H;have q':∀n:Int,Q (.int n) H:=λn=>q _ _ _ (hR n) eb.refl ⟨rfl,rfl⟩;refine⟨_,(aK (fD (cM vH (pv 1) (fQ aV (by rfl) T.len Nb (aM (pv 0) aZ)) (cZ _)) (aR (cV (xY mV (pv 0) (pv 1) (λ_ _=>rfl)))) cC) (aR (cV dX))),?_⟩;refine⟨_,rfl,_,rfl,a,_,rfl,.inl hS,_,_,rfl,rfl,_,rfl,?_⟩;by_cases h:k<ns.length
  ·refine lF (decide_eq_true (by rw[Ab];lia)) ?_;exact⟨_,rfl,_,rfl,a,_,_,_,rfl,rfl,hS,sO (show(ns.map V.int)[k]? =some (.int ns[k]) by rw[Ax,Aj h];rfl),q' _⟩
  ·exact fU (decide_eq_false (by rw[Ab];lia)) (q' 0)
def aAm:Fv:=λus R=>∃m:Int,us=[.wl,.n m]/\0<m/\m<2 ^ 62/\∀r:Int,0<=r->r<m->R (.sh (.n r))
def aTw:Fv:=λus R=>∃(c:Int)(k:Int),us=[.n c,.n k]/\∀r:Int,R (.sh (.n r))
def wI:aL ["_law_well_here","_law_most","_law_number"] ["_law_well_here","_law_most"] (aC rQ):={}
def aTh(F:Fun K "_law_draw" "_law_draw" rQ f fd)(c_twice:Cal P w K mg base CX0 2 "_law_twice" ["_law_cell_here","_law_k"] (spV aTw)):bC P w K mg base CX0 3 f fd ["_law_well_here","_law_most"] (spV aAm):=by
 refine F.ok wI (λvs H Q E h=>?_) (λcdv A outer s H vs Q E hr h=>?_)
 ·obtain⟨W,B,us,R,eb,ds,⟨m,rfl,_⟩,_⟩:=h;rw[<-ds.length];rfl
 ·obtain⟨W,B,us,R,eb,ds,⟨m,rfl,hm,hm2,hR⟩,q⟩:=h;obtain⟨v1,v2,rfl,⟨a,rfl,wa⟩,⟨rfl,_⟩⟩:=DUs.two ds;obtain⟨x,y,z,ha⟩:=eb.wo a wa;have up:∀{H':Hp}(x y z:Int),Fw W H H'->Fw W H (upd H' a (.lst [.int x,.int y,.int z])):=λ{H'} x y z f=>⟨λb o nw h=>(aP (λe:b=a=>nw (by rw[e];exact wa))).trans (f.fr b o nw h),λp hp=>by
   by_cases e:p=a
   ·exact⟨x,y,z,by rw[e,aJ]⟩
   ·obtain⟨x',y',z',h⟩:=f.wo p hp;exact⟨x',y',z',(aP e).trans h⟩⟩
  have fin:∀(t:Int)(H':Hp),Fw W H H'->Q (.int (t % m)) H':=λt H' fw=>q _ _ _ (hR (t % m) (Fx t ∅) (Eo t hm)) fw ⟨rfl,rfl⟩;refine⟨_,(aK (fD (cM tG (xY mV (pv 0) dX (λ_ _=>rfl)) dX (cZ _)) (aK (iB (i:=2) wI.nd rfl (Cw rfl) (qI nU (xY mV (pv 0) dX (λ_ _=>rfl)) (pv 1))) (aK (aHj (qI aPx (xY mV (pv 0) dX (λ_ _=>rfl)) (pv 1)) (aNr (pv 0) dX set_list)) (aR (cV (pv 2))))) cC) (aK (aHj (qI uD (xY mV (pv 0) dX (λ_ _=>rfl)) dX) (aNr (pv 0) dX set_list)) (aR (cV (qI nU (aR2 c_twice (hr.mono ∅) rfl bH (aM (xY mV (pv 0) dX (λ_ _=>rfl)) (aM (xY mV (pv 0) dX (λ_ _=>rfl)) aZ))) (pv 1)))))),?_⟩;refine⟨_,rfl,a,_,_,_,rfl,rfl,SqL.of ha,rfl,_,_,rfl,rfl,_,rfl,?_⟩;refine bB5 (λ_=>?_) (λ_=>?_)
  ·refine⟨_,rfl,a,_,_,_,rfl,rfl,SqL.of ha,rfl,_,rfl,_,_,rfl,rfl,hm,?_⟩;refine⟨_,rfl,a,_,_,_,rfl,rfl,SqL.of ha,rfl,_,rfl,_,_,rfl,rfl,⟨hm,hm2⟩,?_⟩;refine⟨_,rfl,a,_,_,0,rfl,rfl,ha,rfl,?_⟩;exact⟨_,rfl,fin _ _ (up _ _ _ eb.refl)⟩
  ·refine⟨_,rfl,a,_,_,_,rfl,rfl,SqL.of ha,rfl,_,_,rfl,rfl,?_⟩;refine⟨_,rfl,a,_,_,1,rfl,rfl,ha,rfl,?_⟩;have hb:(upd H a (.lst ([V.int x,V.int y,V.int z].set 1 (.int (y+1))))) a=some (.lst [.int x,.int (y+1),.int z]):=aJ;have f1:Fw W H (upd H a (.lst ([V.int x,V.int y,V.int z].set 1 (.int (y+1))))):=up _ _ _ eb.refl;refine⟨_,rfl,a,_,_,_,rfl,rfl,SqL.of hb,rfl,_,rfl,a,_,_,_,rfl,rfl,SqL.of hb,rfl,?_⟩;refine⟨W,B,[.n z,.n (y+1)],λs=>∃r:Int,s=.sh (.n r),eb.to f1,⟨_,_,rfl,⟨rfl,rfl⟩,_,_,rfl,⟨rfl,rfl⟩,rfl⟩,⟨_,_,rfl,λr=>⟨r,rfl⟩⟩,λs v H' ⟨r,hs⟩ fw ro=>?_⟩;subst hs;obtain⟨rfl,_⟩:=ro;exact⟨_,rfl,_,_,rfl,rfl,hm,fin _ _ (f1.trans fw)⟩
theorem pull{α:Type}{g:α->U}{p:α->Prop}:∀{xs:List U},(∀x∈xs,∃a,x=g a/\p a)->∃as:List α,xs=as.map g/\∀a∈as,p a
 | [],_=>⟨[],rfl,nofun⟩
 |x::xs,h=>by
  obtain⟨a,rfl,ha⟩:=h x Af;obtain⟨as,rfl,hs⟩:=pull λy hy=>h y (Ae _ hy);exact⟨a::as,rfl,λb hb=>by
   rcases List.mem_cons.mp hb with rfl|hb
   ·exact ha
   ·exact hs b hb⟩
def tO:aL ["_law_cell_here","_law_k","_law_number"] ["_law_cell_here","_law_k"] (aC pZ):={}
def aQl(F:Fun K "_law_mixed" "_law_mixed" pZ f fd):bC P w K mg base CX0 1 f fd ["_law_cell_here","_law_k"] (spV aTw):=by
 refine vfn F tO (λcdv A outer s H E hr=>(aD (bA (i:=2) tO.nd (aX nU jL (aX kZ jL (aX bB bK (aX bB bK (aA 0) (aX kZ jL aG (aA 1))) aG) aG) aG)) (aF (aY (aX nU jL (aX kZ jL (aA 2) (aX bB bK (aX wB jL (aA 2) aG) aG)) aG))))) ?_;rintro _ R ⟨c,k,rfl,q⟩;refine⟨rfl,.inl ⟨⋯,⋯⟩,.inr ⟨⋯,⋯⟩,by show(0:Int)<2147483647;decide,?_⟩;exact⟨⟨⋯,⋯⟩,.inl (aY6 _),by show(0:Int)<2147483647;decide,q _⟩
def tX:aL ["_law_cell_here","_law_k","_law_number"] ["_law_cell_here","_law_k"] (aC pX):={}
def aNt(F:Fun K "_law_twice" "_law_twice" pX f fd)(c__law_mixed:Cal P w K mg base CX0 1 "_law_mixed" ["_law_cell_here","_law_k"] (spV aTw)):bC P w K mg base CX0 2 f fd ["_law_cell_here","_law_k"] (spV aTw):=by
 refine vfn F tX (λcdv A outer s H E hr=>(aD (bA (i:=2) tX.nd (aX nU jL (aX kZ jL (aX bB bK (aX bB bK (aO c__law_mixed (hr.mono ⋯) rfl (aB (aA 0) (aB (aA 1) aH))) (aX kZ jL aG (aA 1))) aG) aG) aG)) (aF (aY (aX nU jL (aX kZ jL (aA 2) (aX bB bK (aX wB jL (aA 2) aG) aG)) aG))))) ?_;rintro _ R ⟨c,k,rfl,q⟩;refine⟨rfl,c,k,rfl,λr=>?_⟩;refine⟨.inl ⟨⋯,⋯⟩,.inr ⟨⋯,⋯⟩,by show(0:Int)<2147483647;decide,?_⟩;exact⟨⟨⋯,⋯⟩,.inl (aY6 _),by show(0:Int)<2147483647;decide,q _⟩
def aPb(K:Ac):Fv:=λus R=>∃(ns:List Int)(k:Nat),us=[.op (aDx K ns),.n (k:Int)]/\∀a b c:Int,R (.ow [.n a,.n b,.n c])
def vU:aL ["_law_script","_law_k","_law_cell_here"] ["_law_script","_law_k"] (aC qO):={}
def aS6(F:Fun K "_law_well" "_law_well" qO f fd)(c__law_cell:Cal P w K mg base CX0 1 "_law_cell" ["_law_script","_law_k"] (spV (aVn K)))(T:Txt mg):bC P w K mg base CX0 2 f fd ["_law_script","_law_k"] (spV (aPb K)):=by
 refine vfn F vU (λcdv A outer s H E hr=>(aD (bA (i:=2) vU.nd (aO c__law_cell (hr.mono ⋯) rfl (aB (aA 0) (aB (aA 1) aH)))) (aF (aY (bZ (aB (bW bF bY (bZ (aB aG (aB (aA 2) aH))) (dH aB1 aNd T.int Tw (aN (aEd bAq cH (aA 2) (aX aQn jL aG aG)) aU))) (aB aG (aB (aX bB bK (aA 2) (aA 1)) aH)))))))) ?_;rintro _ R ⟨ns,k,rfl,q⟩;refine⟨rfl,ns,k,rfl,λn=>?_⟩;have key:∀c:Bool,∃u,atI [U.n 0,U.n n] (if c=true then 1 else 0)=some u/\∃a,u=.n a:=λc=>by
  cases c
  ·exact⟨_,rfl,_,rfl⟩
  ·exact⟨_,rfl,_,rfl⟩
 obtain⟨u,e,a,rfl⟩:=key (decide ((10:Int) ^ (18:Int).toNat<=n));exact⟨⟨⋯,⋯,⋯⟩,_,e,q a 0 _⟩
def aJ1:Fv:=λus R=>us=[.wl]/\∀(ns:List Int)(rs:List Rim),jF ns->rs.length=ns.length->(∀r∈rs,r.ok)->R (.sh (.tp [.ls (ns.map U.n),.ls (rs.map Rim.u)]))
theorem aJw:∀(ns:List Int)(a m:Int),(∀n∈ns,1<=n/\n<=m)->0<=a->1<=m->ns.foldl (λa n=>a*n) a<=a*m ^ ns.length
 | [],a,m,_,_,_=>by simp
 |n::ns,a,m,h,ha,hm=>by
  have h1:=h n Af;have h2:=aJw ns (a*n) m (λk hk=>h k (Ae _ hk)) (Ir ha ∅) hm;rw[Ed,Ah,Int.pow_succ];refine Gn h2 ?_;have hp:0<=m ^ ns.length:=Int.pow_nonneg ∅
  calc a*n*m ^ ns.length<=a*m*m ^ ns.length:=Ma (Mh h1.2 ha) hp
   _=a*(m ^ ns.length*m):=by rw[Int.mul_assoc,Int.mul_comm m]
def aQw{m:Int}(l:ns.length=k)(h:∀n∈ns,1<=n/\n<=m)(hk:(k=1/\m<=9)∨(k=2/\m<=4)∨(k=3/\m<=3)):jF ns:=by
 have hm:∀M:Int,m<=M->∀n∈ns,1<=n/\n<=M:=λM hM n hn=>⟨(h n hn).1,Gn (h n hn).2 hM⟩;have hp:∀M:Int,m<=M->1<=M->rJ ns<=1*M ^ ns.length:=λM hM h1=>aJw ns 1 M (hm M hM) ⋯ h1;rcases hk with ⟨rfl,e⟩|⟨rfl,e⟩|⟨rfl,e⟩
 ·have:=hp 9 e ⋯;rw[l]at this;exact⟨hm 9 e,∅,∅,Gn this ⋯⟩
 ·have:=hp 4 e ⋯;rw[l]at this;exact⟨hm 9 ∅,∅,∅,Gn this ⋯⟩
 ·have:=hp 3 e ⋯;rw[l]at this;exact⟨hm 9 ∅,∅,∅,Gn this ⋯⟩
def fK(lo:Int)(n:Nat):(qJ lo n).length=n:=by simp[qJ]
abbrev wC:List Str:=["_law_well_here","_law_many","_law_most","_law_sizes","_law_rims"]
def gY:aL ["_law_well_here","_law_many","_law_most","_law_sizes","_law_rims"] ["_law_well_here"] (aC jG):={}
def aL1(F:Fun K "_law_lines" "_law_lines" jG f fd)(c__law_draw:Cal P w K mg base CX0 3 "_law_draw" ["_law_well_here","_law_most"] (spV aAm))(T:Txt mg):bC P w K mg base CX0 4 f fd ["_law_well_here"] (spV aJ1):=by
 refine vfn F gY (λcdv A outer s H E hr=>(aD (bA (i:=1) gY.nd (bW bF bY (bZ (aB aG (aB aG (aB aG (aB aG (aB aG aH)))))) (aO c__law_draw (hr.mono ⋯) rfl (aB (aA 0) (aB aG aH))))) (aD (bA (i:=2) gY.nd (bW bF bY (bZ (aB (bW bF bY (bZ (aB aG (aB aG (aB aG aH)))) (aX iJ cH (aA 1) aG)) (aB aG aH))) (aX wB jL (aO c__law_draw (hr.mono ⋯) rfl (aB (aA 0) (aB aG aH))) aG))) (aD (aJh (i:=3) (own:=["_law_k"]) (cap:=[("_law_well_here",0),("_law_most",2)]) gY.nd (aC jG) wC rfl rfl (λx h=>bU h) (by decide+kernel) rfl (vic (jC T.range (aN (aA 1) aU))) (λcl C s2 H2 fp=>(bR (i:=0) (show(["_law_k","_law_well_here","_law_most"]:List Str).Nodup by decide+kernel) rfl (Cw rfl) (Eb rfl))) (dM ⋯) (λcl C s2 H2 fp=>(aX bB bK aG (aO c__law_draw (hr.mono ⋯) rfl (aB (aA 1) (aB (aA 2) aH)))))) (aD (aJh (i:=4) (own:=["_law_k"]) (cap:=[("_law_well_here",0)]) gY.nd (aC jG) wC rfl rfl (λx h=>bU h) (by decide+kernel) rfl (vic (jC T.range (aN (aA 1) aU))) (λcl C s2 H2 fp=>(bR (i:=0) (show(["_law_k","_law_well_here"]:List Str).Nodup by decide+kernel) rfl (Cw rfl) (Eb rfl))) (dM ⋯) (λcl C s2 H2 fp=>(bW bF bY (bZ (aB (cY (aB bO (aB (aO c__law_draw (hr.mono ⋯) rfl (aB (aA 1) (aB aG aH))) aH))) (aB (cY (aB bO aH)) (aB (cY (aB bO aH)) aH)))) (aO c__law_draw (hr.mono ⋯) rfl (aB (aA 1) (aB aG aH)))))) (lR 4 (lR 3 (aF (aY (cY (aB (aA 3) (aB (aA 4) aH)))))))))))) ?_;rintro _ R ⟨rfl,q⟩;refine⟨rfl,5,rfl,⋯,⋯,λr h0 h5=>?_⟩;have key:∃k:Nat,(k=1∨k=2∨k=3)/\atI [U.n 1,U.n 1,U.n 2,U.n 2,U.n 3] r=some (.n (k:Int)):=by
  have:r=0∨r=1∨r=2∨r=3∨r=4:=by lia
  rcases this with rfl|rfl|rfl|rfl|rfl
  ·exact⟨1,⋯,rfl⟩
  ·exact⟨1,⋯,rfl⟩
  ·exact⟨2,⋯,rfl⟩
  ·exact⟨2,⋯,rfl⟩
  ·exact⟨3,⋯,rfl⟩
 obtain⟨k,hk,e⟩:=key;refine⟨_,e,?_⟩;have key2:∃M:Int,atI [U.n 9,U.n 4,U.n 3] ((k:Int)-1)=some (.n M)/\((k=1/\M=9)∨(k=2/\M=4)∨(k=3/\M=3)):=by
  rcases hk with rfl|rfl|rfl
  ·exact⟨9,rfl,⋯⟩
  ·exact⟨4,rfl,⋯⟩
  ·exact⟨3,rfl,⋯⟩
 obtain⟨M,eM,hM⟩:=key2;refine⟨_,eM,4,rfl,⋯,⋯,λr2 h0 h4=>?_⟩;have key3:∃m:Int,atI [U.n M,U.n 2] (r2 / 3)=some (.n m)/\1<=m/\((k=1/\m<=9)∨(k=2/\m<=4)∨(k=3/\m<=3))/\m<=9:=by
  have:r2 / 3=0∨r2 / 3=1:=by lia
  rcases this with h|h
  ·rw[h];exact⟨M,rfl,∅,∅,∅⟩
  ·rw[h];exact⟨2,rfl,∅,∅,∅⟩
 obtain⟨m,em,m1,mk,m9⟩:=key3;refine⟨⟨⋯,⋯⟩,_,em,?_⟩;refine⟨∅,∅,by rw[fK];lia,oM (λx=>∃n:Int,x=.n n/\(1<=n/\n<=m)) (λu hu c hc=>⟨m,rfl,∅,∅,λr3 a b=>hc _ ⟨1+r3,rfl,∅,∅⟩⟩) λxs xl xp=>?_⟩;obtain⟨ns,rfl,hn⟩:=pull xp;rw[Ab,fK]at xl;refine⟨∅,∅,by rw[fK];lia,oM (λx=>∃n:Rim,x=n.u/\n.ok) (λu hu c hc=>?_) λys yl yp=>?_⟩
 ·refine⟨50,rfl,⋯,⋯,λr4 a b=>⟨3,rfl,⋯,⋯,λr5 a5 b5=>?_⟩⟩;have:r5=0∨r5=1∨r5=2:=by lia
  rcases this with rfl|rfl|rfl
  ·exact⟨_,rfl,hc _ ⟨.fixed r4,rfl,by constructor<;>lia⟩⟩
  ·exact⟨_,rfl,hc _ ⟨.mirror,rfl,trivial⟩⟩
  ·exact⟨_,rfl,hc _ ⟨.round,rfl,trivial⟩⟩
 ·obtain⟨rs,rfl,hr⟩:=pull yp;rw[Ab,fK]at yl;exact q ns rs (aQw (k:=k) ∅ hn mk) ∅ hr
def aNo:Fv:=λus R=>∃k:Nat,us=[.wl,.n (k:Int)]/\k<=3/\∀y:Tk,wL y->y.2.length=k->R (.sh (tkU y))
abbrev aFz:List Str:=["_law_well_here","_law_many","_law_far","_law_steps"]
def pH:aL ["_law_well_here","_law_many","_law_far","_law_steps"] ["_law_well_here","_law_many"] (aC mR):={}
def aRf(F:Fun K "_law_take" "_law_take" mR f fd)(c__law_draw:Cal P w K mg base CX0 3 "_law_draw" ["_law_well_here","_law_most"] (spV aAm))(T:Txt mg):bC P w K mg base CX0 4 f fd ["_law_well_here","_law_many"] (spV aNo):=by
 refine vfn F pH (λcdv A outer s H E hr=>(aD (bA (i:=2) pH.nd (bW bF bY (bZ (aB aG (aB aG (aB aG (aB aG aH))))) (aO c__law_draw (hr.mono ⋯) rfl (aB (aA 0) (aB aG aH))))) (aD (bA (i:=3) pH.nd (dH (xZ rfl) aFx T.tuple Mz (aN (lY (own:=["_law_k"]) (cap:=[("_law_well_here",0),("_law_far",2)]) (aC mR) aFz rfl rfl (λx h=>bU h) (by decide+kernel) rfl (vic (jC T.range (aN (aA 1) aU))) (λcl C s2 H2 fp=>(bR (i:=0) (show(["_law_k","_law_well_here","_law_far"]:List Str).Nodup by decide+kernel) rfl (Cw rfl) (Eb rfl))) (dM ⋯) (λcl C s2 H2 fp=>(aX iJ cH (aO c__law_draw (hr.mono ⋯) rfl (aB (aA 1) (aB (aX bB bK (aX kZ jL aG (aA 2)) aG) aH))) (aA 2)))) aU))) (aF (aY (cY (aB (aX bB bK aG (aX nU jL (aX wB jL (aO c__law_draw (hr.mono ⋯) rfl (aB (aA 0) (aB aG aH))) aG) aG)) (aB (aA 3) aH)))))))) ?_;rintro _ R ⟨k,rfl,hk,q⟩;refine⟨rfl,4,rfl,⋯,⋯,λr h0 h4=>?_⟩;have key:∃m:Int,atI [U.n 1,U.n 2,U.n 2,U.n 9] r=some (.n m)/\1<=m/\m<=9:=by
  have:r=0∨r=1∨r=2∨r=3:=by lia
  rcases this with rfl|rfl|rfl|rfl
  ·exact⟨1,rfl,⋯,⋯⟩
  ·exact⟨2,rfl,⋯,⋯⟩
  ·exact⟨2,rfl,⋯,⋯⟩
  ·exact⟨9,rfl,⋯,⋯⟩
 obtain⟨m,em,m1,m9⟩:=key;refine⟨_,em,∅,∅,by rw[fK];lia,oM (λx=>∃n:Int,x=.n n/\(-9<=n/\n<=9)) (λu hu c hc=>⟨.inl ⟨⋯,⋯⟩,2*m+1,rfl,∅,∅,λr3 a b=>hc _ ⟨r3-m,rfl,∅,∅⟩⟩) λxs xl xp=>?_⟩;obtain⟨ss,rfl,hs⟩:=pull xp;rw[Ab,fK]at xl;refine⟨6,rfl,⋯,⋯,λr4 a b=>⟨⟨⋯,⋯⟩,by show(0:Int)<3;decide,?_⟩⟩;exact q (1+r4 / 2 % 3,ss) ⟨by show 1<=1+r4 / 2 % 3;lia,by show 1+r4 / 2 % 3<=3;lia,hs⟩ (by show ss.length=k;lia)
def aYq{a b:Str}{l m:List Nat}(h1:a=tx l)(h2:b=tx m)(hz:l.length+m.length<=10000)(q:R (.sh (.s (tx (l++m))))):aYf (.s a) (.s b) R:=by
 subst h1 h2;exact⟨by rw[gM,gM];exact hz,by rw[gQ];exact q⟩
def yQ{a b:Str}{l m:List Nat}(h1:a=tx l)(h2:b=tx m)(hz:l.length+m.length<=10000):a.length+b.length<=10000:=by rw[h1,h2,gM,gM];exact hz
theorem sI(g:Tm->U):∀(ts:List Tm)(n:Nat),(ts.map g).eraseIdx n=(ts.eraseIdx n).map g
 | [],_=>rfl
 |_::_,0=>rfl
 |a::ts,n+1=>by rw[Au,Gu,Gu,Au,sI g ts n]
def tU(t:Tm):U:=.s (tx (txt t))
def aRc(k:Fin 5):opn k=tx (sgn (opn k)):=aGd _
structure Wd(ys:List Tk)(ts:List Tm):Prop where
 ok:∀t∈ts,lH t
 hs:(ts.map ht).sum<=7
 ps:(ts.map dZ).sum+2*ts.length<=21
 ne:1<=ts.length
 rw_:∀x,x∈ys↔ ∃t∈ts,x∈raw t
theorem jO{g:Tm->Nat}:∀{ts:List Tm}{n:Nat}{t:Tm},ts[n]? =some t->(ts.map g).sum=g t+((ts.eraseIdx n).map g).sum
 | [],_,_,h=>by simp at h
 |a::ts,0,t,h=>by simp at h;subst h;simp
 |a::ts,n+1,t,h=>by
  have:=jO (g:=g) (ts:=ts) (n:=n) (t:=t) (by simpa using h);simp only[Au,Fy,Gu,this]
  lia
def eG{t x:Tm}(h:ts[n]? =some t):x∈ts↔x=t∨x∈ts.eraseIdx n:=by
 induction ts generalizing n with
 |nil=>simp at h
 |cons a ts ih=>
  cases n with
  |zero=>simp at h;subst h;simp
  |succ n=>
   have:=ih (n:=n) (by simpa using h);simp only[Fc,Gu,this];constructor
   ·rintro(h|h|h)<;>simp[h]
   ·rintro(h|h|h)<;>simp[h]
def iM(h:ts[n]? =some t):ts.length=(ts.eraseIdx n).length+1:=by
 have:=(List.getElem?_eq_some_iff.mp h).1;rw[Qb];split<;>lia
def Wd.join{i j:Nat}{a b c:Tm}(w:Wd ys ts)(h1:ts[i]? =some a)(h2:(ts.eraseIdx i)[j]? =some b)(hc:lH c)(hh:ht c<=ht a+ht b)(hp:dZ c<=dZ a+dZ b+2)(hr:∀x,x∈raw c↔x∈raw a∨x∈raw b):Wd ys ((ts.eraseIdx i).eraseIdx j++[c]):=by
 have l1:=iM h1;have l2:=iM h2;refine⟨λt ht=>?_,?_,?_,?_,λx=>?_⟩
 ·rcases List.mem_append.mp ht with h|h
  ·exact w.ok t ((eG h1).mpr (.inr ((eG h2).mpr (.inr h))))
  ·rw[List.mem_singleton.mp h];exact hc
 ·have s1:=jO (g:=ht) h1;have s2:=jO (g:=ht) h2;have:=w.hs;simp only[Bb,Hx,Au,Dg,Fy,Ve]
  lia
 ·have s1:=jO (g:=dZ) h1;have s2:=jO (g:=dZ) h2;have:=w.ps;simp only[Bb,Hx,Au,Dg,Fy,Ve,Ag,Ah,Be]
  lia
 ·rw[Ag];show 1<=_+1;lia
 ·rw[w.rw_ x];constructor
  ·rintro⟨t,h,hx⟩;rcases (eG h1).mp h with rfl|h
   ·exact⟨c,by simp,(hr x).mpr (.inl hx)⟩
   ·rcases (eG h2).mp h with rfl|h
    ·exact⟨c,by simp,(hr x).mpr (.inr hx)⟩
    ·exact⟨t,Gb _ h,hx⟩
  ·rintro⟨t,h,hx⟩;rcases List.mem_append.mp h with h|h
   ·exact⟨t,(eG h1).mpr (.inr ((eG h2).mpr (.inr h))),hx⟩
   ·rw[List.mem_singleton.mp h]at hx;rcases (hr x).mp hx with hx|hx
    ·exact⟨a,(eG h1).mpr (.inl rfl),hx⟩
    ·exact⟨b,(eG h1).mpr (.inr ((eG h2).mpr (.inl rfl))),hx⟩
def Wd.len(w:Wd ys ts)(h:t∈ts):(txt t).length<=1400/\ht t<=7/\dZ t<=19:=by
 have h1:=mQ (w.ok t h);obtain⟨n,hn,e⟩:=Ia h;have hg:ts[n]? =some t:=by rw[Aj hn,e]
 have s1:=jO (g:=ht) hg;have s2:=jO (g:=dZ) hg;have:=w.hs;have:=w.ps;have:=w.ne
 lia
def aIo:Fv:=λus R=>∃ys:List Tk,us=[.wl,.ls (ys.map tkU)]/\ys.length<=6/\(∀y∈ys,wL y/\1<=y.2.length/\y.2.length<=3)/\∀t,lH t->ht t<=7->dZ t<=19->(∀x,x∈ys↔x∈raw t)->R (.sh (tU t))
abbrev aE1:List Str:=["_law_well_here","_law_takes","_law_words","_law_way","_law_one","_law_two"]
def eO:aL ["_law_well_here","_law_takes","_law_words","_law_way","_law_one","_law_two"] ["_law_well_here","_law_takes"] (aC nA):={}
def aOt(F:Fun K "_law_term" "_law_term" nA f fd)(c__law_draw:Cal P w K mg base CX0 3 "_law_draw" ["_law_well_here","_law_most"] (spV aAm))(T:Txt mg):bC P w K mg base CX0 4 f fd ["_law_well_here","_law_takes"] (spV aIo):=by
 refine vfn F eO (λcdv A outer s H E hr=>(aD (aJh (i:=2) (own:=["_law_back","_law_steps"]) (cap:=[]) eO.nd (aC nA) aE1 rfl rfl (λx h=>bU h) (by decide+kernel) rfl (vic (bV (aA 1))) (λcl C s2 H2 fp=>(aDo rfl (mJ (bR (i:=0) (show(["_law_back","_law_steps"]:List Str).Nodup by decide+kernel) rfl (Cw rfl) (Eb rfl)) (mJ (bR (i:=1) (show(["_law_back","_law_steps"]:List Str).Nodup by decide+kernel) rfl (Cw rfl) (Eb rfl)) zQ)))) (aH9 (is:=[0,1]) rfl ⋯) (λcl C s2 H2 fp=>(aX bB bK (aX bB bK bO (aRy bO (aN (aX bB bK (bZ (aB (dH sX aD3 T.str Oj (aN (aA 0) aU)) aH)) (aXn (own:=["_law_step"]) (by decide+kernel) rfl (vic (aMk (aA 1))) (λcl C s2 H2 fp=>(bR (i:=0) (show(["_law_step"]:List Str).Nodup by decide+kernel) rfl (Cw rfl) (Eb rfl))) (dM ⋯) (λcl C s2 H2 fp=>(dH sX aD3 T.str Oj (aN (aA 0) aU))))) aU))) bO))) (aD (bA (i:=2) eO.nd (aX bB bK (aA 2) (bZ (aB (dH sX aD3 T.str Oj (aN (aX iJ cH (aO c__law_draw (hr.mono ⋯) rfl (aB (aA 0) (aB aG aH))) aG) aU)) aH)))) (aD (aA7 Aw (cO tG cH (bD aV dI T.len Dw (aN (aA 2) aU)) aG) (aD (bA (i:=3) eO.nd (aO c__law_draw (hr.mono ⋯) rfl (aB (aA 0) (aB aG aH)))) (aD (aHk (i:=4) 2 eO.nd (aO c__law_draw (hr.mono ⋯) rfl (aB (aA 0) (aB (bD aV dI T.len Dw (aN (aA 2) aU)) aH)))) (aF (dF (cO vH cH (aA 3) aG) (aD (aHk (i:=5) 2 eO.nd (aO c__law_draw (hr.mono ⋯) rfl (aB (aA 0) (aB (bD aV dI T.len Dw (aN (aA 2) aU)) aH)))) (aF (aD9 2 (aX bB bK (aX bB bK (aX bB bK (aX bB bK (aX bB bK (aX bB bK bO (aA 4)) bO) (bW bF bY (bZ (aB bO (aB bO (aB bO (aB bO (aB bO aH)))))) (aA 3))) bO) (aA 5)) bO)))) (aD (aHk (i:=5) 2 eO.nd (aO c__law_draw (hr.mono ⋯) rfl (aB (aA 0) (aB (bD aV dI T.len Dw (aN (aA 2) aU)) aH)))) (aF (aD9 2 (aX bB bK (aX bB bK (aX bB bK (aX bB bK (aX bB bK (aX bB bK bO (aA 4)) bO) (aA 5)) bO) (dH sX aD3 T.str Oj (aN (aO c__law_draw (hr.mono ⋯) rfl (aB (aA 0) (aB aG aH))) aU))) bO))))))))) (aF (aY (bW bF bY (aA 2) aG))))))) ?_;rintro _ R ⟨ys,rfl,yl,yg,q⟩;have b14:∀s:Int,(-9<=s/\s<=9)->(itx s).length<=14/\s.natAbs.log2<1920:=λs h=>⟨sH ∅,xJ ∅⟩;refine⟨rfl,by rw[Ab];lia,?_⟩;have words:∀{f:U->(Option U->Prop)->Prop}{Q:List U->Prop},(∀y∈ys,∀k:Option U->Prop,k (some (tU (.take y.1 y.2)))->f (tkU y) k)->Q (ys.map λy=>tU (.take y.1 y.2))->iK f (ys.map tkU) [] Q:=by
  intro f Q hf hq;have key:∀(zs:List Tk)(acc:List U),(∀y∈zs,∀k:Option U->Prop,k (some (tU (.take y.1 y.2)))->f (tkU y) k)->Q (acc++zs.map λy=>tU (.take y.1 y.2))->iK f (zs.map tkU) acc Q:=by
   intro zs;induction zs with
   |nil=>exactλacc _ q=>by rw[Dg,Bf]at q;exact q
   |cons z zs ih=>exactλacc hf q=>hf z Af _ (ih _ (λy hy=>hf y (Ae _ hy)) (by rw[Bi];exact q))
  exact key ys [] hf hq
 refine words (λy hy k hk=>?_) ?_
 ·obtain⟨⟨g1,g2,g3⟩,g4,g5⟩:=yg y hy;refine⟨rfl,[32],congrArg U.s (bL [32] rfl),(b14 y.1 ∅).2,by rw[Ab];lia,fY (h:=λu=>match u with|.v (.int i)=> .s (tx (itx i))|u=>u) (λu hu c hc=>?_) ?_⟩
  ·obtain⟨s,hs,rfl⟩:=List.mem_map.mp hu;exact⟨(b14 s (g3 s hs)).2,hc⟩
  ·have es:(y.2.map U.n).map (λu=>match u with|.v (.int i)=>U.s (tx (itx i))|u=>u)=aCd (y.2.map itx):=by unfold aCd;rw[Bh,Bh];rfl
   rw[Ec,es];have gl:(glu [32] (itx y.1::y.2.map itx)).length<=(itx y.1::y.2.map itx).length*(14+1):=aD5 [32] _ 14 λl hl=>by
    rcases List.mem_cons.mp hl with rfl|hl
    ·exact(b14 y.1 ∅).1
    ·obtain⟨s,hs,rfl⟩:=List.mem_map.mp hl;exact(b14 s (g3 s hs)).1
   have sl:((itx y.1::y.2.map itx).map Bj).sum<=(itx y.1::y.2.map itx).length*14:=by
    have key:∀ls:List (List Nat),(∀l∈ls,l.length<=14)->(ls.map Bj).sum<=ls.length*14:=by
     intro ls;induction ls with
     |nil=>exactλ_=>Am _
     |cons a ls ih=>
      intro h;have:=ih λl hl=>h l (Ae _ hl);have:=h a Af;rw[Au,Fy,Ah]
      lia
    refine key _ λl hl=>?_;rcases List.mem_cons.mp hl with rfl|hl
    ·exact(b14 y.1 ∅).1
    ·obtain⟨s,hs,rfl⟩:=List.mem_map.mp hl;exact(b14 s (g3 s hs)).1
   have ln:(itx y.1::y.2.map itx).length<=4:=by rw[Ah,Ab];lia
   refine⟨by show 1+(aCd (y.2.map itx)).length<=10000;unfold aCd;rw[Ab,Ab];lia,itx y.1::y.2.map itx,rfl,by show _+_*1<=_;lia,?_⟩;refine aYq (l:=[91]) (bL [91] rfl) rfl (by show 1+_<=_;lia) ?_;refine aYq (R:=λs=>s.es λx=>k (some x)) (m:=[93]) rfl (bL [93] rfl) (by simp only[Ag,Ah,Be];simp only[Ah,Ab]at gl;lia) ?_;exact hk
 ·refine⟨30,rfl,⋯,⋯,λr h0 h1=>⟨xJ ∅,?_⟩⟩;refine⟨by show _+1<=10000;rw[Ab];lia,?_⟩;have w0:Wd ys (ys.map (λy=>Tm.take y.1 y.2)++[.num (r-9)]):=by
   refine⟨λt ht=>?_,?_,?_,by simp,λx=>?_⟩
   ·rcases List.mem_append.mp ht with h|h
    ·obtain⟨y,hy,rfl⟩:=List.mem_map.mp h;exact⟨trivial,λx hx=>by rw[List.mem_singleton.mp hx];exact yg y hy⟩
    ·rw[List.mem_singleton.mp h];exact⟨by simp only[Wf];lia,λx hx=>nomatch hx⟩
   ·have:∀zs:List Tk,((zs.map λy=>Tm.take y.1 y.2).map ht).sum=zs.length:=λzs=>by induction zs with|nil=>rfl|cons a l ih=>rw[Au,Au,Fy,ih,Ah];simp[ht];lia
    rw[Bb,Hx,this];simp[ht];lia
   ·have:∀zs:List Tk,((zs.map λy=>Tm.take y.1 y.2).map dZ).sum=zs.length:=λzs=>by induction zs with|nil=>rfl|cons a l ih=>rw[Au,Au,Fy,ih,Ah];simp[dZ];lia
    rw[Bb,Hx,this,Ag,Ab];simp[dZ];lia
   ·constructor
    ·intro hx;exact⟨.take x.1 x.2,Gb _ (List.mem_map.mpr ⟨x,hx,rfl⟩),Af⟩
    ·rintro⟨t,ht,hx⟩;rcases List.mem_append.mp ht with h|h
     ·obtain⟨y,hy,rfl⟩:=List.mem_map.mp h;rw[List.mem_singleton.mp hx];exact hy
     ·rw[List.mem_singleton.mp h]at hx;exact nomatch hx
  refine⟨λm ρ=>∃(ts:List Tm)(x y z:Sl),m=ts.length/\Wd ys ts/\ρ=[.sh .wl,.sh (.ls (ys.map tkU)),.ow (ts.map tU),x,y,z],⟨_,_,.no,.no,.no,rfl,w0,?_⟩,?_⟩
  ·rw[Bb,Bh];rfl
  ·rintro m ρ ⟨ts,x,y,z,rfl,wd,rfl⟩;have tl:(ts.map tU).length=ts.length:=Ab ..;have t7:ts.length<=10:=by have:=wd.ps;lia
   have tg:∀{n:Nat}{u:Tm},ts[n]? =some u->(ts.map tU)[n]? =some (tU u):=λh=>by rw[Ax,h];rfl
   refine⟨λhc=>?_,λhc=>?_⟩
   ·have hc:=of_decide_eq_true hc;rw[tl]at hc;refine⟨7,rfl,⋯,⋯,λway a0 a7=>?_⟩;refine⟨_,rfl,by rw[tl];lia,by rw[tl];lia,λi i0 i1=>?_⟩;rw[tl]at i1;obtain⟨n,rfl⟩:=Jf i0;obtain⟨a,ha⟩:∃a,ts[n]? =some a:=⟨_,Aj ∅⟩;have ham:=Ba ha;refine⟨n,tU a,rfl,tg ha,∅,?_⟩;have l1:=iM ha;have te:(ts.map tU).eraseIdx n=(ts.eraseIdx n).map tU:=sI ..;have bl:=wd.len ham;refine⟨λhw=>?_,λhw=>?_⟩
    ·refine⟨_,rfl,by rw[te,Ab];lia,by rw[te,Ab];lia,λi2 j0 j1=>?_⟩;rw[te,Ab]at j1;obtain⟨n2,rfl⟩:=Jf j0;obtain⟨b,hb⟩:∃b,(ts.eraseIdx n)[n2]? =some b:=⟨_,Aj ∅⟩;have hbm:b∈ts:=(eG ha).mpr (.inr (Ba hb));have bl2:=wd.len hbm;have l2:=iM hb;refine⟨n2,tU b,rfl,by rw[te,Ax,hb];rfl,by rw[te,Ab];lia,?_⟩;have te2:((ts.map tU).eraseIdx n).eraseIdx n2=((ts.eraseIdx n).eraseIdx n2).map tU:=by rw[te];exact sI ..
     refine⟨by rw[te2,Ab];lia,?_⟩;have hway:=of_decide_eq_true hw;obtain⟨k,hk⟩:∃k:Fin 5,atI [U.s "+",U.s "-",U.s "*",U.s "min",U.s "max"] way=some (.s (opn k)):=by
      have:way=0∨way=1∨way=2∨way=3∨way=4:=by lia
      rcases this with rfl|rfl|rfl|rfl|rfl
      ·exact⟨0,rfl⟩
      ·exact⟨1,rfl⟩
      ·exact⟨2,rfl⟩
      ·exact⟨3,rfl⟩
      ·exact⟨4,rfl⟩
     have ol:=aJq k;have e1:As "("++tx (txt a)=tx ([40]++txt a):=by rw[bL (x:="(") [40] rfl,gQ]
     have e2:As "("++tx (txt a)++As " "=tx ([40]++txt a++[32]):=by rw[e1,bL (x:=" ") [32] rfl,gQ]
     have e3:As "("++tx (txt a)++As " "++opn k=tx ([40]++txt a++[32]++sgn (opn k)):=by
      rw[e2];exact(congrArg (λz=>tx ([40]++txt a++[32])++z) (aRc k)).trans (gQ ..)
     have e4:As "("++tx (txt a)++As " "++opn k++As " "=tx ([40]++txt a++[32]++sgn (opn k)++[32]):=by rw[e3,bL (x:=" ") [32] rfl,gQ]
     have e5:As "("++tx (txt a)++As " "++opn k++As " "++tx (txt b)=tx ([40]++txt a++[32]++sgn (opn k)++[32]++txt b):=by rw[e4,gQ]
     have e6:As "("++tx (txt a)++As " "++opn k++As " "++tx (txt b)++As ")"=tx (txt (.bin k a b)):=by
      rw[e5,bL (x:=")") [41] rfl,gQ];simp[txt]
     refine⟨yQ (bL [40] rfl) rfl (by simp only[Ag,Ah,Be];lia),yQ e1 (bL [32] rfl) (by simp only[Ag,Ah,Be];lia),_,hk,yQ e2 (aRc k) (by simp only[Ag,Ah,Be];lia),yQ e3 (bL [32] rfl) (by simp only[Ag,Ah,Be];lia),yQ e4 rfl (by simp only[Ag,Ah,Be];lia),yQ e5 (bL [41] rfl) (by simp only[Ag,Ah,Be];lia),?_⟩;have okc:lH (.bin k a b):=⟨⟨(wd.ok a ham).1,(wd.ok b hbm).1⟩,λx hx=>(List.mem_append.mp hx).elim ((wd.ok a ham).2 x) ((wd.ok b hbm).2 x)⟩;have pa:=oY a;have pb:=oY b;refine⟨_,?_,_,.sh (.n way),.sh (tU a),.sh (tU b),rfl,wd.join ha hb okc (by simp only[ht];lia) (by simp only[dZ];lia) (λx=>Mo),?_⟩
     ·rw[Ag];show _+1<_;lia
     ·rw[te2,Bb,e6];rfl
    ·refine⟨_,rfl,by rw[te,Ab];lia,by rw[te,Ab];lia,λi2 j0 j1=>?_⟩;rw[te,Ab]at j1;obtain⟨n2,rfl⟩:=Jf j0;obtain⟨b,hb⟩:∃b,(ts.eraseIdx n)[n2]? =some b:=⟨_,Aj ∅⟩;have hbm:b∈ts:=(eG ha).mpr (.inr (Ba hb));have bl2:=wd.len hbm;have l2:=iM hb;refine⟨n2,tU b,rfl,by rw[te,Ax,hb];rfl,by rw[te,Ab];lia,?_⟩;have te2:((ts.map tU).eraseIdx n).eraseIdx n2=((ts.eraseIdx n).eraseIdx n2).map tU:=by rw[te];exact sI ..
     refine⟨by rw[te2,Ab];lia,?_⟩;have e1:As "("++tx (txt a)=tx ([40]++txt a):=by rw[bL (x:="(") [40] rfl,gQ]
     have e2:As "("++tx (txt a)++As " ? "=tx ([40]++txt a++[32,63,32]):=by rw[e1,bL (x:=" ? ") [32,63,32] rfl,gQ]
     have e3:As "("++tx (txt a)++As " ? "++tx (txt b)=tx ([40]++txt a++[32,63,32]++txt b):=by rw[e2,gQ]
     have e4:As "("++tx (txt a)++As " ? "++tx (txt b)++As " : "=tx ([40]++txt a++[32,63,32]++txt b++[32,58,32]):=by rw[e3,bL (x:=" : ") [32,58,32] rfl,gQ]
     refine⟨yQ (bL [40] rfl) rfl (by simp only[Ag,Ah,Be];lia),yQ e1 (bL [32,63,32] rfl) (by simp only[Ag,Ah,Be];lia),yQ e2 rfl (by simp only[Ag,Ah,Be];lia),yQ e3 (bL [32,58,32] rfl) (by simp only[Ag,Ah,Be];lia),9,rfl,⋯,⋯,λc c0 c9=>⟨xJ ∅,?_⟩⟩;have cl:=sH (n:=c) ∅;have e5:As "("++tx (txt a)++As " ? "++tx (txt b)++As " : "++tx (itx c)=tx ([40]++txt a++[32,63,32]++txt b++[32,58,32]++itx c):=by rw[e4,gQ]
     have e6:As "("++tx (txt a)++As " ? "++tx (txt b)++As " : "++tx (itx c)++As ")"=tx (txt (.cho a b (.num c))):=by
      rw[e5,bL (x:=")") [41] rfl,gQ];simp[txt]
     refine⟨yQ e4 rfl (by simp only[Ag,Ah,Be];lia),yQ e5 (bL [41] rfl) (by simp only[Ag,Ah,Be];lia),?_⟩;have okc:lH (.cho a b (.num c)):=⟨⟨(wd.ok a ham).1,(wd.ok b hbm).1,by simp only[Wf];lia⟩,λx hx=>(List.mem_append.mp hx).elim ((wd.ok a ham).2 x) λh=>(List.mem_append.mp h).elim ((wd.ok b hbm).2 x) nofun⟩;have pa:=oY a;have pb:=oY b;refine⟨_,?_,_,.sh (.n way),.sh (tU a),.sh (tU b),rfl,wd.join ha hb okc (by simp only[ht];lia) (by simp only[dZ];lia) (λx=>by simp[raw]),?_⟩
     ·rw[Ag];show _+1<_;lia
     ·rw[te2,Bb,e6];rfl
   ·have hc:=of_decide_eq_false hc;rw[tl]at hc;match ts,wd,hc with
    | [t],wd,_=>
     have:=wd.len (t:=t) (by simp);exact⟨_,rfl,q t (wd.ok t (by simp)) this.2.1 this.2.2 λx=>by rw[wd.rw_ x];simp⟩
    | [],wd,_=>exact absurd wd.ne ⋯
    |_::_::_,_,hc=>rw[Ah,Ah]at hc;lia
structure aQr(ys:List Tk)(n:Nat):Prop where
 gt:∀y∈ys,wL y/\y.2.length=n
 yl:ys.length<=17
 n3:n<=3
def aGl{α:Type}{g:Tk->U}{f:U->(Option U->Prop)->Prop}{Q:List U->Prop}(hf:∀y∈ys,∀k:Option U->Prop,k (some (g y))->f (tkU y) k)(hq:Q (ys.map g)):iK f (ys.map tkU) [] Q:=by
 have key:∀(zs:List Tk)(acc:List U),(∀y∈zs,∀k:Option U->Prop,k (some (g y))->f (tkU y) k)->Q (acc++zs.map g)->iK f (zs.map tkU) acc Q:=by
  intro zs;induction zs with
  |nil=>exactλacc _ q=>by rw[Dg,Bf]at q;exact q
  |cons z zs ih=>exactλacc hf q=>hf z Af _ (ih _ (λy hy=>hf y (Ae _ hy)) (by rw[Bi];exact q))
 exact key ys [] hf hq
def aOz{zs:List Tk}(ok:lH t)(ln:Ln t n)(h:rO t zs):aQr zs n:=⟨λy hy=>⟨(ok.2 y ((h.2 y).mp hy)).1,ln.2.1 y ((h.2 y).mp hy)⟩,yW ln.few h,by have:=ln.1;lia⟩
def aF2(n:Nat)(ns:List Int):U.dts n (ns.map U.n):=by
 induction ns with
 |nil=>cases n<;>trivial
 |cons r rs ih=>cases n<;>exact⟨trivial,ih⟩
def aDt(n:Nat)(ys:List Tk):U.dts (n+2) (ys.map tkU):=by
 induction ys with
 |nil=>trivial
 |cons y ys ih=>exact⟨⟨trivial,aF2 n y.2,trivial⟩,ih⟩
abbrev wNm:List Str:=["sizes","rims","places","rounds","takes","deep","modulus","term","first","spots"]
def wU(ns:List Int)(rs:List Rim)(pl:List U)(r:Int)(ys:List Tk)(dp m:Int)(t:Tm)(ls:List (List Int))(sp:List U):U:=
 .dk wNm [.ls (ns.map U.n),.ls (rs.map Rim.u),.ls pl,.n r,.ls (ys.map tkU),.n dp,.n m,tU t,.ls (iR ls),.ls sp]
def pU(p:List Int):U:=.tp (p.map U.n)
def ext(n:Int)(p:List Int):List (List Int):=(Br n.toNat).map λ(i:Nat)=>p++[0+(i:Int)]
def aBg(ns:List Int):List (List Int):=ns.foldl (λps n=>ps.flatMap (ext n)) [[]]
abbrev plU(ns:List Int):List U:=(aBg ns).map pU
def spU(pl:List U)(n:Nat):List U:=(Br n).flatMap λ(j:Nat)=>pl.map λu=> .tp [.n (1+(j:Int)),u]
structure GoodW(ns:List Int)(rs:List Rim)(r:Int)(ys:List Tk)(m:Int)(t:Tm)(ls:List (List Int)):Prop where
 gj:aT6 ns rs t m r ls
 pr:dZ t<=40
 tk:rO t ys
def aOf(K:Ac):Fv:=λus R=>∃(sc:List Int)(k:Nat)(mo:Int),us=[.op (aDx K sc),.n (k:Int),.n mo]/\1<=mo/\mo<=120/\∀ns rs r ys dp m t ls,GoodW ns rs r ys m t ls->R (.sh (wU ns rs (plU ns) r ys dp m t ls (spU (plU ns) r.toNat)))
def aTx(N:Cn)(CG CJ:Addr):Fv:=λus R=>∃ns rs pl r ys dp m t ls sp,us=[wU ns rs pl r ys dp m t ls sp]/\GoodW ns rs r ys m t ls/\∀zs,rO t zs->R (.sh (uU N CG CJ ns rs t zs m r ls))
theorem aCm{x:Str}{u:U}{R:Sl->Prop}(q:R (.sh u)):∀{xs:List Str}{us:List U}{k:Nat},xs.Nodup->xs[k]? =some x->us[k]? =some u->wQ x xs us R
 | [],_,_,_,h,_=>by simp at h
 |_::_,[],_,_,_,h=>by simp at h
 |a::xs,v::us,0,_,h1,h2=>by
  simp at h1 h2;subst h1 h2;exact .inl ⟨rfl,q⟩
 |a::xs,v::us,k+1,nd,h1,h2=>by
  have h1:xs[k]? =some x:=by simpa using h1
  refine .inr ⟨λe=>?_,aCm q (List.nodup_cons.mp nd).2 h1 (by simpa using h2)⟩;subst e;exact(List.nodup_cons.mp nd).1 (Ba h1)
def wF{x:Str}{us:List U}(k:Nat)(hx:wNm[k]? =some x)(hu:us[k]? =some u)(q:R (.sh u)):wQ x wNm us R:=aCm q (by decide+kernel) hx hu
def yI:aL ["_law_world_here","_law_grid"] ["_law_world_here"] (aC uQ):={}
def aSx{CG CJ:Addr}(F:Fun K "_law_job" "_law_job" uQ f fd)(M_Grid:MkU P w K mg base 5 CG "Grid" ["self","sizes","rims"] aH0)(M_Job:MkU P w K mg base 14 CJ "Job" ["self","grid","term","modulus","rounds","first"] (aHq N CG))(c_read_term:Cal P w K mg base CX0 29 "read_term" ["text"] (spV (aMy N)))(T:Txt mg):bC P w K mg base CX0 30 f fd ["_law_world_here"] (spV (aTx N CG CJ)):=by
 refine vfn F yI (λcdv A outer s H E hr=>(aD (bA (i:=1) yI.nd (aJj M_Grid (hr.mono ⋯) (aB (dH (iG rfl) pR T.list Io (aN (lA (qC hr) (aA 0)) aU)) (aB (dH (iG rfl) pR T.list Io (aN (lA (qC hr) (aA 0)) aU)) aH)))) (aF (aY (aJj M_Job (hr.mono ⋯) (aB (aA 1) (aB (aO c_read_term (hr.mono ⋯) rfl (aB (lA (qC hr) (aA 0)) aH)) (aB (lA (qC hr) (aA 0)) (aB (lA (qC hr) (aA 0)) (aB (lA (qC hr) (aA 0)) aH)))))))))) ?_;rintro _ R ⟨ns,rs,pl,r,ys,dp,m,t,ls,sp,rfl,g,q⟩;refine⟨rfl,wF 0 rfl rfl (wF 1 rfl rfl ⟨ns,rs,rfl,g.gj.gs,g.gj.el,g.gj.rk,?_⟩)⟩;refine wF 7 rfl rfl ⟨t,_,rfl,g.gj.hd,g.gj.ok,g.pr,g.gj.ln,wF 6 rfl rfl (wF 3 rfl rfl (wF 8 rfl rfl ?_))⟩;exact⟨ns,rs,t,m,r,ls,rfl,g.gj,λzs hz=>q zs hz⟩
structure Drawn(ys zs:List Tk)(dp m:Int)(t:Tm)(ls:List (List Int))(n:Nat):Prop where
 so:zs.Pairwise λx y=>iV x y=true
 mem:∀y,y∈zs↔y∈ys
 d1:dp∈(1:Int)::ys.map (·.1)
 dm:∀a∈(1:Int)::ys.map (·.1),a<=dp
 m2:2<=m/\m<=1000000000
 ok:lH t
 hd:ht t<=7
 pr:dZ t<=19
 rw_:∀x,x∈ys↔x∈raw t
 ll:(ls.length:Int)=dp
 lo:∀l∈ls,l.length=n/\∀x∈l,0<=x/\x<m
mutual
theorem aU2:∀{n m:Nat},n<=m->∀u:U,U.dt n u->U.dt m u
 |_,_,_,.v _,_=>by unfold U.dt;trivial
 |n+1,m+1,h,.tp l,t=>aH6 (Pe h) l t
 |n+1,m+1,h,.ls l,t=>aH6 (Pe h) l t
theorem aH6:∀{n m:Nat},n<=m->∀l:List U,U.dts n l->U.dts m l
 |_,_,_,[],_=>by unfold U.dts;trivial
 |_,_,h,u::l,⟨a,b⟩=>⟨aU2 h u a,aH6 h l b⟩
end
theorem aFi(i:Int):∀{l:List U},U.dts 5 l->U.dts 30 (l.map λu=>U.tp [.n i,u])
 | [],_=>trivial
 |u::_,⟨a,b⟩=>⟨⟨trivial,aU2 ⋯ u a,trivial⟩,aFi i b⟩
def rG(pl:List U)(n:Nat):spU pl n++(pl.map λu=> .tp [.n (1+(n:Int)),u])=spU pl (n+1):=by
 unfold spU;rw[List.range_succ,List.flatMap_append];simp
def bBt:TVS:=λE ρ=>∃(a0 a1 a2 a7 a8 a9 a12 a13:Sl)(ns:List Int)(rs:List Rim)(pl:List U)(ys:List Tk)(r:Int),ρ=[a0,a1,a2,.sh .wl,.sh (.ls (ns.map U.n)),.sh (.ls (rs.map Rim.u)),.sh (.ls pl),a7,a8,a9,.sh (.ls (ys.map tkU)),.sh (.n r),a12,a13]/\
 pl.length<=40/\U.dts 5 pl/\ys.length<=6/\(∀y∈ys,wL y/\1<=y.2.length/\y.2.length<=3)/\0<=r/\r<=12/\∀zs dp m t ls,U.dts 30 (spU pl r.toNat)->Drawn ys zs dp m t ls pl.length->E.rt (.sh (wU ns rs pl r zs dp m t ls (spU pl r.toNat)))
abbrev gH:List Str:=["_law_script","_law_k","_law_most","_law_well_here","_law_sizes","_law_rims","_law_places","_law_size","_law_longer","_law_place","_law_takes","_law_rounds","_law_world_here","_law_turn"]
def bG:aL ["_law_script","_law_k","_law_most","_law_well_here","_law_sizes","_law_rims","_law_places","_law_size","_law_longer","_law_place","_law_takes","_law_rounds","_law_world_here","_law_turn"] ["_law_script","_law_k","_law_most"] (aC cB):={}
set_option maxHeartbeats 4000000 in
def suf(T:Txt mg)(c__law_draw:Cal P w K mg base CX0 3 "_law_draw" ["_law_well_here","_law_most"] (spV aAm))(c__law_term:Cal P w K mg base CX0 4 "_law_term" ["_law_well_here","_law_takes"] (spV aIo))(F:Fun K "_law_world" "_law_world" cB f fd)(cdv:Value)(A:Around)(outer:List Env)(s:Shared)(H:Hp)(E:XK)(hr:dG 29 (A.deeper (envOfC "_law_world" (aC cB) s.heap.objs.size f cdv))):
  VSs (aF9 CX0 P w K mg base gH "_law_world" (aC cB) f cdv A outer s H E).nox ((gJ cB).drop 6) bBt:=by
 refine aQi ((aD (bA (i:=12) bG.nd (aR5 (vM (aA 4) (vM (aA 5) (vM (aA 6) (vM (aA 11) (vM (aC5 hr rfl T.sorted T.set (aN (aA 10) aU)) aX0))))) (by decide+kernel) ⋯)) (aD (uZ 12 hr (bD (aLr rfl) aRj T.max boot_max (aN (aX bB bK (bZ (aB aG aH)) (lY (own:=["_law_back","_law_steps"]) (cap:=[]) (aC cB) gH rfl rfl (λx h=>bU h) (by decide+kernel) rfl (vic (bV (aA 10))) (λcl C s2 H2 fp=>(aDo rfl (mJ (bR (i:=0) (show(["_law_back","_law_steps"]:List Str).Nodup by decide+kernel) rfl (Cw rfl) (Eb rfl)) (mJ (bR (i:=1) (show(["_law_back","_law_steps"]:List Str).Nodup by decide+kernel) rfl (Cw rfl) (Eb rfl)) zQ)))) (aH9 (is:=[0,1]) rfl ⋯) (λcl C s2 H2 fp=>(aA 0)))) aU))) (aD (uZ 12 hr (aX bB bK aG (aO c__law_draw (hr.mono ⋯) rfl (aB (aA 3) (aB (bW bF bY (bZ (aB aG (aB (aX iJ cH (aX aQn jL aG aG) aG) aH))) (aO c__law_draw (hr.mono ⋯) rfl (aB (aA 3) (aB aG aH)))) aH))))) (aD (uZ 12 hr (aO c__law_term (hr.mono ⋯) rfl (aB (aA 3) (aB (aA 10) aH)))) (aD (aPe 12 hr (bZ aH)) (aD (dC Aw rfl (jC T.range (aN (aEm hr (aA 12)) aU)) (cX (i:=13) bG.nd) (aF (aSq 12 hr (lY (own:=["_law_place"]) (cap:=[("_law_well_here",3),("_law_world_here",12)]) (aC cB) gH rfl rfl (λx h=>bU h) (by decide+kernel) rfl (vic (bV (aA 6))) (λcl C s2 H2 fp=>(bR (i:=0) (show(["_law_place","_law_well_here","_law_world_here"]:List Str).Nodup by decide+kernel) rfl (Cw rfl) (Eb rfl))) (dM ⋯) (λcl C s2 H2 fp=>(aO c__law_draw (hr.mono ⋯) rfl (aB (aA 1) (aB (aEm hr (aA 2)) aH)))))))) (aWe 12 (aD (uZ 12 hr (bZ aH)) (aD (dC Aw rfl (xM T.range (aN aG (aN (aX bB bK (aA 11) aG) aU))) (cX (i:=13) bG.nd) (aF (uZ 12 hr (aX bB bK (aEm hr (aA 12)) (lY (own:=["_law_place"]) (cap:=[("_law_turn",13)]) (aC cB) gH rfl rfl (λx h=>bU h) (by decide+kernel) rfl (vic (bV (aA 6))) (λcl C s2 H2 fp=>(bR (i:=0) (show(["_law_place","_law_turn"]:List Str).Nodup by decide+kernel) rfl (Cw rfl) (Eb rfl))) (dM ⋯) (λcl C s2 H2 fp=>(cY (aB (aA 1) (aB (aA 0) aH))))))))) (aR9 12 (aF (eU 12))))))))))))) λE ρ h=>?_;obtain⟨a0,a1,a2,a7,a8,a9,a12,a13,ns,rs,pl,ys,r,rfl,pl40,pdt,yl,yg,r0,r12,q⟩:=h;refine⟨ys,rfl,∅,λzs z1 z2=>?_⟩;refine⟨by rw[Ab];lia,aGl (g:=λy=>U.n y.1) (α:=Unit) (λy hy k hk=>⟨rfl,hk⟩) ⟨?_,(1:Int)::ys.map (·.1),?_,nofun,λdp dp1 dpm=>⟨_,_,rfl,⋯,.inl ⟨by decide+kernel,?_⟩⟩⟩⟩
 ·show 1+_<=10000;rw[Ab];lia
 ·show [U.ls ([U.n 1]++_)]=_;rw[Au,Bh];rfl
 have key:∀r:Int,0<=r->r<2->∃M:Int,atI [U.n 9,U.n (10 ^ (9:Int).toNat-1)] r=some (.n M)/\0<M/\M<=999999999:=λr h0 h2=>by
  have:r=0∨r=1:=by lia
  rcases this with rfl|rfl
  ·exact⟨9,rfl,⋯,⋯⟩
  ·exact⟨_,rfl,⋯,⋯⟩
 refine⟨⟨⋯,⋯,⋯⟩,2,rfl,⋯,⋯,λr1 a b=>?_⟩;obtain⟨M,eM,M0,M9⟩:=key r1 a b;refine⟨_,eM,M,rfl,M0,∅,λr2 c2 d2=>⟨_,_,rfl,⋯,.inl ⟨by decide+kernel,?_⟩⟩⟩;refine⟨ys,rfl,yl,yg,λt t1 t2 t3 t4=>⟨_,_,rfl,⋯,.inl ⟨by decide+kernel,?_⟩⟩⟩;refine⟨[],_,_,rfl,rfl,⋯,by decide+kernel,?_⟩;have dp0:1<=dp:=dpm 1 Af;have dp3:dp<=3:=by
  rcases List.mem_cons.mp dp1 with rfl|h
  ·decide
  ·obtain⟨y,hy,rfl⟩:=List.mem_map.mp h;exact(yg y hy).1.2.1
 refine .inr ⟨_,_,_,_,rfl,show wQ "deep" (wNm.take 8) _ _ from aCm (xs:=wNm.take 8) (u:=.n dp) (k:=5) ⟨∅,∅,?_⟩ (by decide+kernel) rfl rfl⟩;refine bM (λl ρ=>∃(k:Nat)(rows:List (List Int))(x:Sl),l=(Iz k (dp.toNat-k)).map (λi:Nat=>U.n (0+(i:Int)))/\k<=dp.toNat/\rows.length=k/\(∀l∈rows,l.length=pl.length/\∀x∈l,0<=x/\x<2+r2)/\ρ=[a0,a1,a2,.sh .wl,.sh (.ls (ns.map U.n)),.sh (.ls (rs.map Rim.u)),.sh (.ls pl),a7,a8,a9,.sh (.ls (ys.map tkU)),.sh (.n r),.oo (dlO (wNm.take 8) [.ls (ns.map U.n),.ls (rs.map Rim.u),.ls pl,.n r,.ls (zs.map tkU),.n dp,.n (2+r2),tU t] "first" (iR rows)),x]) ?_ ?_ ⟨0,[],_,by rw[Jw, <-Ga];rfl,Ay _,rfl,nofun,rfl⟩
 ·rintro ρ ⟨k,rows,x,e,hk,rk,hrow,rfl⟩;have ek:k=dp.toNat:=by
   have:=congrArg Bj e;simp at this
   lia
  refine⟨_,_,_,_,rfl,rfl,_,_,rfl,⋯,.inl ⟨by decide+kernel,⟨∅,∅,∅,∅⟩,?_⟩⟩;refine bM (λl ρ=>∃(k:Nat)(x:Sl),l=(Iz k (r.toNat-k)).map (λi:Nat=>U.n (1+(i:Int)))/\k<=r.toNat/\(spU pl k).length<=40*k/\U.dts 30 (spU pl k)/\ρ=[a0,a1,a2,.sh .wl,.sh (.ls (ns.map U.n)),.sh (.ls (rs.map Rim.u)),.sh (.ls pl),a7,a8,a9,.sh (.ls (ys.map tkU)),.sh (.n r),.oo (dkO (wNm.take 9++[("spots":Str)]) ([.ls (ns.map U.n),.ls (rs.map Rim.u),.ls pl,.n r,.ls (zs.map tkU),.n dp,.n (2+r2),tU t,.ls (iR rows)]++[.ls (spU pl k)])),x]) ?_ ?_ ⟨0,_,by rw[Jw, <-Ga,show(r+1-1)=r by lia];rfl,Ay _,Am _,trivial,rfl⟩
  ·rintro ρ ⟨k',x,e,hk',_,hd,rfl⟩;have:k'=r.toNat:=by
    have:=congrArg Bj e;simp at this
    lia
   subst this;exact⟨_,_,rfl,q zs dp _ t rows hd ⟨z1,z2,dp1,dpm,⟨∅,∅⟩,t1,t2,t3,t4,∅,hrow⟩⟩
  ·rintro u l ρ ⟨k',x,e,hk',hl,hd,rfl⟩ ih;have hlt:k'<r.toNat:=by
    have:=congrArg Bj e;simp at this
    lia
   rw[show r.toNat-k'=(r.toNat-(k'+1))+1 by lia,Gh,Au]at e;obtain⟨rfl,rfl⟩:=Bs e;refine .inl ⟨_,_,rfl,show wQ "spots" (wNm.take 10) _ _ from aCm (xs:=wNm.take 10) (u:=.ls (spU pl k')) (k:=9) ?_ (by decide+kernel) rfl rfl⟩;refine⟨∅,fY (h:=λu=> .tp [.n (1+(k':Int)),u]) (λu hu c hc=>hc) ⟨?_,_,_,rfl,⋯,.inr ⟨_,_,_,rfl,rfl,rfl,by decide+kernel,ih _ ⟨k'+1,_,rfl,hlt,?_,?_,by rw[<-rG];rfl⟩⟩⟩⟩
   ·rw[Ec,Ab];lia
   ·rw[<-rG,Ag,Ab];lia
   ·rw[<-rG];exact aJs hd (aFi _ pdt)
 ·rintro u l ρ ⟨k,rows,x,e,hk,rk,hrow,rfl⟩ ih;have hlt:k<dp.toNat:=by
   have:=congrArg Bj e;simp at this
   lia
  rw[show dp.toNat-k=(dp.toNat-(k+1))+1 by lia,Gh,Au]at e;obtain⟨rfl,rfl⟩:=Bs e;refine⟨_,_,_,rfl,by decide+kernel,by rw[show(iR rows).length=rows.length from Ab ..];lia,∅,oM (λx=>∃n:Int,x=.n n/\(0<=n/\n<2+r2)) (λu hu c hc=> .inr ⟨_,_,_,_,rfl,show wQ "modulus" (wNm.take 8) _ _ from aCm (xs:=wNm.take 8) (u:=.n (2+r2)) (k:=6) ⟨2+r2,rfl,∅,∅,λr a b=>hc _ ⟨r,rfl,a,b⟩⟩ (by decide+kernel) rfl rfl⟩) λxs xl xp=>?_⟩;obtain⟨l,rfl,hl⟩:=pull xp;refine ih _ ⟨k+1,rows++[l],.sh (.n (0+(k:Int))),rfl,hlt,by rw[Ag,rk];rfl,λx hx=>(List.mem_append.mp hx).elim (hrow x) λz=>by rw[List.mem_singleton.mp z];exact⟨by rw[Ab]at xl;exact xl,hl⟩,?_⟩;rw[show iR (rows++[l])=iR rows++[.ls (l.map U.n)]from Bb ..];rfl
theorem aI7:∀(ns:List Int)(a:Int),(∀n∈ns,1<=n)->0<=a->a<=ns.foldl (λa n=>a*n) a
 | [],a,_,_=>Nj a
 |n::ns,a,h,h0=>by
  have h1:=h n Af;have h2:a<=a*n:=by
   have:=Mh h1 h0
   rwa [Xk]at this
  exact Gn h2 (aI7 ns (a*n) (λm hm=>h m (Ae _ hm)) (Gn h0 h2))
def PlU(k:Nat)(u:U):Prop:=∃is:List Int,u=.tp (is.map U.n)/\is.length<=k
mutual
theorem aZ8:∀(n:Nat)(u:U),U.dt n u->Nw u
 |_,.v _,_=>by unfold Nw;trivial
 |n+1,.tp l,h=>pW n l h
 |n+1,.ls l,h=>pW n l h
theorem pW:∀(n:Nat)(l:List U),U.dts n l->Nws l
 |_,[],_=>by unfold Nws;trivial
 |n,u::l,⟨a,b⟩=>⟨aZ8 n u a,pW n l b⟩
end
theorem aG6:∀(l:List U){k:Nat},(∀u∈l,PlU k u)->U.dts 5 l
 | [],_,_=>trivial
 |u::l,_,h=>by
  obtain⟨is,rfl,_⟩:=h u Af;exact⟨aF2 4 is,aG6 l λu hu=>h u (Ae _ hu)⟩
def aQy(F:Fun K "_law_world" "_law_world" cB f fd)(c__law_well:Cal P w K mg base CX0 2 "_law_well" ["_law_script","_law_k"] (spV (aPb K)))(c__law_lines:Cal P w K mg base CX0 4 "_law_lines" ["_law_well_here"] (spV aJ1))(c__law_take:Cal P w K mg base CX0 4 "_law_take" ["_law_well_here","_law_many"] (spV aNo))(c__law_draw:Cal P w K mg base CX0 3 "_law_draw" ["_law_well_here","_law_most"] (spV aAm))(c__law_term:Cal P w K mg base CX0 4 "_law_term" ["_law_well_here","_law_takes"] (spV aIo))(T:Txt mg):bC P w K mg base CX0 30 f fd ["_law_script","_law_k","_law_most"] (spV (aOf K)):=by
 refine vfn F bG (λcdv A outer s H E hr=>(aD (bA (i:=3) bG.nd (aO c__law_well (hr.mono ⋯) rfl (aB (aA 0) (aB (aA 1) aH)))) (aP0 3 (aD (aWu (aO c__law_lines (hr.mono ⋯) rfl (aB (aA 3) aH)) (wO rfl (fG (i:=4) bG.nd (fG (i:=5) bG.nd sU)))) (aD (bA (i:=6) bG.nd (bZ (aB (cY aH) aH))) (lR 6 (aD (dC Aw rfl (bV (aA 4)) (cX (i:=7) bG.nd) (aD (bA (i:=8) bG.nd (bZ aH)) (aD (dC Aw rfl (bV (aA 6)) (cX (i:=9) bG.nd) (aF (bA (i:=8) bG.nd (aX bB bK (aA 8) (lY (own:=["_law_x"]) (cap:=[("_law_place",9)]) (aC cB) gH rfl rfl (λx h=>bU h) (by decide+kernel) rfl (vic (jC T.range (aN (aA 7) aU))) (λcl C s2 H2 fp=>(bR (i:=0) (show(["_law_x","_law_place"]:List Str).Nodup by decide+kernel) rfl (Cw rfl) (Eb rfl))) (dM ⋯) (λcl C s2 H2 fp=>(aX bB bK (aA 1) (cY (aB (aA 0) aH))))))))) (lR 8 (aF (bA (i:=6) bG.nd (aA 8))))))) (aD (aJh (i:=10) (own:=["_law_j"]) (cap:=[("_law_well_here",3),("_law_sizes",4)]) bG.nd (aC cB) gH rfl rfl (λx h=>bU h) (by decide+kernel) rfl (vic (jC T.range (aN (bW bF bY (bZ (aB aG (aB aG (aB aG (aB aG (aB aG (aB aG aH))))))) (aO c__law_draw (hr.mono ⋯) rfl (aB (aA 3) (aB aG aH)))) aU))) (λcl C s2 H2 fp=>(bR (i:=0) (show(["_law_j","_law_well_here","_law_sizes"]:List Str).Nodup by decide+kernel) rfl (Cw rfl) (Eb rfl))) (dM ⋯) (λcl C s2 H2 fp=>(aO c__law_take (hr.mono ⋯) rfl (aB (aA 1) (aB (bD aV dI T.len Dw (aN (aA 2) aU)) aH))))) (lR 10 (aD (bA (i:=11) bG.nd (bD (aLd rfl) aVe T.min boot_min (aN (bW bF bY (bZ (aB (aO c__law_draw (hr.mono ⋯) rfl (aB (aA 3) (aB aG aH))) (aB (aX iJ cH aG (aO c__law_draw (hr.mono ⋯) rfl (aB (aA 3) (aB aG aH)))) aH))) (aO c__law_draw (hr.mono ⋯) rfl (aB (aA 3) (aB aG aH)))) (aN (aX wB jL (aA 2) (bD aV dI T.len Dw (aN (aA 6) aU))) aU)))) (suf T c__law_draw c__law_term F cdv A outer s H E hr))))))))))) ?_;rintro _ R ⟨sc,k,mo,rfl,mo1,mo2,q⟩;refine⟨rfl,sc,k,rfl,λa b c=>⟨rfl,λns rs gs el rk=>⟨rfl,?_⟩⟩⟩;have l3:=gs.l3;have l1:=gs.l1;have mn:=gs.mn;refine bM (λl ρ=>∃(ms:List Int)(pl:List U)(x7 x8 x9:Sl),l=ms.map U.n/\(∀n∈ms,1<=n/\n<=9)/\ms.foldl (λa n=>a*n) (pl.length:Int)=rJ ns/\1<=pl.length/\(∀u∈pl,PlU (3-ms.length) u)/\(∃ps,pl=ps.map pU/\ms.foldl (λps n=>ps.flatMap (ext n)) ps=aBg ns)/\ms.length<=3/\ρ=[.sh (.op (aDx K sc)),.sh (.n k),.sh (.n mo),.sh .wl,.sh (.ls (ns.map U.n)),.sh (.ls (rs.map Rim.u)),.sh (.ls pl),x7,x8,x9,.no,.no,.no,.no]) ?_ ?_ ⟨ns,[.tp []],_,_,_,rfl,gs.ok,rfl,Am _,λu hu=>⟨[],by rw[List.mem_singleton.mp hu];rfl,Ay _⟩,⟨[[]],rfl,rfl⟩,l3,rfl⟩
 ·rintro ρ ⟨ms,pl,x7,x8,x9,em,_,hp,p1,hpl,⟨ps,epl,eps⟩,_,rfl⟩;obtain rfl:ms=[]:=List.map_eq_nil_iff.mp em.symm;have eps:ps=aBg ns:=eps;rw[eps]at epl;have hp:(pl.length:Int)=rJ ns:=hp;have key:∀r:Int,0<=r->r<6->∃n:Nat,atI [U.n 0,U.n 1,U.n 2,U.n 3,U.n 4,U.n 6] r=some (.n (n:Int))/\n<=6:=λr h0 h6=>by
   have:r=0∨r=1∨r=2∨r=3∨r=4∨r=5:=by lia
   rcases this with rfl|rfl|rfl|rfl|rfl|rfl
   ·exact⟨0,rfl,⋯⟩
   ·exact⟨1,rfl,⋯⟩
   ·exact⟨2,rfl,⋯⟩
   ·exact⟨3,rfl,⋯⟩
   ·exact⟨4,rfl,⋯⟩
   ·exact⟨6,rfl,⋯⟩
  refine⟨6,rfl,⋯,⋯,λr0 a0 b0=>?_⟩;obtain⟨n,en,n6⟩:=key r0 a0 b0;refine⟨_,en,∅,∅,by rw[fK];lia,oM (λx=>∃y:Tk,x=tkU y/\(wL y/\y.2.length=ns.length)) (λu hu c hc=>⟨ns.length,by rw[Ab],l3,λy h1 h2=>hc _ ⟨y,rfl,h1,h2⟩⟩) λxs xl xp=>?_⟩;obtain⟨ys,rfl,hy⟩:=pull xp;rw[Ab,fK]at xl;have yl:ys.length<=6:=by lia
  refine⟨13,rfl,⋯,⋯,λr1 a1 b1=>⟨3,rfl,⋯,⋯,λr2 a2 b2=>⟨2,rfl,⋯,⋯,λr3 a3 b3=>?_⟩⟩⟩;have key2:∃z:Int,atI [U.n r1,U.n (12-r2)] r3=some (.n z)/\0<=z/\z<=12:=by
   have:r3=0∨r3=1:=by lia
   rcases this with rfl|rfl
   ·exact⟨r1,rfl,∅,∅⟩
   ·exact⟨12-r2,rfl,∅,∅⟩
  obtain⟨z,ez,z0,z12⟩:=key2;refine⟨_,ez,?_⟩;refine⟨⟨∅,∅⟩,?_⟩;have hL:(1:Int)<=pl.length:=by lia
  have hd:mo / pl.length*pl.length<=mo:=Int.ediv_mul_le mo ∅;have hd0:0<=mo / pl.length:=Int.ediv_nonneg ∅ ∅;have rr:∃r:Int,(if mo / pl.length<z then mo / pl.length else z)=r/\0<=r/\r<=12/\r*rJ ns<=120:=by
   refine⟨_,rfl,?_,?_,?_⟩
   ·split<;>lia
   ·split<;>lia
   ·rw[<-hp];split
    ·lia
    ·rename_i h;have:z*pl.length<=mo / pl.length*pl.length:=Ma ∅ ∅
     lia
  obtain⟨r,er,r0',r12,rp⟩:=rr;have yg:∀y∈ys,wL y/\1<=y.2.length/\y.2.length<=3:=λy h=>by have:=hy y h;exact⟨this.1,∅,∅⟩
  refine⟨_,_,_,_,_,_,_,_,ns,rs,pl,ys,r,by rw[<-er];rfl,∅,aG6 pl hpl,yl,yg,r0',r12,λzs dp m t ls sd dr=>⟨⟨pW 5 _ (vD ns),pW 5 _ (aI3 rs),pW 5 _ (aG6 pl hpl),trivial,pW 7 _ (aH7 zs),trivial,trivial,trivial,pW 6 _ (aJx ls),pW 30 _ sd,trivial⟩,?_⟩⟩;show R (.sh (wU ns rs pl r zs dp m t ls (spU pl r.toNat)));rw[epl];refine q ns rs r zs dp m t ls ⟨⟨gs,el,rk,by have:=dr.hd;lia,dr.ok,by have:=dr.pr;lia,⟨∅,λx hx=>(hy x ((dr.rw_ x).mpr hx)).2,ys,yl,λx hx=>(dr.rw_ x).mpr hx⟩,dr.m2,⟨r0',r12⟩,rp,λys' hy'=>?_,?_,λl hl=>?_⟩,by have:=dr.pr;lia,dr.so,λx=>(dr.mem x).trans (dr.rw_ x)⟩
  ·rw[dr.ll];have mem:∀y,y∈ys'↔y∈ys:=λy=>(hy'.2 y).trans (dr.rw_ y).symm;have d1:=dr.d1;have dm:=dr.dm;by_cases e:ys'=[]
   ·have:ys=[]:=List.eq_nil_iff_forall_not_mem.mpr λy h=>by
     have:=(mem y).mpr h;rw[e]at this;cases this
    subst this;have:dp=1:=List.mem_singleton.mp d1;rw[e,this];rfl
   ·refine(aQk (λy h=>?_) ?_ λa ha=>?_).symm
    ·have:=(yg y ((mem y).mp h)).1.1;lia
    ·rcases List.mem_cons.mp d1 with e1|h
     ·obtain⟨y,l,rfl⟩:=List.exists_cons_of_ne_nil e;have h1:=(mem y).mp Af;have h2:=(yg y h1).1.1;have h3:=dm y.1 (Ae _ (List.mem_map.mpr ⟨y,h1,rfl⟩));exact List.mem_map.mpr ⟨y,Af,by show y.1=dp;lia⟩
     ·obtain⟨y,h1,rfl⟩:=List.mem_map.mp h;exact List.mem_map.mpr ⟨y,(mem y).mpr h1,rfl⟩
    ·obtain⟨y,h1,rfl⟩:=List.mem_map.mp ha;exact dm y.1 (Ae _ (List.mem_map.mpr ⟨y,(mem y).mp h1,rfl⟩))
  ·have h:=dr.ll;have d1:=dr.d1;rcases List.mem_cons.mp d1 with e1|h
   ·lia
   ·obtain⟨y,h1,rfl⟩:=List.mem_map.mp h;have:=(yg y h1).1.2.1
    lia
  ·obtain⟨h1,h2⟩:=dr.lo l hl;exact⟨by rw[h1];exact hp,∅,h2⟩
 ·rintro u l ρ ⟨ms0,pl,x7,x8,x9,em,hm,hp,p1,hpl,⟨ps,epl,eps⟩,ml,rfl⟩ ih;cases ms0 with
  |nil=>cases em
  |cons n ms=>
   obtain⟨rfl,rfl⟩:=Bs em;obtain⟨n1,n9⟩:=hm n Af;have hm':∀x∈ms,1<=x/\x<=9:=λx hx=>hm x (Ae _ hx);have hp':ms.foldl (λa n=>a*n) ((pl.length:Int)*n)=rJ ns:=hp;have ge:=aI7 ms ((pl.length:Int)*n) (λx hx=>(hm' x hx).1) (Ir ∅ ∅);have ml':ms.length+1<=3:=ml;show mX (uB 9) _ _ pl _;refine bM (λl2 ρ=>∃(lg:List U)(x9:Sl),ρ=[.sh (.op (aDx K sc)),.sh (.n k),.sh (.n mo),.sh .wl,.sh (.ls (ns.map U.n)),.sh (.ls (rs.map Rim.u)),.sh (.ls pl),.sh (.n n),.ow lg,x9,.no,.no,.no,.no]/\(∀u∈l2,PlU (3-(ms.length+1)) u)/\(lg.length:Int)+l2.length*n=pl.length*n/\(∀u∈lg,PlU (3-ms.length) u)/\∃qs rest:List (List Int),lg=qs.map pU/\l2=rest.map pU/\qs++rest.flatMap (ext n)=ps.flatMap (ext n)) ?_ ?_ ⟨[],_,rfl,hpl,by simp,nofun,[],ps,rfl,epl,rfl⟩
   ·rintro ρ ⟨lg,x9,rfl,_,hl,hg,qs,rest,eq,er,ee⟩;obtain rfl:rest=[]:=List.map_eq_nil_iff.mp er.symm;rw[Sd,Bf]at ee;have hl:(lg.length:Int)=pl.length*n:=by simpa using hl
    refine ih _ ⟨ms,lg,_,_,_,rfl,hm',by rw[hl];exact hp',?_,hg,⟨qs,eq,by rw[ee];exact eps⟩,∅,rfl⟩;have:(1:Int)*1<=pl.length*n:=Ue ∅ n1 ⋯ ∅
    lia
   ·rintro u2 l2 ρ ⟨lg,x9,rfl,h2,hl,hg,qs,rest0,eq,er,ee⟩ ih2;obtain⟨is,rest,rfl⟩:∃is rest,rest0=is::rest:=by
     cases rest0 with
     |nil=>cases er
     |cons a b=>exact⟨a,b,rfl⟩
    obtain⟨e2,er2⟩:=Bs er;subst e2;obtain⟨is',ei,il⟩:=h2 _ Af;have il:is.length<=3-(ms.length+1):=by
     have:=congrArg (λu=>match u with|U.tp l=>l.length|_=>0) ei;simp[pU]at this
     lia
    rw[Ah]at hl;have hl':(lg.length:Int)+n+l2.length*n=pl.length*n:=by
     rw[<-hl];have:((l2.length+1:Nat):Int)*n=l2.length*n+n:=by rw[Jy,Qy];simp
     lia
    have h20:0<=(l2.length:Int)*n:=Ir ∅ ∅;have ex:(qJ 0 n.toNat).map (λu=>U.tp (is.map U.n++[u]))=(ext n is).map pU:=by
     unfold qJ ext;rw[Bh,Bh];refine Hz λi _=>?_;show U.tp _=U.tp _;rw[Bb];rfl
    have exl:((ext n is).map pU).length=n.toNat:=by rw[<-ex,Ab,fK]
    refine⟨∅,∅,by rw[fK];lia,fY (h:=λu=>U.tp (is.map U.n++[u])) (λu hu c hc=>⟨by rw[Ab];show _+1<=10000;lia,hc⟩) ⟨?_,?_⟩⟩
    ·show lg.length+([]++_).length<=10000;rw[Ec,ex,exl];lia
    ·rw[Ec,ex];refine ih2 _ ⟨lg++(ext n is).map pU,_,rfl,λu hu=>h2 u (Ae _ hu),?_,λu hu=>(List.mem_append.mp hu).elim (hg u) λhu=>?_,qs++ext n is,rest,by rw[Bb,eq],er2,by rw[Bi];exact ee⟩
     ·rw[Ag,exl]
      lia
     ·obtain⟨p,hp,rfl⟩:=List.mem_map.mp hu;refine⟨p,rfl,?_⟩;obtain⟨i,_,rfl⟩:=List.mem_map.mp hp;rw[Ag];show _+1<=_;lia
def byR:Rim->Int->Int->Option Int
 |.fixed _,s,x=>if 0<=x/\x<s then some x else none
 |.mirror,s,x=>if 0<=x/\x<s then some x else some (mir s x)
 |.round,s,x=>if 0<=x/\x<s then some x else some (x % s)
def oU:Option Int->U
 |none=> .no
 |some i=> .n i
def aY8:Fv:=λus R=>∃(r:Rim)(s x:Int),us=[r.u,.n s,.n x]/\0<s/\s<=9/\R (.sh (oU (byR r s x)))
def xK:aL ["rim","size","number"] ["rim","size","number"] (aC kJ):={}
def aXu(F:Fun K "number_by_rim" "number_by_rim" kJ f fd)(c_mirrored:Cal P w K mg base CX0 1 "mirrored" ["size","number"] (spV aZn)):bC P w K mg base CX0 2 f fd ["rim","size","number"] (spV aY8):=by
 refine vfn F xK (λcdv A outer s H E hr=>(aD (dF (vO wJ vH cH cH aG (aA 2) (aA 1)) (aF (eU 2)) bN) (aD (dF (cO (lW (huD hr)) lG (bW bF bY (aA 0) aG) bO) (aF (aY (aX nU jL (aA 2) (aA 1)))) bN) (aD (dF (cO (lW (huD hr)) lG (bW bF bY (aA 0) aG) bO) (aF (aY (aO c_mirrored (hr.mono ⋯) rfl (aB (aA 1) (aB (aA 2) aH))))) bN) (aF (aY pI)))))) ?_;rintro _ R ⟨r,s,x,rfl,h1,h2,q⟩;refine⟨rfl,?_⟩;have fin:(0<=x/\x<s)->R (.sh (.n x)):=λh=>by
  have:byR r s x=some x:=by cases r<;>exact if_pos h
  rw[this]at q;exact q
 have no:∀{k:Bool},k=false->¬k=true:=λh z=>by rw[h]at z;cases z
 refine⟨λh=>⟨λh'=>fin ⟨of_decide_eq_true h,of_decide_eq_true h'⟩,λh'=>?_⟩,λh=>⟨nofun,λ_=>?_⟩⟩
 all_goals
  have nn:¬(0<=x/\x<s):=λz=>by first|exact absurd z.2 (of_decide_eq_false h')|exact absurd z.1 (of_decide_eq_false h)
  clear fin;cases r with
  |fixed c=>
   rw[show byR (.fixed c) s x=none from if_neg nn]at q;exact⟨_,rfl,trivial,trivial,λz=>absurd z (no (by decide+kernel)),λ_=>⟨_,rfl,trivial,trivial,λz=>absurd z (no (by decide+kernel)),λ_=>q⟩⟩
  |mirror=>
   rw[show byR .mirror s x=some (mir s x)from if_neg nn]at q;exact⟨_,rfl,trivial,trivial,λz=>absurd z (no (by decide+kernel)),λ_=>⟨_,rfl,trivial,trivial,λ_=>⟨s,x,rfl,h1,∅,q⟩,λz=>absurd (show _=true by decide+kernel) (no z)⟩⟩
  |round=>
   rw[show byR .round s x=some (x % s)from if_neg nn]at q;exact⟨_,rfl,trivial,trivial,λ_=>⟨h1,q⟩,λz=>absurd (show _=true by decide+kernel) (no z)⟩
def Rim.c:Rim->Int
 |.fixed c=>c
 |_=>0
def bes:List Int->List Rim->List Int->List Int->Except Int (List Int)
 |n::ns,r::rs,i::is,s::ss=>match byR r n (i+s)with
  |none=> .error r.c
  |some x=>match bes ns rs is ss with
   |.error c=> .error c
   |.ok l=> .ok (x::l)
 |_,_,_,_=> .ok []
def bBx:Except Int (List Int)->U
 |.error c=> .tp [.s "rim",.n c]
 |.ok l=> .tp [.s "place",.tp (l.map U.n)]
def pre(xs:List Int):Except Int (List Int)->Except Int (List Int)
 |.error c=> .error c
 |.ok l=> .ok (xs++l)
def aZ7(C:Addr):Fv:=λus R=>∃(ns:List Int)(rs:List Rim)(is ss:List Int),us=[grU C ns rs,.tp (is.map U.n),.tp (ss.map U.n)]/\jF ns/\rs.length=ns.length/\is.length=ns.length/\ss.length=ns.length/\R (.sh (bBx (bes ns rs is ss)))
def fO:aL ["self","place","steps","numbers","line","rim","number"] ["self","place","steps"] (aC nZ):={}
def aVr(F:Fun K "beside" "Grid.beside" nZ f fd)(cG:Cfl K C ["sizes","rims"])(c_number_by_rim:Cal P w K mg base CX0 2 "number_by_rim" ["rim","size","number"] (spV aY8))(T:Txt mg):bC P w K mg base CX0 3 f fd ["self","place","steps"] (spV (aZ7 C)):=by
 refine vfn F fO (λcdv A outer s H E hr=>(aD (bA (i:=3) fO.nd (bZ aH)) (aD (dC Aw rfl (zB T.enumerate (aB (dO cG (aA 0)) aH)) (wO rfl (fG (i:=4) fO.nd (fG (i:=5) fO.nd sU))) (aD (bA (i:=6) fO.nd (aO c_number_by_rim (hr.mono ⋯) rfl (aB (aA 5) (aB (bW bF bY (dO cG (aA 0)) (aA 4)) (aB (aX bB bK (bW bF bY (aA 1) (aA 4)) (bW bF bY (aA 2) (aA 4))) aH))))) (aD (dF (aXm (aA 6)) (aF (aY (cY (aB bO (aB (bW bF bY (aA 5) aG) aH))))) bN) (aF (aD9 3 (aA 6)))))) (aF (aY (cY (aB bO (aB (dH (xZ rfl) aFx T.tuple Mz (aN (aA 3) aU)) aH)))))))) ?_;rintro _ R ⟨ns,rs,is,ss,rfl,gs,el,il,sl,q⟩;refine⟨rfl,rfl,.inr ⟨by decide+kernel,.inl ⟨rfl,?_⟩⟩⟩;refine bM (λl ρ=>∃(k:Nat)(qs:List Rim)(xs:List Int)(x y z:Sl),l=(qs.map Rim.u |>.zipIdx k).map (λx=> .tp [.n (x.2:Nat),x.1])/\ρ=[.sh (grU C ns rs),.sh (.tp (is.map U.n)),.sh (.tp (ss.map U.n)),.ow (xs.map U.n),x,y,z]/\k+qs.length=ns.length/\xs.length=k/\bes ns rs is ss=pre xs (bes (ns.drop k) qs (is.drop k) (ss.drop k))) ?_ ?_ ⟨0,rs,[],_,_,_,rfl,rfl,∅,rfl,by rw[Hh,Hh,Hh];cases bes ns rs is ss<;>rfl⟩
 ·rintro ρ ⟨k,qs,xs,x,y,z,e,rfl,hk,_,hb⟩;have:qs=[]:=by
   cases qs with
   |nil=>rfl
   |cons _ _=>cases e
  subst this;have h0:ns.drop k=[]:=List.drop_eq_nil_iff.mpr (by rw[Be]at hk;lia);rw[hb,h0]at q;have:bes [] [] (is.drop k) (ss.drop k)=.ok []:=rfl;rw[this]at q;have q:R (.sh (.tp [.s "place",.tp ((xs++[]).map U.n)])):=q;rw[Bf]at q;exact q
 ·rintro u l ρ ⟨k,qs,xs,x,y,z,e,rfl,hk,xk,hb⟩ ih;match qs,e,hk,hb with
  |r::qs,e,hk,hb=>
   cases e;rw[Ah]at hk;have hn:k<ns.length:=by lia
   have hi:k<is.length:=by lia
   have hs:k<ss.length:=by lia
   have ok:=gs.ok _ (Dz hn);have at_:∀{l:List Int}(h:k<l.length),atI (l.map U.n) (k:Int)=some (U.n l[k]):=λ{l} h=>sO (by rw[Ax,Aj h];rfl);rw[Bd hn,Bd hi,Bd hs]at hb;have hb':bes ns rs is ss=pre xs (match byR r ns[k] (is[k]+ss[k])with
    |none=> .error r.c
    |some x=>match bes (ns.drop (k+1)) qs (is.drop (k+1)) (ss.drop (k+1))with
     |.error c=> .error c
     |.ok l=> .ok (x::l)):=hb
   refine⟨rfl,rfl,.inl ⟨rfl,_,at_ hn,_,at_ hi,_,at_ hs,r,ns[k],is[k]+ss[k],rfl,∅,∅,?_⟩⟩;cases hy:byR r ns[k] (is[k]+ss[k])with
   |none=>
    rw[hy]at hb';have hb':bes ns rs is ss=.error r.c:=hb';rw[hb']at q;refine⟨λ_=>?_,nofun⟩;cases r with
    |fixed c=>exact⟨_,rfl,q⟩
    |mirror=>exact absurd hy (by simp only[byR];split<;>nofun)
    |round=>exact absurd hy (by simp only[byR];split<;>nofun)
   |some v=>
    rw[hy]at hb';refine⟨nofun,λ_=>?_⟩;refine⟨?_,ih _ ⟨k+1,qs,xs++[v],_,_,_,rfl,by rw[Bb];rfl,∅,by rw[Ag,xk];rfl,?_⟩⟩
    ·rw[Ab,xk];have:=gs.l3;lia
    ·rw[hb'];cases bes (ns.drop (k+1)) qs (is.drop (k+1)) (ss.drop (k+1))with
     |error c=>rfl
     |ok l=>show Ro _=Ro _;rw[Bi];rfl
variable {CG CJ:Addr}
def whr(ns:List Int)(rs:List Rim)(q y:Tk):U:=match bes ns rs q.2 y.2 with
 |.error c=> .tp [.s "rim",.n c]
 |.ok l=>if 0<q.1-y.1 then .tp [.s "spot",tkU (q.1-y.1,l)]else .tp [.s "first",tkU (q.1-y.1,l)]
def aM5(N:Cn)(CG CJ:Addr):Fv:=λus R=>∃ns rs t ys m r ls,∃q y:Tk,us=[uU N CG CJ ns rs t ys m r ls,tkU q,tkU y]/\jF ns/\rs.length=ns.length/\q.2.length=ns.length/\y.2.length=ns.length/\R (.sh (whr ns rs q y))
def pP:aL ["self","spot","take","beside","round_at"] ["self","spot","take"] (aC qR):={}
def aQ1(F:Fun K "where" "Job.where" qR f fd)(cJ:Cfl K CJ ["taken","grid","term","modulus","rounds","first"])(D_beside:Dis P w K mg base CX0 3 (·=CG) "beside" ["self","place","steps"] λ_=>spV (aZ7 CG))(T:Txt mg):bC P w K mg base CX0 4 f fd ["self","spot","take"] (spV (aM5 N CG CJ)):=by
 refine vfn F pP (λcdv A outer s H E hr=>(aD (bA (i:=3) pP.nd (aEu (dO cJ (aA 0)) D_beside (hr.mono ⋯) (aB (bW bF bY (aA 1) aG) (aB (bW bF bY (aA 2) aG) aH)))) (aD (dF (cO (lW (huD hr)) lG (bW bF bY (aA 3) aG) bO) (aF (eU 3)) bN) (aD (bA (i:=4) pP.nd (aX iJ cH (bW bF bY (aA 1) aG) (bW bF bY (aA 2) aG))) (aD (dF (cO tG cH (aA 4) aG) (aF (aY (cY (aB bO (aB (cY (aB (aA 4) (aB (bW bF bY (aA 3) aG) aH))) aH))))) bN) (aF (aY (cY (aB bO (aB (cY (aB (aA 4) (aB (bW bF bY (aA 3) aG) aH))) aH)))))))))) ?_;rintro _ R ⟨ns,rs,t,ys,m,r,ls,q0,y,rfl,gs,el,ql,yl,q⟩;have no:∀{k:Bool},k=false->¬k=true:=λh z=>by rw[h]at z;cases z
 refine⟨rfl,rfl,.inr ⟨by decide+kernel,.inl ⟨rfl,rfl,rfl,_,rfl,_,rfl,ns,rs,q0.2,y.2,rfl,gs,el,ql,yl,?_⟩⟩⟩;unfold whr at q;cases hb:bes ns rs q0.2 y.2 with
 |error c=>
  rw[hb]at q;exact⟨_,rfl,trivial,trivial,λ_=>q,λz=>absurd (show _=true by decide+kernel) (no z)⟩
 |ok l=>
  rw[hb]at q;refine⟨_,rfl,trivial,trivial,λz=>absurd z (no (by decide+kernel)),λ_=>⟨_,rfl,_,rfl,λz=>?_,λz=>?_⟩⟩
  ·have q:R (.sh (if 0<q0.1-y.1 then .tp [.s "spot",tkU (q0.1-y.1,l)]else .tp [.s "first",tkU (q0.1-y.1,l)])):=q;rw[if_pos (of_decide_eq_true z)]at q;exact⟨_,rfl,q⟩
  ·have q:R (.sh (if 0<q0.1-y.1 then .tp [.s "spot",tkU (q0.1-y.1,l)]else .tp [.s "first",tkU (q0.1-y.1,l)])):=q;rw[if_neg (of_decide_eq_false z)]at q;exact⟨_,rfl,q⟩
def rdU(ns:List Int)(rs:List Rim)(q y:Tk):U:=.tp [tkU y,whr ns rs q y]
def aN1(N:Cn)(CG CJ:Addr):Fv:=λus R=>∃ns rs t ys m r ls,∃q:Tk,us=[uU N CG CJ ns rs t ys m r ls,tkU q]/\jF ns/\rs.length=ns.length/\q.2.length=ns.length/\(∀y∈ys,y.2.length=ns.length)/\ys.length<=17/\R (.ow (ys.map (rdU ns rs q)))
abbrev zU:List Str:=["self","spot"]
def yU:aL ["self","spot"] ["self","spot"] (aC iQ):={}
def aNb(F:Fun K "reads_of" "Job.reads_of" iQ f fd)(cJ:Cfl K CJ ["taken","grid","term","modulus","rounds","first"])(D_where:Dis P w K mg base CX0 4 (·=CJ) "where" ["self","spot","take"] λ_=>spV (aM5 N CG CJ))(T:Txt mg):bC P w K mg base CX0 5 f fd ["self","spot"] (spV (aN1 N CG CJ)):=by
 refine vfn F yU (λcdv A outer s H E hr=>(aF (aY (lY (own:=["take"]) (cap:=[("self",0),("spot",1)]) (aC iQ) zU rfl rfl (λx h=>bU h) (by decide+kernel) rfl (vic (bV (dO cJ (aA 0)))) (λcl C s2 H2 fp=>(bR (i:=0) (show(["take","self","spot"]:List Str).Nodup by decide+kernel) rfl (Cw rfl) (Eb rfl))) (dM ⋯) (λcl C s2 H2 fp=>(cY (aB (aA 0) (aB (aEu (aA 1) D_where (hr.mono ⋯) (aB (aA 2) (aB (aA 0) aH))) aH)))))))) ?_;rintro _ R ⟨ns,rs,t,ys,m,r,ls,q0,rfl,gs,el,ql,yl,yn,q⟩;exact⟨rfl,rfl,.inl ⟨rfl,by rw[Ab];lia,aGl (α:=Unit) (g:=rdU ns rs q0) (λy hy k hk=>⟨rfl,rfl,ns,rs,t,ys,m,r,ls,q0,y,rfl,gs,el,ql,yl y hy,hk⟩) q⟩⟩
def jH(ns:List Int)(rs:List Rim)(q y:Tk):Option Tk:=match bes ns rs q.2 y.2 with
 |.error _=>none
 |.ok l=>if 0<q.1-y.1 then some (q.1-y.1,l)else none
def aR0(ns:List Int)(rs:List Rim)(ys:List Tk)(q:Tk)(zs:List Tk):Prop:=zs.Pairwise (λx y=>iV x y=true)/\∀z,z∈zs↔z∈ys.filterMap (jH ns rs q)
def aQt(N:Cn)(CG CJ:Addr):Fv:=λus R=>∃ns rs t ys m r ls,∃q:Tk,us=[uU N CG CJ ns rs t ys m r ls,tkU q]/\jF ns/\rs.length=ns.length/\q.2.length=ns.length/\(∀y∈ys,y.2.length=ns.length)/\ys.length<=17/\∀zs,aR0 ns rs ys q zs->R (.ow (zs.map tkU))
def aTk{g:Tk->U}{h:Tk->Option Tk}{f:U->(Option U->Prop)->Prop}{Q:List U->Prop}(hf:∀y∈ys,∀k:Option U->Prop,k ((h y).map tkU)->f (g y) k)(hq:Q ((ys.filterMap h).map tkU)):iK f (ys.map g) [] Q:=by
 have key:∀(zs:List Tk)(acc:List U),(∀y∈zs,∀k:Option U->Prop,k ((h y).map tkU)->f (g y) k)->Q (acc++(zs.filterMap h).map tkU)->iK f (zs.map g) acc Q:=by
  intro zs;induction zs with
  |nil=>exactλacc _ q=>by rw[List.filterMap_nil,Dg,Bf]at q;exact q
  |cons z zs ih=>
   intro acc hf q;refine hf z Af _ ?_;cases hz:h z with
   |none=>
    rw[List.filterMap_cons_none hz]at q;exact ih _ (λy hy=>hf y (Ae _ hy)) q
   |some x=>
    rw[List.filterMap_cons_some hz]at q;exact ih _ (λy hy=>hf y (Ae _ hy)) (by rw[Bi];exact q)
 exact key ys [] hf hq
abbrev aIa:List Str:=["job","spot"]
def aGa:aL ["job","spot"] ["job","spot"] (aC pD):={}
def aPn(F:Fun K "leans_of" "leans_of" pD f fd)(D_reads_of:Dis P w K mg base CX0 5 (·=CJ) "reads_of" ["self","spot"] λ_=>spV (aN1 N CG CJ))(T:Txt mg):bC P w K mg base CX0 6 f fd ["job","spot"] (spV (aQt N CG CJ)):=by
 refine vfn F aGa (λcdv A outer s H E hr=>(aF (aY (aC5 hr rfl T.sorted T.set (aN (aVx (own:=["take","where"]) (cap:=[]) (aC pD) aIa rfl rfl (λx h=>bU h) (by decide+kernel) rfl (vic (bV (aEu (aA 0) D_reads_of (hr.mono ⋯) (aB (aA 1) aH)))) (λcl C s2 H2 fp=>(aDo rfl (mJ (bR (i:=0) (show(["take","where"]:List Str).Nodup by decide+kernel) rfl (Cw rfl) (Eb rfl)) (mJ (bR (i:=1) (show(["take","where"]:List Str).Nodup by decide+kernel) rfl (Cw rfl) (Eb rfl)) zQ)))) (aH9 (is:=[0,1]) rfl ⋯) (λcl C s2 H2 fp=>(cO (lW (huD hr)) lG (bW bF bY (aA 1) aG) bO)) (λcl C s2 H2 fp=>(bW bF bY (aA 1) aG))) aU))))) ?_;rintro _ R ⟨ns,rs,t,ys,m,r,ls,q0,rfl,gs,el,ql,yl,yn,q⟩;have no:∀{k:Bool},k=false->¬k=true:=λh z=>by rw[h]at z;cases z
 have yes:∀{k:Bool}{p:Prop},k=true->k=false->p:=λh z=>by rw[h]at z;cases z
 refine⟨rfl,rfl,rfl,ns,rs,t,ys,m,r,ls,q0,rfl,gs,el,ql,yl,yn,by rw[Ab];lia,?_⟩;refine aTk (g:=rdU ns rs q0) (h:=jH ns rs q0) (λy hy k hk=>?_) ?_
 ·refine⟨rfl,?_⟩;unfold jH at hk;show gIx (whr ns rs q0 y) (.n 0) _;unfold whr;cases hb:bes ns rs q0.2 y.2 with
  |error c=>
   rw[hb]at hk;exact⟨_,rfl,trivial,trivial,λz=>absurd z (no (by decide+kernel)),λ_=>hk⟩
  |ok l=>
   rw[hb]at hk;by_cases hp:0<q0.1-y.1
   ·have hk:k ((if 0<q0.1-y.1 then some (q0.1-y.1,l)else none:Option Tk).map tkU):=hk;rw[if_pos hp]at hk;simp only[if_pos hp];exact⟨_,rfl,trivial,trivial,λ_=>⟨_,rfl,hk⟩,λz=>yes (by decide+kernel) z⟩
   ·have hk:k ((if 0<q0.1-y.1 then some (q0.1-y.1,l)else none:Option Tk).map tkU):=hk;rw[if_neg hp]at hk;simp only[if_neg hp];exact⟨_,rfl,trivial,trivial,λz=>absurd z (no (by decide+kernel)),λ_=>hk⟩
 ·have hl:(ys.filterMap (jH ns rs q0)).length<=17:=Cc (List.length_filterMap_le _ _) yn;exact⟨_,rfl,∅,λzs h1 h2=>q zs ⟨h1,h2⟩⟩
def aUf:Fv:=λus R=>∃(ps:List (List Int))(n:Int),us=[.ls (ps.map pU),.n n]/\0<=n/\n<=9/\(ps.flatMap (ext n)).length<=1000/\(∀p∈ps,p.length<=3)/\R (.ow ((ps.flatMap (ext n)).map pU))
def lM:aL ["places","size","longer","place","number"] ["places","size"] (aC rP):={}
def aRw(F:Fun K "with_line" "with_line" rP f fd)(T:Txt mg):bC P w K mg base CX0 1 f fd ["places","size"] (spV aUf):=by
 refine vfn F lM (λcdv A outer s H E hr=>(aD (bA (i:=2) lM.nd (bZ aH)) (aD (dC Aw rfl (bV (aA 0)) (cX (i:=3) lM.nd) (aF (dC Aw rfl (jC T.range (aN (aA 1) aU)) (cX (i:=4) lM.nd) (aF (aD9 2 (aX bB bK (aA 3) (cY (aB (aA 4) aH)))))))) (aF (eU 2))))) ?_;rintro _ R ⟨ps,n,rfl,n0,n9,hl,hp,q⟩;refine⟨rfl,?_⟩;show mX (uB 3) _ _ (ps.map pU) _;refine bM (λl ρ=>∃(qs rest:List (List Int))(x y:Sl),l=rest.map pU/\ρ=[.sh (.ls (ps.map pU)),.sh (.n n),.ow (qs.map pU),x,y]/\(∀p∈rest,p.length<=3)/\qs++rest.flatMap (ext n)=ps.flatMap (ext n)) ?_ ?_ ⟨[],ps,_,_,rfl,rfl,hp,rfl⟩
 ·rintro ρ ⟨qs,rest,x,y,e,rfl,_,ee⟩;obtain rfl:rest=[]:=List.map_eq_nil_iff.mp e.symm;rw[Sd,Bf]at ee;rw[<-ee]at q;exact q
 ·rintro u l ρ ⟨qs,rest0,x,y,e,rfl,h3,ee⟩ ih;cases rest0 with
  |nil=>cases e
  |cons p rest=>
   obtain⟨rfl,rfl⟩:=Bs e;have p3:=h3 p Af;refine⟨∅,∅,?_⟩;refine bM (λl ρ=>∃(js:List Nat)(qs':List (List Int))(y:Sl),l=js.map (λi:Nat=>U.n (0+(i:Int)))/\ρ=[.sh (.ls (ps.map pU)),.sh (.n n),.ow (qs'.map pU),.sh (pU p),y]/\qs'++js.map (λi:Nat=>p++[0+(i:Int)])=qs++ext n p) ?_ ?_ ⟨Br n.toNat,qs,_,rfl,rfl,rfl⟩
   ·rintro ρ ⟨js,qs',y,e,rfl,e2⟩;obtain rfl:js=[]:=List.map_eq_nil_iff.mp e.symm;rw[Dg,Bf]at e2;exact ih _ ⟨qs',rest,_,_,rfl,rfl,λp hp=>h3 p (Ae _ hp),by rw[e2,Bi];exact ee⟩
   ·rintro u l ρ ⟨js0,qs',y,e,rfl,e2⟩ ih2;cases js0 with
    |nil=>cases e
    |cons j js=>
     obtain⟨rfl,rfl⟩:=Bs e;have l2:=congrArg Bj e2;have l3:=congrArg Bj ee;simp only[Ag,Le,Ab,Ah]at l2 l3;refine⟨by rw[Ab];lia,by rw[Ab];show _+1<=10000;lia,?_⟩;have e3:(qs'.map pU++[U.tp (p.map U.n++[U.n (0+(j:Int))])])=(qs'++[p++[0+(j:Int)]]).map pU:=by
      rw[Bb];show _=_++[U.tp ((p++[0+(j:Int)]).map U.n)];rw[Bb];rfl
     exact ih2 _ ⟨js,qs'++[p++[0+(j:Int)]],.sh (.n (0+(j:Int))),rfl,by rw[<-e3];rfl,by rw[Bi];exact e2⟩
theorem aCn:∀(ms:List Int)(ps:List (List Int)),(∀n∈ms,1<=n)->ps.length<=(ms.foldl (λps n=>ps.flatMap (ext n)) ps).length
 | [],_,_=>Am _
 |n::ms,ps,h=>by
  refine Cc ?_ (aCn ms (ps.flatMap (ext n)) λm hm=>h m (Ae _ hm));have h1:=h n Af;have el:∀p,(ext n p).length=n.toNat:=λp=>by unfold ext;rw[Ab,Da]
  clear h;induction ps with
  |nil=>exact Ay _
  |cons p ps ih=>
   rw[Le,Ag,el,Ah]
   lia
def aT0(C:Addr):Fv:=λus R=>∃ns rs,us=[grU C ns rs]/\jF ns/\(aBg ns).length<=40/\∀s,s=.ow (plU ns)∨s=.sh (.ls (plU ns))->R s
def eX:aL ["self","places","size"] ["self"] (aC iY):={}
def aR4(F:Fun K "all_places" "Grid.all_places" iY f fd)(cG:Cfl K C ["sizes","rims"])(c_with_line:Cal P w K mg base CX0 1 "with_line" ["places","size"] (spV aUf))(T:Txt mg):bC P w K mg base CX0 2 f fd ["self"] (spV (aT0 C)):=by
 refine vfn F eX (λcdv A outer s H E hr=>(aD (bA (i:=1) eX.nd (bZ (aB (cY aH) aH))) (aD (dC Aw rfl (bV (dO cG (aA 0))) (cX (i:=2) eX.nd) (lR 1 (aF (bA (i:=1) eX.nd (aO c_with_line (hr.mono ⋯) rfl (aB (aA 1) (aB (aA 2) aH))))))) (aF (eU 1))))) ?_;rintro _ R ⟨ns,rs,rfl,gs,hl,q⟩;refine⟨rfl,rfl,.inl ⟨rfl,?_⟩⟩;show mX (uB 2) _ _ (ns.map U.n) _;have l3:=gs.l3;refine bM (λl ρ=>∃(ms:List Int)(ps:List (List Int))(s x:Sl),l=ms.map U.n/\(s=.ow (ps.map pU)∨s=.sh (.ls (ps.map pU)))/\ρ=[.sh (grU C ns rs),s,x]/\(∀n∈ms,1<=n/\n<=9)/\(∀p∈ps,p.length+ms.length<=3)/\ms.foldl (λps n=>ps.flatMap (ext n)) ps=aBg ns) ?_ ?_ ⟨ns,[[]],_,_,rfl,.inl rfl,rfl,gs.ok,λp hp=>by rw[List.mem_singleton.mp hp];show 0+_<=3;lia,rfl⟩
 ·rintro ρ ⟨ms,ps,s,x,e,hs,rfl,_,_,ee⟩;obtain rfl:ms=[]:=List.map_eq_nil_iff.mp e.symm;have ee:ps=aBg ns:=ee;subst ee;rcases hs with rfl|rfl
  ·exact q _ (.inl rfl)
  ·exact q _ (.inr rfl)
 ·rintro u l ρ ⟨ms0,ps,s,x,e,hs,rfl,hm,h3,ee⟩ ih;cases ms0 with
  |nil=>cases e
  |cons n ms=>
   obtain⟨rfl,rfl⟩:=Bs e;have hn:=hm n Af;have hm':∀x∈ms,1<=x/\x<=9:=λx hx=>hm x (Ae _ hx);have ee:ms.foldl (λps n=>ps.flatMap (ext n)) (ps.flatMap (ext n))=aBg ns:=ee;have le:=aCn ms (ps.flatMap (ext n)) λx hx=>(hm' x hx).1;rw[ee]at le;have nx:=ih [.sh (grU C ns rs),.ow ((ps.flatMap (ext n)).map pU),.sh (.n n)] ⟨ms,ps.flatMap (ext n),_,_,rfl,.inl rfl,rfl,hm',λp hp=>by
    obtain⟨p0,h0,h1⟩:=List.mem_flatMap.mp hp;obtain⟨i,_,rfl⟩:=List.mem_map.mp h1;have:=h3 p0 h0;rw[Ah]at this;rw[Ag];show _+1+_<=3;lia,ee⟩
   rcases hs with rfl|rfl
   ·exact⟨ps,n,rfl,∅,∅,∅,λp hp=>by have:=h3 p hp;lia,nx⟩
   ·exact⟨ps,n,rfl,∅,∅,∅,λp hp=>by have:=h3 p hp;lia,nx⟩
def aJm(pl:List U)(n:Nat)(h:pl.length<=40):(spU pl n).length<=40*n:=by
 induction n with
 |zero=>exact Am _
 |succ n ih=>
  rw[<-rG,Ag,Ab]
  lia
def aVf(N:Cn)(CG CJ:Addr):Fv:=λus R=>∃ns rs t ys m r ls,us=[uU N CG CJ ns rs t ys m r ls]/\jF ns/\(aBg ns).length<=40/\0<=r/\r<=12/\R (.ow (spU (plU ns) r.toNat))
abbrev yL:List Str:=["self","places","spots","round_at"]
def fZ:aL ["self","places","spots","round_at"] ["self"] (aC gZ):={}
def aS0(F:Fun K "all_spots" "Job.all_spots" gZ f fd)(cJ:Cfl K CJ ["taken","grid","term","modulus","rounds","first"])(D_all_places:Dis P w K mg base CX0 2 (·=CG) "all_places" ["self"] λ_=>spV (aT0 CG))(T:Txt mg):bC P w K mg base CX0 3 f fd ["self"] (spV (aVf N CG CJ)):=by
 refine vfn F fZ (λcdv A outer s H E hr=>(aD (bA (i:=1) fZ.nd (cI (dO cJ (aA 0)) D_all_places (hr.mono ⋯))) (lR 1 (aD (bA (i:=2) fZ.nd (bZ aH)) (aD (dC Aw rfl (xM T.range (aN aG (aN (aX bB bK (dO cJ (aA 0)) aG) aU))) (cX (i:=3) fZ.nd) (aF (aOy 2 (lY (own:=["place"]) (cap:=[("round_at",3)]) (aC gZ) yL rfl rfl (λx h=>bU h) (by decide+kernel) rfl (vic (bV (aA 1))) (λcl C s2 H2 fp=>(bR (i:=0) (show(["place","round_at"]:List Str).Nodup by decide+kernel) rfl (Cw rfl) (Eb rfl))) (dM ⋯) (λcl C s2 H2 fp=>(cY (aB (aA 1) (aB (aA 0) aH)))))))) (aF (eU 2))))))) ?_;rintro _ R ⟨ns,rs,t,ys,m,r,ls,rfl,gs,hl,r0,r12,q⟩;have pl40:(plU ns).length<=40:=by rw[Ab];exact hl
 have main:mX (uB 3) (aV1 2 (aGw 1 [("round_at",3)] (vLs (aQ4 1)) (uB 0) (aZc (aJb (aQ4 1) (aJb (aQ4 0) aPq))))) {nx:=aPw 2 {nx:=λ_=>R (.sh .no),rt:=R},rt:=R} (qJ 1 (r+1-1).toNat) [.sh (uU N CG CJ ns rs t ys m r ls),.sh (.ls (plU ns)),.ow [],.no]:=by
  refine bM (λl ρ=>∃(k:Nat)(x:Sl),l=(Iz k (r.toNat-k)).map (λi:Nat=>U.n (1+(i:Int)))/\k<=r.toNat/\ρ=[.sh (uU N CG CJ ns rs t ys m r ls),.sh (.ls (plU ns)),.ow (spU (plU ns) k),x]) ?_ ?_ ⟨0,_,by rw[Jw, <-Ga,show(r+1-1)=r by lia];rfl,Ay _,rfl⟩
  ·rintro ρ ⟨k,x,e,hk,rfl⟩;have:k=r.toNat:=by
    have:=congrArg Bj e;simp at this
    lia
   subst this;exact q
  ·rintro u l ρ ⟨k,x,e,hk,rfl⟩ ih;have hlt:k<r.toNat:=by
    have:=congrArg Bj e;simp at this
    lia
   rw[show r.toNat-k=(r.toNat-(k+1))+1 by lia,Gh,Au]at e;obtain⟨rfl,rfl⟩:=Bs e;have sl:=aJm (plU ns) k pl40;refine⟨∅,fY (h:=λu=> .tp [.n (1+(k:Int)),u]) (λu hu c hc=>hc) ⟨?_,?_⟩⟩
   ·rw[Ec,Ab];lia
   ·rw[Ec];exact ih _ ⟨k+1,_,rfl,hlt,by rw[<-rG];rfl⟩
 refine⟨rfl,rfl,.inr ⟨by decide+kernel,.inl ⟨rfl,rfl,rfl,ns,rs,rfl,gs,hl,λs hs=>?_⟩⟩⟩;rcases hs with rfl|rfl
 all_goals
  refine⟨rfl,show wQ "rounds" ["taken","grid","term","modulus","rounds","first"] _ _ from aCm (xs:=["taken","grid","term","modulus","rounds","first"]) (k:=4) (u:=.n r) ?_ (by decide+kernel) rfl rfl⟩;exact⟨⟨∅,∅,∅,∅⟩,main⟩
def aMf{m x:Int}(h:0<m):(-1-x) % m=m-1-x % m:=by
 have h1:=Int.emod_add_mul_ediv x m;have e: -1-x=(m-1-x % m)+m*(-(x / m)-1):=by rw[Int.mul_sub,Int.mul_neg];lia
 rw[e,Nx];exact Lr (by have:=Eo x h;lia) (by have:=Fx x (by lia:m≠0);lia)
def aI8{s x:Int}(h:0<s):mir s (-1-x)=mir s x:=by
 unfold mir;rw[aMf ∅];generalize x % (2*s)=a;split<;>split<;>lia
def aXr{s x:Int}(h:0<s):mir s (2*s-1-x)=mir s x:=by
 have e:(2*s-1-x) % (2*s)=(-1-x) % (2*s):=by rw[show 2*s-1-x=(-1-x)+(2*s)*1 by lia,Nx]
 rw[<-aI8 (x:=x) h];unfold mir;rw[e]
def aQm{s x:Int}(h0:0<=x)(h:x<s):mir s x=x:=by
 unfold mir;rw[Lr h0 ∅,if_pos h]
def aZp:Fv:=λus R=>∃(r:Rim)(s x:Int),us=[.n x,.n s,r.u]/\0<s/\s<=9/\ -(100:Int)<=x/\x<=100/\R (.sh (oU (byR r s x)))
def nY:aL ["_law_x","_law_size","_law_rim"] ["_law_x","_law_size","_law_rim"] (aC pN):={}
def aQp(F:Fun K "_law_along" "_law_along" pN f fd)(T:Txt mg):bC P w K mg base CX0 1 f fd ["_law_x","_law_size","_law_rim"] (spV aZp):=by
 refine vfn F nY (λcdv A outer s H E hr=>(aD (dF (cO (lW (huD hr)) lG (bW bF bY (aA 2) aG) bO) (aF (aY (aX nU jL (aA 0) (aA 1)))) bN) (aD (dF (cO (lW (huD hr)) lG (bW bF bY (aA 2) aG) bO) (aF (aY (bW bF bY (bZ (aB pI (aB (aA 0) aH))) (dH aB1 aNd T.int Tw (aN (aEy wJ vH cH cH aG (aA 0) (aA 1)) aU))))) bN) (aD (aA7 Aw (gK (vO wJ vH cH cH aG (aA 0) (aA 1))) (aF (dF (cO vH cH (aA 0) aG) (aF (bA (i:=0) nY.nd (aX iJ cH (aX iJ cH aG aG) (aA 0)))) (aF (bA (i:=0) nY.nd (aX iJ cH (aX iJ cH (aX kZ jL aG (aA 1)) aG) (aA 0))))))) (aF (eU 0)))))) ?_;rintro _ R ⟨r,s,x,rfl,h1,h2,x1,x2,q⟩;have no:∀{k:Bool},k=false->¬k=true:=λh z=>by rw[h]at z;cases z
 have yes:∀{k:Bool}{p:Prop},k=true->k=false->p:=λh z=>by rw[h]at z;cases z
 refine⟨rfl,?_⟩;cases r with
 |round=>
  have e:byR .round s x=some (x % s):=by
   simp only[byR];split
   ·rename_i h;rw[Lr h.1 h.2]
   ·rfl
  rw[e]at q;exact⟨_,rfl,trivial,trivial,λ_=>⟨h1,q⟩,λz=>yes (by decide+kernel) z⟩
 |fixed c=>
  refine⟨_,rfl,trivial,trivial,λz=>absurd z (no (by decide+kernel)),λ_=>⟨_,rfl,trivial,trivial,λ_=>?_,λz=>yes (by decide+kernel) z⟩⟩;have a:0<=x/\x<s->R (.sh (.n x)):=λh=>by
   rw[show byR (.fixed c) s x=some x from if_pos h]at q;exact q
  have b:¬(0<=x/\x<s)->R (.sh .no):=λh=>by
   rw[show byR (.fixed c) s x=none from if_neg h]at q;exact q
  refine⟨λz=>?_,λz=>?_⟩
  ·show∃u,atI [U.no,U.n x] (if decide (x<s)then(1:Int)else 0)=some u/\R (.sh u);by_cases h:x<s
   ·rw[decide_eq_true h];exact⟨_,rfl,a ⟨of_decide_eq_true z,h⟩⟩
   ·rw[decide_eq_false h];exact⟨_,rfl,b λz=>h z.2⟩
  ·exact⟨_,rfl,b λz'=>absurd z'.1 (of_decide_eq_false z)⟩
 |mirror=>
  refine⟨_,rfl,trivial,trivial,λz=>absurd z (no (by decide+kernel)),λ_=>⟨_,rfl,trivial,trivial,λz=>absurd z (no (by decide+kernel)),λ_=>?_⟩⟩;have e:byR .mirror s x=some (mir s x):=by
   simp only[byR];split
   ·rename_i h;rw[aQm h.1 h.2]
   ·rfl
  rw[e]at q;refine⟨λm ρ=>∃y,ρ=[.sh (.n y),.sh (.n s),.sh (Rim.u .mirror)]/\mir s y=mir s x/\m=(2*y-s+1).natAbs,⟨_,x,rfl,rfl,rfl⟩,?_⟩;rintro m ρ ⟨y,rfl,ey,rfl⟩;refine⟨λz=>⟨λz2=>?_,λz2=>?_⟩,λz=>⟨λ_=>?_,nofun⟩⟩
  ·have z:=of_decide_eq_true z;have z2:¬y<s:=λh=>by rw[decide_eq_true h]at z2;cases z2
   refine⟨λh=>absurd (of_decide_eq_true h) ∅,λ_=>⟨.inl (by constructor<;>decide),?_⟩⟩;exact⟨_,∅,2*s-1-y,rfl,(aXr h1).trans ey,rfl⟩
  ·have z:=of_decide_eq_true z;have z2:y<s:=Hw λh=>by rw[decide_eq_false h]at z2;cases z2
   rw[<-ey,aQm z z2]at q;exact q
  ·have z:=of_decide_eq_false z;refine⟨λ_=>?_,λh=>absurd (of_decide_eq_false h) ∅⟩;exact⟨_,∅,0-1-y,rfl,(aI8 h1).trans ey,rfl⟩
def alo:List Int->List Rim->List Int->List Int->List (Option Int)
 |n::ns,r::rs,i::is,s::ss=>byR r n (i+s)::alo ns rs is ss
 |_,_,_,_=>[]
theorem aKc:∀(ns:List Int)(rs:List Rim)(is ss:List Int),(∀l,bes ns rs is ss=.ok l->alo ns rs is ss=l.map some)/\(∀c,bes ns rs is ss=.error c->none∈alo ns rs is ss)
 |n::ns,r::rs,i::is,s::ss=>by
  obtain⟨h1,h2⟩:=aKc ns rs is ss;show(∀l,(match byR r n (i+s)with|none=> .error r.c|some x=>match bes ns rs is ss with|.error c=> .error c|.ok l=> .ok (x::l))=Ro l->byR r n (i+s)::alo ns rs is ss=l.map some)/\∀c,(match byR r n (i+s)with|none=> .error r.c|some x=>match bes ns rs is ss with|.error c=> .error c|.ok l=> .ok (x::l))=Except.error c->none∈byR r n (i+s)::alo ns rs is ss;cases byR r n (i+s)with
  |none=>exact⟨nofun,λ_ _=>Af⟩
  |some x=>
   cases hb:bes ns rs is ss with
   |error c=>exact⟨nofun,λ_ _=>Ae _ (h2 c hb)⟩
   |ok l=>exact⟨λm e=>by cases e;rw[h1 l hb];rfl,nofun⟩
 | [],_,_,_=>⟨λl e=>by cases e;rfl,nofun⟩
 |_::_,[],_,_=>⟨λl e=>by cases e;rfl,nofun⟩
 |_::_,_::_,[],_=>⟨λl e=>by cases e;rfl,nofun⟩
 |_::_,_::_,_::_,[]=>⟨λl e=>by cases e;rfl,nofun⟩
def aZ0(l:List (Option Int)):U.dts 40 (l.map oU):=by
 induction l with
 |nil=>trivial
 |cons x l ih=>exact⟨by cases x<;>trivial,ih⟩
def aO9(l:List (Option Int)):((l.map oU).any λe=>e.eq .no)=l.elem none:=by
 induction l with
 |nil=>rfl
 |cons x l ih=>
  rw[Au,Do,ih,Tj];cases x with
  |none=>rfl
  |some i=>rfl
structure aUb(ns:List Int)(q:Tk):Prop where
 l:q.2.length=ns.length
 x:∀x∈q.2,0<=x/\x<=9
def aJa:Fv:=λus R=>∃ns rs pl r ys dp m t ls sp,∃q:Tk,us=[wU ns rs pl r ys dp m t ls sp,tkU q]/\GoodW ns rs r ys m t ls/\aUb ns q/\∀zs,aR0 ns rs ys q zs->R (.ow (zs.map tkU))
def dD:aL ["_law_world_here","_law_spot","_law_found","_law_back","_law_steps","_law_place","_law_k","_law_there"] ["_law_world_here","_law_spot"] (aC pQ):={}
set_option maxHeartbeats 1000000 in
def aKv(F:Fun K "_law_leans" "_law_leans" pQ f fd)(c__law_along:Cal P w K mg base CX0 1 "_law_along" ["_law_x","_law_size","_law_rim"] (spV aZp))(T:Txt mg):bC P w K mg base CX0 2 f fd ["_law_world_here","_law_spot"] (spV aJa):=by
 refine vfn F dD (λcdv A outer s H E hr=>(aD (bA (i:=2) dD.nd (sG (P:=P) (w:=w) rfl rfl)) (aD (dC Aw rfl (bV (lA (qC hr) (aA 0))) (wO rfl (fG (i:=3) dD.nd (fG (i:=4) dD.nd sU))) (aD (bA (i:=5) dD.nd (cY aH)) (aD (dC Aw rfl (jC T.range (aN (bD aV dI T.len Dw (aN (aA 4) aU)) aU)) (cX (i:=6) dD.nd) (aD (bA (i:=7) dD.nd (aO c__law_along (hr.mono ⋯) rfl (aB (aX bB bK (bW bF bY (bW bF bY (aA 1) aG) (aA 6)) (bW bF bY (aA 4) (aA 6))) (aB (bW bF bY (lA (qC hr) (aA 0)) (aA 6)) (aB (bW bF bY (lA (qC hr) (aA 0)) (aA 6)) aH))))) (aF (bA (i:=5) dD.nd (aX bB bK (aA 5) (cY (aB (aA 7) aH))))))) (aF (dF (wD (aXy (cO (aB7 (huD hr)) aNg pI (aA 5)) (aSi (cO tG cH (bW bF bY (aA 1) aG) (aA 3))))) (aF (sW (P:=P) (w:=w) 2 rfl rfl hr (cY (aB (aX iJ cH (bW bF bY (aA 1) aG) (aA 3)) (aB (aA 5) aH))) yF)) bN))))) (aF (aY (aP5 (@bA4 P w) (P:=P) (w:=w) rfl rfl hr rfl T.sorted (aA 2))))))) ?_;rintro _ R ⟨ns,rs,pl,r,ys,dp,m,t,ls,sp,q0,rfl,g,gq,q⟩;have gy:=aOz g.gj.ok g.gj.ln g.tk;have l3:=g.gj.gs.l3;have el:=g.gj.el;refine⟨rfl,wF 4 rfl rfl ?_⟩;refine bM (λl ρ=>∃(rest:List Tk)(kvs:List (Tke×U))(a b c d e:Sl),l=rest.map tkU/\ρ=[.sh (wU ns rs pl r ys dp m t ls sp),.sh (tkU q0),.oo (pdO P w kvs),a,b,c,d,e]/\(∀y∈rest,y∈ys)/\kvs.length+rest.length<=17/\(kvs.map (·.1)).Nodup/\∀z,(z∈kvs.map (·.1)∨z∈rest.filterMap (jH ns rs q0))↔z∈ys.filterMap (jH ns rs q0)) ?_ ?_ ⟨ys,[],_,_,_,_,_,rfl,rfl,λ_ h=>h,by have:=gy.yl;simpa using this,Hg,λz=>⟨λh=>h.elim nofun id,.inr⟩⟩
 ·rintro ρ ⟨rest,kvs,a,b,c,d,e,er,rfl,_,hl,nd,hz⟩;obtain rfl:rest=[]:=List.map_eq_nil_iff.mp er.symm;refine⟨kvs,.inl rfl,∅,by show(kvs.map (·.1)).length<64;rw[Ab];lia,λzs pm pw=>q zs ⟨pw,λz=>?_⟩⟩;rw[pm.mem_iff, <-hz z];exact⟨.inl,λh=>h.elim id nofun⟩
 ·rintro u l ρ ⟨rest0,kvs,a,b,c,d,e,er,rfl,hs,hl,nd,hz⟩ ih;cases rest0 with
  |nil=>cases er
  |cons y rest=>
   obtain⟨rfl,rfl⟩:=Bs er;have hy:=hs y Af;obtain⟨⟨y1,y2,y9⟩,yn⟩:=gy.gt y hy;rw[Ah]at hl;refine⟨rfl,∅,by rw[Ab];lia,?_⟩;rw[Ab,yn,Hi];refine bM (λl ρ=>∃(k:Nat)(xs:List (Option Int))(x z:Sl),l=(Iz k (ns.length-k)).map (λi:Nat=>U.n (0+(i:Int)))/\k<=ns.length/\xs.length=k/\ρ=[.sh (wU ns rs pl r ys dp m t ls sp),.sh (tkU q0),.oo (pdO P w kvs),.sh (.n y.1),.sh (.tp (y.2.map U.n)),.sh (.tp (xs.map oU)),x,z]/\xs++alo (ns.drop k) (rs.drop k) (q0.2.drop k) (y.2.drop k)=alo ns rs q0.2 y.2) ?_ ?_ ⟨0,[],_,_,by rw[Jw, <-Ga];rfl,Ay _,rfl,rfl,rfl⟩
   ·rintro ρ ⟨k,xs,x,z,e,hk,xk,rfl,ea⟩;have:k=ns.length:=by
     have:=congrArg Bj e;simp at this
     lia
    subst this;rw[Ly]at ea;have ea:xs++[]=alo ns rs q0.2 y.2:=ea;rw[Bf]at ea;subst ea;obtain⟨b1,b2⟩:=aKc ns rs q0.2 y.2;have fin:∀o:Option Tk,jH ns rs q0 y=o->∀z,(z∈kvs.map (·.1)∨some z=o∨z∈rest.filterMap (jH ns rs q0))↔z∈ys.filterMap (jH ns rs q0):=λo ho z=>by
     rw[<-hz z,Gk,ho];cases o with
     |none=>exact⟨λh=>h.elim .inl λh=>h.elim nofun .inr,λh=>h.elim .inl λh=> .inr (.inr h)⟩
     |some v=>exact⟨λh=>h.elim .inl λh=> .inr (h.elim (λh=>by cases h;exact Af) (Ae _)),λh=>h.elim .inl λh=> .inr ((List.mem_cons.mp h).elim (λh=> .inl (by rw[h])) .inr)⟩
    have ne:∀kvs':List (Tke×U),kvs'.length+rest.length<=17->(kvs'.map (·.1)).Nodup->(∀z,(z∈kvs'.map (·.1)∨z∈rest.filterMap (jH ns rs q0))↔z∈ys.filterMap (jH ns rs q0))->mX _ _ _ (rest.map tkU) [.sh (wU ns rs pl r ys dp m t ls sp),.sh (tkU q0),.oo (pdO P w kvs'),.sh (.n y.1),.sh (.tp (y.2.map U.n)),.sh (.tp ((alo ns rs q0.2 y.2).map oU)),x,z]:=λkvs' a1 a2 a3=>ih _ ⟨rest,kvs',_,_,_,_,_,rfl,rfl,λy hy=>hs y (Ae _ hy),a1,a2,a3⟩;have skip:=λh0:jH ns rs q0 y=none=>ne kvs ∅ nd λz=>⟨λh=>(fin none h0 z).mp (h.elim .inl λh=> .inr (.inr h)),λh=>((fin none h0 z).mpr h).elim .inl λh=>h.elim nofun .inr⟩;refine⟨trivial,aZ0 _,λh=>?_,λh=>⟨nofun,λ_=>skip ?_⟩⟩
    ·have h:(!(((alo ns rs q0.2 y.2).map oU).any λe=>e.eq .no))=true:=h;rw[aO9,Bool.not_eq_true']at h;have h:none∉alo ns rs q0.2 y.2:=λz=>by rw[List.elem_iff.mpr z]at h;cases h
     cases hb:bes ns rs q0.2 y.2 with
     |error c=>exact absurd (b2 c hb) h
     |ok l=>
      have hl1:jH ns rs q0 y=if 0<q0.1-y.1 then some (q0.1-y.1,l)else none:=by unfold jH;rw[hb]
      refine⟨_,rfl,λh'=>?_,λh'=>skip ?_⟩
      ·have h':y.1<q0.1:=of_decide_eq_true h';rw[if_pos ∅]at hl1;refine⟨kvs,rfl,∅,_,rfl,(q0.1-y.1,l),?_,ne _ (by have:=aPm (l:=kvs) (k:=(q0.1-y.1,l)) (u:=U.b true);lia) ?_ λz=>?_⟩
       ·show U.tp [.n (q0.1-y.1),.tp ((alo ns rs q0.2 y.2).map oU)]=U.tp [.n (q0.1-y.1),.tp (l.map U.n)];rw[b1 l hb,Bh];rfl
       ·exact aJp nd
       ·rw[aGq, <-fin _ hl1 z];exact⟨λh=>h.elim (λh=>h.elim .inl λh=> .inr (.inl (by rw[h]))) λh=> .inr (.inr h),λh=>h.elim (λh=> .inl (.inl h)) λh=>h.elim (λh=> .inl (.inr (Bk h))) .inr⟩
      ·rw[hl1,if_neg (by have:=of_decide_eq_false h';lia)]
    ·have h:(!(((alo ns rs q0.2 y.2).map oU).any λe=>e.eq .no))=false:=h;rw[aO9,Bool.not_eq_false']at h;have h:none∈alo ns rs q0.2 y.2:=List.elem_iff.mp h;unfold jH;cases hb:bes ns rs q0.2 y.2 with
     |error c=>rfl
     |ok l=>
      rw[b1 l hb]at h;obtain⟨_,_,e⟩:=List.mem_map.mp h;cases e
   ·rintro u l ρ ⟨k,xs,x,z,e,hk,xk,rfl,ea⟩ ih2;have hlt:k<ns.length:=by
     have:=congrArg Bj e;simp at this
     lia
    rw[show ns.length-k=(ns.length-(k+1))+1 by lia,Gh,Au]at e;obtain⟨rfl,rfl⟩:=Bs e;have kr:k<rs.length:=by lia
    have kq:k<q0.2.length:=by rw[gq.l];exact hlt
    have ky:k<y.2.length:=by lia
    have at_:∀{l:List Int}(h:k<l.length),atI (l.map U.n) (0+(k:Int))=some (U.n l[k]):=λ{l} h=>by rw[Lz];exact sO (by rw[Ax,Aj h];rfl)
    have atr:atI (rs.map Rim.u) (0+(k:Int))=some rs[k].u:=by rw[Lz];exact sO (by rw[Ax,Aj kr];rfl)
    have ok:=g.gj.gs.ok _ (Dz hlt);have xq:=gq.x _ (Dz kq);have x9:=y9 _ (Dz ky);refine⟨_,rfl,_,at_ kq,_,at_ ky,wF 0 rfl rfl ⟨_,at_ hlt,wF 1 rfl rfl ⟨_,atr,rs[k],ns[k],q0.2[k]+y.2[k],rfl,∅,∅,∅,∅,?_,?_⟩⟩⟩
    ·show(xs.map oU).length+1<=10000;rw[Ab];lia
    ·refine ih2 _ ⟨k+1,xs++[byR rs[k] ns[k] (q0.2[k]+y.2[k])],_,_,rfl,hlt,by rw[Ag,xk];rfl,by rw[Bb];rfl,?_⟩;rw[<-ea,Bd hlt,Bd kr,Bd kq,Bd ky,Bi];rfl
def spS(ns:List Int)(n:Nat):List Tk:=(Br n).flatMap λ(j:Nat)=>(aBg ns).map λp=>(1+(j:Int),p)
def aHy(ns:List Int)(n:Nat):spU (plU ns) n=(spS ns n).map tkU:=by
 unfold spU spS;rw[List.map_flatMap];congr 1;funext j;rw[Bh,Bh];rfl
def aMw{n:Int}(h:0<=n)(ps:List (List Int)):((ps.flatMap (ext n)).length:Int)=ps.length*n:=by
 induction ps with
 |nil=>simp
 |cons p ps ih=>
  rw[Le,Ag,Ah];have:(ext n p).length=n.toNat:=by unfold ext;rw[Ab,Da]
  rw[this,Jy,ih,Jy,Qy]
  lia
theorem aGk:∀(ns:List Int)(ps:List (List Int)),(∀n∈ns,1<=n)->((ns.foldl (λps n=>ps.flatMap (ext n)) ps).length:Int)=ns.foldl (λa n=>a*n) (ps.length:Int)
 | [],_,_=>rfl
 |n::ns,ps,h=>by
  rw[Ed,Ed,aGk ns _ λx hx=>h x (Ae _ hx),aMw (by have:=h n Af;lia)]
def aOp(h:∀n∈ns,1<=n):((aBg ns).length:Int)=rJ ns:=aGk ns [[]] h
theorem aB9:∀(ns:List Int)(ps:List (List Int))(a:Nat),(∀n∈ns,n<=9)->(∀p∈ps,p.length=a/\∀x∈p,0<=x/\x<=9)->∀p∈ns.foldl (λps n=>ps.flatMap (ext n)) ps,p.length=a+ns.length/\∀x∈p,0<=x/\x<=9
 | [],_,_,_,hp=>hp
 |n::ns,ps,a,h,hp=>by
  have:=aB9 ns (ps.flatMap (ext n)) (a+1) (λx hx=>h x (Ae _ hx)) λp hq=>by
   obtain⟨p0,h0,h1⟩:=List.mem_flatMap.mp hq;obtain⟨i,hi,rfl⟩:=List.mem_map.mp h1;have hn:=h n Af;have hi:=List.mem_range.mp hi;obtain⟨l0,x0⟩:=hp p0 h0;refine⟨by rw[Ag,l0];rfl,λx hx=>(List.mem_append.mp hx).elim (x0 x) λhx=>?_⟩;rw[List.mem_singleton.mp hx]
   lia
  intro p hq;obtain⟨a1,a2⟩:=this p hq;exact⟨by rw[a1,Ah];lia,a2⟩
def yZ{q:Tk}(gs:jF ns)(h:q∈spS ns n):aUb ns q/\1<=q.1:=by
 obtain⟨j,_,h⟩:=List.mem_flatMap.mp h;obtain⟨p,hp,rfl⟩:=List.mem_map.mp h;obtain⟨a1,a2⟩:=aB9 ns [[]] 0 (λn hn=>(gs.ok n hn).2) (λp hp=>by rw[List.mem_singleton.mp hp];exact⟨rfl,nofun⟩) p hp;exact⟨⟨by rw[a1];lia,a2⟩,by show 1<=1+(j:Int);lia⟩
def aNf(ms:List Int):D.eqs (U.ds (ms.map U.n)) (U.ds (ms.map U.n))=true:=by
 induction ms with
 |nil=>rfl
 |cons a l ih=>
  show(eqV (.int a) (.int a) && D.eqs (U.ds (l.map U.n)) (U.ds (l.map U.n)))=true;rw[ih];simp[eqV]
def aWr(ys:List Tk):U.eq (.ls (ys.map tkU)) (.ls (ys.map tkU))=true:=by
 show D.eqs (U.ds _) (U.ds _)=true;induction ys with
 |nil=>rfl
 |cons y l ih=>
  show((eqV (.int y.1) (.int y.1) && (D.eqs (U.ds (y.2.map U.n)) (U.ds (y.2.map U.n)) && true)) && D.eqs (U.ds (l.map tkU)) (U.ds (l.map tkU)))=true;rw[ih,aNf];simp[eqV]
def aNe(gs:jF ns):(aBg ns).length<=40:=by
 have:=aOp λn hn=>(gs.ok n hn).1;have:=gs.mn
 lia
def aOk(h:l.Pairwise λx y=>iV x y=true):l.Nodup:=h.imp λ{a b} h e=>by
 subst e;unfold iV at h;rw[if_pos rfl,vA]at h;cases h
def Inn:List Int->List Int->Prop
 | [],l=>l=[]
 |n::ns,l=>∃x r,l=x::r/\0<=x/\x<n/\Inn ns r
def aW2{r:Rim}{s x y:Int}(h:0<s)(e:byR r s x=some y):0<=y/\y<s:=by
 cases r with
 |fixed c=>
  simp only[byR]at e;split at e
  ·cases e;assumption
  ·cases e
 |mirror=>
  simp only[byR]at e;split at e
  ·cases e;assumption
  ·cases e;unfold mir;have:=Fx x (by lia:2*s≠0);have:=Eo x (by lia:0<2*s);split<;>lia
 |round=>
  simp only[byR]at e;split at e
  ·cases e;assumption
  ·cases e;exact⟨Fx x ∅,Eo x h⟩
theorem aQo:∀{ns:List Int}{rs:List Rim}{is ss l:List Int},(∀n∈ns,0<n)->rs.length=ns.length->is.length=ns.length->ss.length=ns.length->bes ns rs is ss=.ok l->Inn ns l
 | [],_,_,_,l,_,_,_,_,e=>by cases e;rfl
 |n::ns,r::rs,i::is,s::ss,l,h,h1,h2,h3,e=>by
  unfold bes at e;cases hb:byR r n (i+s)with
  |none=>rw[hb]at e;cases e
  |some x=>
   rw[hb]at e;cases hc:bes ns rs is ss with
   |error c=>rw[hc]at e;cases e
   |ok m=>
    rw[hc]at e;cases e;obtain⟨a,b⟩:=aW2 (h n Af) hb;exact⟨x,m,rfl,a,b,aQo (λy hy=>h y (Ae _ hy)) (Es h1) (Es h2) (Es h3) hc⟩
theorem aB4:∀{ns:List Int}{ps:List (List Int)}{p l:List Int},p∈ps->Inn ns l->p++l∈ns.foldl (λps n=>ps.flatMap (ext n)) ps
 | [],_,_,l,h,e=>by rw[show l=[]from e,Bf];exact h
 |n::ns,ps,p,_,h,⟨x,r,e,a,b,t⟩=>by
  subst e;rw[List.append_cons];refine aB4 (ns:=ns) (ps:=ps.flatMap (ext n)) (p:=p++[x]) (l:=r) (List.mem_flatMap.mpr ⟨p,h,List.mem_map.mpr ⟨x.toNat,List.mem_range.mpr ∅,?_⟩⟩) t;rw[show 0+(x.toNat:Int)=x by lia]
def aS7{q:Tk}(h1:1<=q.1)(h2:q.1<=n)(h:Inn ns q.2):q∈spS ns n:=List.mem_flatMap.mpr ⟨(q.1-1).toNat,List.mem_range.mpr ∅,List.mem_map.mpr ⟨q.2,aB4 (p:=[]) Af h,by
 show(1+((q.1-1).toNat:Int),q.2)=q;rw[show 1+((q.1-1).toNat:Int)=q.1 by lia]⟩⟩
def aOe{q:Tk}(h:q∈spS ns n):q.1<=n:=by
 obtain⟨j,hj,h⟩:=List.mem_flatMap.mp h;obtain⟨p,hp,rfl⟩:=List.mem_map.mp h;have:=List.mem_range.mp hj;show 1+(j:Int)<=n
 lia
def aJt{q z:Tk}(gs:jF ns)(el:rs.length=ns.length)(hq:q∈spS ns n)(hy:∀y∈ys,wL y/\y.2.length=ns.length)(h:z∈ys.filterMap (jH ns rs q)):z∈spS ns n:=by
 obtain⟨y,hy',e⟩:=List.mem_filterMap.mp h;obtain⟨gq,_⟩:=yZ gs hq;have q1:=aOe hq;obtain⟨gy,ly⟩:=hy y hy';unfold jH at e;split at e
 ·cases e
 ·rename_i l hb;split at e
  ·rename_i h0;cases e;exact aS7 (by show 1<=q.1-y.1;lia) (by show q.1-y.1<=n;have:=gy.1;lia) (aQo (λn hn=>by have:=(gs.ok n hn).1;lia) el gq.l ly hb)
  ·cases e
def aDa(gs:jF ns)(h:r<=12):(spS ns r.toNat).length<=480:=by
 have:=aJm (plU ns) r.toNat (by rw[Ab];exact aNe gs);rw[aHy,Ab]at this
 lia
def aLk{i j:Int}(h:i<j)(p:List Int):gO (p++[i]) (p++[j])=true:=by induction p<;>grind [gO]
def aQs{i j:Int}{p q:List Int}(e:p.length=q.length)(h:gO p q=true):gO (p++[i]) (q++[j])=true:=by induction p generalizing q<;>cases q<;>grind [gO]
theorem aEz:∀(ns:List Int)(ps:List (List Int))(a:Nat),(∀p∈ps,p.length=a)->ps.Pairwise (λx y=>gO x y=true)->(ns.foldl (λps n=>ps.flatMap (ext n)) ps).Pairwise λx y=>gO x y=true
 | [],_,_,_,h=>h
 |n::ns,ps,a,hl,h=>by
  refine aEz ns (ps.flatMap (ext n)) (a+1) (λp hp=>?_) ?_
  ·obtain⟨p0,h0,h1⟩:=List.mem_flatMap.mp hp;obtain⟨i,_,rfl⟩:=List.mem_map.mp h1;rw[Ag,hl p0 h0];rfl
  ·rw[Pf];refine⟨λp _=>?_,(List.Pairwise.and_mem.mp h).imp λ{x y} h z hz z' hz'=>?_⟩
   ·unfold ext;rw[Dn];exact(Jk (n:=n.toNat)).imp λh=>aLk ∅ _
   ·obtain⟨i,_,rfl⟩:=List.mem_map.mp hz;obtain⟨j,_,rfl⟩:=List.mem_map.mp hz';exact aQs (by rw[hl _ h.1,hl _ h.2.1]) h.2.2
def aMq(ns:List Int)(n:Nat):(spS ns n).Pairwise λx y=>iV x y=true:=by
 unfold spS;rw[Pf];refine⟨λj _=>?_,(Jk (n:=n)).imp λ{a b} h x hx y hy=>?_⟩
 ·rw[Dn];refine(aEz ns [[]] 0 (λp hp=>by rw[List.mem_singleton.mp hp];rfl) (Ja _ _)).imp λh=>?_;unfold iV;rw[if_pos rfl];exact h
 ·obtain⟨p,_,rfl⟩:=List.mem_map.mp hx;obtain⟨p',_,rfl⟩:=List.mem_map.mp hy;unfold iV;rw[if_neg (by show¬(1+(a:Int)=1+(b:Int));lia)];exact decide_eq_true (by show 1+(a:Int)<1+(b:Int);lia)
def kvU(l:List Tk)(f:Tk->U):List (Tke×U):=l.map λq=>(q,f q)
def aA0(l:List Tk)(f:Tk->U):(kvU l f).map (·.1)=l:=by simp[kvU,Function.comp_def]
def aDr{f:Tk->U}{z:Tk}(h:z∈l):dY (kvU l f) z=some (f z):=by
 unfold kvU;induction l<;>grind [dY]
def aD7{f:Tk->U}{q:Tk}(h:q∉l):nF (kvU l f) q u=kvU (l++[q]) λz=>if z=q then u else f z:=by
 unfold nF;rw[if_neg λz=>h (by have:=xH z;rwa [aA0]at this)];simp only[kvU,Bb,Au,Dg,if_pos];congr 1;exact Hz λz _=>by grind
theorem aRz{l m:List (Tke×U)}{z:Tk}:dY (l++m) z=(dY l z).or (dY m z):=by
 induction l<;>grind [dY]
def aI2{l:List (Tke×U)}{k z:Tk}:dY (nF l k u) z=if z=k then some u else dY l z:=by
 have e:dY (l.map λp=>if p.1=k then(p.1,u)else p) z=if z=k/\(dY l k).isSome then some u else dY l z:=by induction l<;>grind [dY]
 unfold nF;cases hv:dY l k<;>grind [dY,aRz,Wk]
def aRi{z:Tk}{more kvs:List (Tke×U)}(h:(more.map (·.1)).Nodup):dY (more.foldl (λl p=>nF l p.1 p.2) kvs) z=(dY more z).or (dY kvs z):=by
 have v:∀m:List (Tke×U),z∉m.map (·.1)->dY m z=none:=λm _=>by induction m<;>grind [dY]
 induction more generalizing kvs with
 |nil=>rfl
 |cons p m ih=>rw[Ed,ih (by grind),aI2];grind [dY,Wk]
def aSf{more kvs:List (Tke×U)}(h:∀p∈more,p.1∈kvs.map (·.1)):(more.foldl (λl p=>nF l p.1 p.2) kvs).length=kvs.length:=by
 have v:∀m:List (Tke×U),∀z∈m.map (·.1),(dY m z).isSome:=λm _ _=>by induction m<;>grind [dY]
 induction more generalizing kvs with
 |nil=>rfl
 |cons p m ih=>
  have e:nF kvs p.1 p.2=kvs.map λq=>if q.1=p.1 then(q.1,p.2)else q:=if_pos (v _ _ (h p Af))
  rw[Ed,e,ih (by grind),Ab]
def lu(ln:Tk->List Tk)(row:List Tk):Nat->Tk->Option Nat
 |0,_=>none
 |n+1,q=>if(row[n]?).any (λr=>decide (q∈ln r))then some n else lu ln row n q
def aYs{ln:Tk->List Tk}{q:Tk}{p n:Nat}(h:lu ln row n q=some p):p<n:=by
 induction n<;>grind [lu]
def aZw(P:Program)(w:World)(N:Cn)(CG CJ:Addr):Fv:=λus R=>∃ns rs t ys m r ls,us=[uU N CG CJ ns rs t ys m r ls]/\jF ns/\rs.length=ns.length/\aQr ys ns.length/\0<=r/\r<=12/\∀g:Tk->List Tk,(∀q∈spS ns r.toNat,aR0 ns rs ys q (g q))->R (.oo (pdO P w (kvU (spS ns r.toNat) λq=> .ls ((g q).map tkU))))
def jP:aL ["job","leans","spot"] ["job"] (aC kO):={}
def aWm(F:Fun K "leans_by_spot" "leans_by_spot" kO f fd)(D_all_spots:Dis P w K mg base CX0 3 (·=CJ) "all_spots" ["self"] λ_=>spV (aVf N CG CJ))(c_leans_of:Cal P w K mg base CX0 6 "leans_of" ["job","spot"] (spV (aQt N CG CJ)))(T:Txt mg):bC P w K mg base CX0 7 f fd ["job"] (spV (aZw P w N CG CJ)):=by
 refine vfn F jP (λcdv A outer s H E hr=>(aD (bA (i:=1) jP.nd (sG (P:=P) (w:=w) rfl rfl)) (aD (dC Aw rfl (bV (cI (aA 0) D_all_spots (hr.mono ⋯))) (cX (i:=2) jP.nd) (aF (sW (P:=P) (w:=w) 1 rfl rfl hr (aA 2) (aO c_leans_of (hr.mono ⋯) rfl (aB (aA 0) (aB (aA 2) aH)))))) (aF (eU 1))))) ?_;rintro _ R ⟨ns,rs,t,ys,m,r,ls,rfl,gs,el,gy,r0,r12,q⟩;have yn:∀y∈ys,y.2.length=ns.length:=λy hy=>(gy.gt y hy).2;have sl:=aDa gs r12;refine⟨rfl,rfl,rfl,ns,rs,t,ys,m,r,ls,rfl,gs,aNe gs,r0,r12,?_⟩;rw[aHy];refine bM (λl ρ=>∃(don rst:List Tk)(g:Tk->List Tk)(x:Sl),l=rst.map tkU/\don++rst=spS ns r.toNat/\(∀q∈don,aR0 ns rs ys q (g q))/\ρ=[.sh (uU N CG CJ ns rs t ys m r ls),.oo (pdO P w (kvU don λq=> .ls ((g q).map tkU))),x]) ?_ ?_ ⟨[],spS ns r.toNat,λ_=>[],_,rfl,rfl,nofun,rfl⟩
 ·rintro ρ ⟨don,rst,g,x,e1,e2,hd,rfl⟩;obtain rfl:rst=[]:=List.map_eq_nil_iff.mp e1.symm;rw[Bf]at e2;subst e2;exact q g hd
 ·rintro u l ρ ⟨don,rst,g,x,e1,e2,hd,rfl⟩ ih;cases rst with
  |nil=>cases e1
  |cons q0 rst=>
   cases e1;have hq:q0∈spS ns r.toNat:=by rw[<-e2];simp
   obtain⟨gq,_⟩:=yZ gs hq;have nd:q0∉don:=λz=>by
    have:=aOk (aMq ns r.toNat);rw[<-e2,Rk]at this;exact this.2.2 q0 z q0 Af rfl
   have dl:don.length<=480:=by
    have:=congrArg Bj e2;rw[Ag]at this
    lia
   refine⟨ns,rs,t,ys,m,r,ls,q0,rfl,gs,el,gq.l,yn,gy.yl,λzs hz=>⟨_,rfl,by unfold kvU;rw[Ab];lia,q0,rfl,?_⟩⟩;rw[aD7 nd,show(λz=>if z=q0 then U.ls (zs.map tkU)else U.ls ((g z).map tkU))=λq=>U.ls ((if q=q0 then zs else g q).map tkU)from funext λz=>by split<;>rfl];refine ih _ ⟨don++[q0],rst,λz=>if z=q0 then zs else g z,.sh (tkU q0),rfl,by rw[<-e2];simp,λp hp=>?_,rfl⟩;dsimp only;rcases List.mem_append.mp hp with h|h
   ·rw[if_neg λe:p=q0=>nd (e▸h)];exact hd p h
   ·obtain rfl:=List.mem_singleton.mp h;rw[if_pos rfl];exact hz
structure vN(ns:List Int)(r:Int)(row:List Tk):Prop where
 nd:row.Nodup
 me:∀q,q∈row↔q∈spS ns r.toNat
def vN.len(h:vN ns r row)(gs:jF ns)(r12:r<=12):row.length<=480:=by
 have:=h.nd.length_le_of_subset (l₂:=spS ns r.toNat) λq hq=>(h.me q).mp hq;have:=aDa gs r12
 lia
abbrev lnY(ns:List Int)(rs:List Rim)(ys:List Tk)(q:Tk):List Tk:=ys.filterMap (jH ns rs q)
structure Rd(ns:List Int)(rs:List Rim)(ys row:List Tk)(n:Nat)(dn:List Tk)(kvs:List (Tke×U)):Prop where
 nd:(kvs.map (·.1)).Nodup
 inn:∀q∈kvs.map (·.1),q∈row
 val:∀q,dY kvs q=if q∈dn then some (.n (n:Int))else(lu (lnY ns rs ys) row n q).map λp:Nat=> .n (p:Int)
def Rd.len{ys row dn:List Tk}(h:Rd ns rs ys row n dn kvs):kvs.length<=row.length:=by
 have:=h.nd.length_le_of_subset (l₂:=row) h.inn
 rwa [Ab]at this
def Rd.put{ys row dn:List Tk}{q:Tk}(h:Rd ns rs ys row n dn kvs)(hq:q∈row):Rd ns rs ys row n (dn++[q]) (nF kvs q (.n (n:Int))):=by
 refine⟨aJp h.nd,λz hz=>(aGq.mp hz).elim (h.inn z) λe=>e▸hq,λz=>?_⟩;rw[aI2,h.val];by_cases e:z=q
 ·rw[if_pos e,if_pos (by simp[e])]
 ·rw[if_neg e];by_cases e2:z∈dn
  ·rw[if_pos e2,if_pos (by simp[e2])]
  ·rw[if_neg e2,if_neg (by simp[e2,e])]
def Rd.next{ys row dn:List Tk}{q0:Tk}(h:Rd ns rs ys row n dn kvs)(hr:row[n]? =some q0)(hd:∀z,z∈dn↔z∈lnY ns rs ys q0):Rd ns rs ys row (n+1) [] kvs:=by
 refine⟨h.nd,h.inn,λq=>?_⟩;rw[h.val,if_neg (by simp:q∉([]:List Tk))];rw[show lu (lnY ns rs ys) row (n+1) q=if(row[n]?).any (λr=>decide (q∈lnY ns rs ys r))then some n else lu (lnY ns rs ys) row n q from rfl,hr];show _=((if decide (q∈lnY ns rs ys q0)=true then some n else _):Option Nat).map _;by_cases e:q∈dn
 ·rw[if_pos e,if_pos (decide_eq_true ((hd q).mp e))];rfl
 ·rw[if_neg e,if_neg λz=>e ((hd q).mpr (of_decide_eq_true z))]
def Rd.zero{ys row:List Tk}:Rd ns rs ys row 0 [] []:=⟨Hg,nofun,λ_=>rfl⟩
def aKg(row:List Tk):yH (row.map tkU)=(row.zipIdx).map λx=> .tp [.n (x.2:Nat),tkU x.1]:=by
 unfold yH;rw[List.zipIdx_map,Bh];rfl
def aFg{l:List U}(e:u::l=(row.zipIdx.drop n).map λx=>U.tp [.n (x.2:Nat),tkU x.1]):∃q0,row[n]? =some q0/\u=.tp [.n (n:Nat),tkU q0]/\l=(row.zipIdx.drop (n+1)).map λx=>U.tp [.n (x.2:Nat),tkU x.1]:=by
 have hlt:n<row.zipIdx.length:=by
  have:=congrArg Bj e;simp at this;simp
  lia
 rw[Bd hlt,Au,Qk]at e;obtain⟨rfl,rfl⟩:=Bs e;rw[Qw]at hlt;exact⟨_,Aj hlt,by simp,rfl⟩
def aUr(P:Program)(w:World)(N:Cn)(CG CJ:Addr):Fv:=λus R=>∃ns rs t ys m r ls,∃row:List Tk,us=[uU N CG CJ ns rs t ys m r ls,.ls (row.map tkU)]/\jF ns/\rs.length=ns.length/\aQr ys ns.length/\0<=r/\r<=12/\vN ns r row/\∀g:Tk->U,(∀(j:Nat)(q:Tk),row[j]? =some q->g q=.n (((lu (lnY ns rs ys) row row.length q).getD j:Nat):Int))->R (.oo (pdO P w (kvU row g)))
def dW:aL ["job","row","leans","used","place","reader","made","last","spot"] ["job","row"] (aC uA):={}
def aRo(F:Fun K "last_use" "last_use" uA f fd)(c_leans_by_spot:Cal P w K mg base CX0 7 "leans_by_spot" ["job"] (spV (aZw P w N CG CJ)))(T:Txt mg):bC P w K mg base CX0 8 f fd ["job","row"] (spV (aUr P w N CG CJ)):=by
 refine vfn F dW (λcdv A outer s H E hr=>(aD (bA (i:=2) dW.nd (aO c_leans_by_spot (hr.mono ⋯) rfl (aB (aA 0) aH))) (aD (bA (i:=3) dW.nd (sG (P:=P) (w:=w) rfl rfl)) (aD (dC Aw rfl (zB T.enumerate (aB (aA 1) aH)) (wO rfl (fG (i:=4) dW.nd (fG (i:=5) dW.nd sU))) (aF (dC Aw rfl (bV (aT3 (P:=P) (w:=w) rfl rfl hr (aA 2) (aA 5))) (cX (i:=6) dW.nd) (aF (sW (P:=P) (w:=w) 3 rfl rfl hr (aA 6) (aA 4)))))) (aD (bA (i:=7) dW.nd (sG (P:=P) (w:=w) rfl rfl)) (aD (dC Aw rfl (zB T.enumerate (aB (aA 1) aH)) (wO rfl (fG (i:=4) dW.nd (fG (i:=8) dW.nd sU))) (aF (sW (P:=P) (w:=w) 7 rfl rfl hr (aA 8) (aJ0 (P:=P) (w:=w) rfl rfl hr (aA 3) (aA 8) (aA 4))))) (aF (eU 7)))))))) ?_;rintro _ R ⟨ns,rs,t,ys,m,r,ls,row,rfl,gs,el,gy,r0,r12,ro,q⟩;have rl:=ro.len gs r12;refine⟨rfl,ns,rs,t,ys,m,r,ls,rfl,gs,el,gy,r0,r12,λlg hlg=>?_⟩;refine bM (λl ρ=>∃(n:Nat)(kvs:List (Tke×U))(a b c:Sl),l=(row.zipIdx.drop n).map (λx=>U.tp [.n (x.2:Nat),tkU x.1])/\n<=row.length/\Rd ns rs ys row n [] kvs/\ρ=[.sh (uU N CG CJ ns rs t ys m r ls),.sh (.ls (row.map tkU)),.oo (pdO P w (kvU (spS ns r.toNat) λq=> .ls ((lg q).map tkU))),.oo (pdO P w kvs),a,b,c,.no,.no]) ?_ ?_ ⟨0,[],_,_,_,aKg row,Ay _,Rd.zero,rfl⟩
 ·rintro ρ ⟨n,used,a,b,c,e1,hn,hu,rfl⟩;obtain rfl:n=row.length:=by
   have:=congrArg Bj e1;simp at this
   lia
  refine bM (λl ρ=>∃(n:Nat)(g:Tk->U)(a b c e:Sl),l=(row.zipIdx.drop n).map (λx=>U.tp [.n (x.2:Nat),tkU x.1])/\n<=row.length/\(∀(j:Nat)(q:Tk),j<n->row[j]? =some q->g q=.n (((lu (lnY ns rs ys) row row.length q).getD j:Nat):Int))/\ρ=[.sh (uU N CG CJ ns rs t ys m r ls),.sh (.ls (row.map tkU)),.oo (pdO P w (kvU (spS ns r.toNat) λq=> .ls ((lg q).map tkU))),.oo (pdO P w used),a,b,c,.oo (pdO P w (kvU (row.take n) g)),e]) ?_ ?_ ⟨0,λ_=> .no,_,_,_,_,aKg row,Ay _,nofun,rfl⟩
  ·rintro ρ ⟨n,g,a,b,c,e,e1,hn,hg,rfl⟩;obtain rfl:n=row.length:=by
    have:=congrArg Bj e1;simp at this
    lia
   rw[Fe];exact q g λj q0 hj=>hg j q0 (List.getElem?_eq_some_iff.mp hj).1 hj
  ·rintro u l ρ ⟨n,g,a,b,c,e,e1,hn,hg,rfl⟩ ih;obtain⟨q0,hq0,rfl,rfl⟩:=aFg e1;have hlt:=(List.getElem?_eq_some_iff.mp hq0).1;have nin:q0∉row.take n:=λz=>by
    obtain⟨j,hj⟩:=List.mem_iff_getElem?.mp z;rw[Qx]at hj;split at hj
    ·rename_i hjn;have:=(Gy ∅ ro.nd).mp (hj.trans hq0.symm)
     lia
    ·cases hj
   refine⟨rfl,used,.inl rfl,q0,rfl,_,rfl,by unfold kvU;rw[Ab,Bu];lia,q0,rfl,?_⟩;rw[aD7 nin,show row.take n++[q0]=row.take (n+1) by rw[Lc,hq0];rfl];refine ih _ ⟨n+1,_,_,_,_,_,rfl,hlt,λj q1 hj h1=>?_,rfl⟩;by_cases e:q1=q0
   ·subst e;have:=(Gy hlt ro.nd).mp (hq0.trans h1.symm);subst this;rw[if_pos rfl,hu.val,if_neg (by simp)];cases lu (lnY ns rs ys) row row.length q1<;>rfl
   ·rw[if_neg e];refine hg j q1 ?_ h1;have:j≠n:=λz=>e (by rw[z,hq0]at h1;exact(Bk h1).symm)
    lia
 ·rintro u l ρ ⟨n,kvs,a,b,c,e1,hn,hu,rfl⟩ ih;obtain⟨q0,hq0,rfl,rfl⟩:=aFg e1;have hlt:=(List.getElem?_eq_some_iff.mp hq0).1;have hq:=(ro.me q0).mp (Ba hq0);have hz:=hlg q0 hq;refine⟨rfl,_,q0,_,.inl rfl,rfl,aDr hq,?_⟩;refine bM (λl ρ=>∃(dn rt:List Tk)(kvs:List (Tke×U))(c:Sl),l=rt.map tkU/\dn++rt=lg q0/\Rd ns rs ys row n dn kvs/\ρ=[.sh (uU N CG CJ ns rs t ys m r ls),.sh (.ls (row.map tkU)),.oo (pdO P w (kvU (spS ns r.toNat) λq=> .ls ((lg q).map tkU))),.oo (pdO P w kvs),.sh (.n (n:Nat)),.sh (tkU q0),c,.no,.no]) ?_ ?_ ⟨[],lg q0,kvs,_,rfl,rfl,hu,rfl⟩
  ·rintro ρ ⟨dn,rt,kvs,c,e1,e2,hu,rfl⟩;obtain rfl:rt=[]:=List.map_eq_nil_iff.mp e1.symm;rw[Bf]at e2;subst e2;exact ih _ ⟨n+1,kvs,_,_,_,rfl,hlt,hu.next hq0 hz.2,rfl⟩
  ·rintro u2 l2 ρ ⟨dn,rt,kvs,c,e1,e2,hu,rfl⟩ ih2;cases rt with
   |nil=>cases e1
   |cons z rt=>
    cases e1;have hz':z∈row:=(ro.me z).mpr (aJt gs el hq gy.gt ((hz.2 z).mp (by rw[<-e2];simp)));have:=hu.len;exact⟨kvs,rfl,∅,z,rfl,ih2 _ ⟨dn++[z],rt,_,_,rfl,by rw[<-e2];simp,hu.put hz',rfl⟩⟩
theorem aCw{α β:Type}{f:α->β}:∀{l:List α}{n:Nat},(l.map f).eraseIdx n=(l.eraseIdx n).map f
 | [],_=>rfl
 |_::_,0=>rfl
 |a::l,n+1=>congrArg (f a::·) aCw
theorem aAl{α:Type}{q:α}:∀{l:List α}{n:Nat},l[n]? =some q->(q::l.eraseIdx n).Perm l
 | [],_,h=>by simp at h
 |a::l,0,h=>by
  obtain rfl:a=q:=by simpa using h
  exact Fu _
 |a::l,n+1,h=>(Lq a q _).trans ((aAl (l:=l) (n:=n) (by simpa using h)).cons a)
def aYy:Fv:=λus R=>∃l:List Tk,us=[.wl,.ls (l.map tkU)]/\l.length<=480/\∀row:List Tk,row.Perm l->R (.ow (row.map tkU))
def rD:aL ["_law_well_here","_law_spots","_law_left","_law_row_here"] ["_law_well_here","_law_spots"] (aC uG):={}
def aXh(F:Fun K "_law_row" "_law_row" uG f fd)(c__law_draw:Cal P w K mg base CX0 3 "_law_draw" ["_law_well_here","_law_most"] (spV aAm))(T:Txt mg):bC P w K mg base CX0 4 f fd ["_law_well_here","_law_spots"] (spV aYy):=by
 refine vfn F rD (λcdv A outer s H E hr=>(aD (bA (i:=2) rD.nd (dH (iG rfl) pR T.list Io (aN (aA 1) aU))) (aD (bA (i:=3) rD.nd (bZ aH)) (aD (aA7 Aw (cO (aBc (huD hr)) lG (aA 2) (bZ aH)) (aF (aRv 3 2 (aO c__law_draw (hr.mono ⋯) rfl (aB (aA 0) (aB (bD aV dI T.len Dw (aN (aA 2) aU)) aH)))))) (aF (eU 3)))))) ?_;rintro _ R ⟨l,rfl,ll,q⟩;refine⟨rfl,?_⟩;refine⟨λk ρ=>∃left row:List Tk,ρ=[.sh .wl,.sh (.ls (l.map tkU)),.ow (left.map tkU),.ow (row.map tkU)]/\(row++left).Perm l/\left.length=k,⟨l.length,l,[],rfl,Fu _,rfl⟩,?_⟩;rintro k _ ⟨left,row,rfl,hp,rfl⟩;have hl:=hp.length_eq;rw[Ag]at hl;refine⟨aDt 37 _,trivial,λh=>?_,λh=>?_⟩
 ·have ne:left≠[]:=λz=>by rw[z]at h;cases h
  have pos:0<left.length:=List.length_pos_iff.mpr ne;refine⟨_,_,⋯,rfl,rfl,by rw[Ab];lia,by rw[Ab];lia,_,rfl,by rw[Ab];lia,by rw[Ab];lia,λi i0 il=>?_⟩;rw[Ab]at il;obtain⟨q1,hq1⟩:∃q1,left[i.toNat]? =some q1:=⟨_,Aj ∅⟩;refine⟨i.toNat,tkU q1,by show U.n i=U.n ((i.toNat:Nat):Int);rw[Int.toNat_of_nonneg i0],by rw[Ax,hq1];rfl,(left.eraseIdx i.toNat).length,?_,left.eraseIdx i.toNat,row++[q1],?_,?_,rfl⟩
  ·rw[Qb];split<;>lia
  ·rw[Bb,aCw];rfl
  ·refine List.Perm.trans ?_ hp;rw[Bi];refine Ni row ?_;exact aAl hq1
 ·have:left=[]:=by
   cases left with
   |nil=>rfl
   |cons=>cases h
  subst this;rw[Bf]at hp;exact q row hp
theorem aJr:∀(ns:List Int)(ps:List (List Int)),(∀n∈ns,n<=9)->(∀p∈ps,∀x∈p,0<=x/\x<=8)->∀p∈ns.foldl (λps n=>ps.flatMap (ext n)) ps,∀x∈p,0<=x/\x<=8
 | [],_,_,hp=>hp
 |n::ns,ps,h,hp=>aJr ns (ps.flatMap (ext n)) (λx hx=>h x (Ae _ hx)) λp hq=>by
  obtain⟨p0,h0,h1⟩:=List.mem_flatMap.mp hq;obtain⟨i,hi,rfl⟩:=List.mem_map.mp h1;have hn:=h n Af;have hi:=List.mem_range.mp hi;refineλx hx=>(List.mem_append.mp hx).elim (hp p0 h0 x) λhx=>?_;rw[List.mem_singleton.mp hx]
  lia
theorem aE0:∀(ns:List Int)(ps:List (List Int))(B:Int),(∀n∈ns,1<=n)->(∀p∈ps,0<=plP p/\plP p<=B)->∀p∈ns.foldl (λps n=>ps.flatMap (ext n)) ps,plP p<=ns.foldl (λa n=>a*n) B
 | [],_,_,_,hp=>λp h=>(hp p h).2
 |n::ns,ps,B,h,hp=>aE0 ns (ps.flatMap (ext n)) (B*n) (λx hx=>h x (Ae _ hx)) λp hq=>by
  obtain⟨p0,h0,h1⟩:=List.mem_flatMap.mp hq;obtain⟨i,hi,rfl⟩:=List.mem_map.mp h1;have hn:=h n Af;have hi:=List.mem_range.mp hi;obtain⟨a,b⟩:=hp p0 h0;have e:plP (p0++[0+(i:Int)])=plP p0*(0+(i:Int)+1):=by unfold plP;rw[Rm];rfl
  rw[e];exact⟨Ir a ∅,Ue b ∅ ∅ ∅⟩
def aO5(gs:jF ns)(r12:r<=12)(ro:vN ns r row):(row.map (cT (intKind P w)).hash).Nodup:=by
 unfold Rn;rw[Dn];have ok:∀q∈row,1<=q.1/\q.1<=12/\q.2.length=ns.length/\(∀a∈q.2,0<=a/\a<=8)/\plP q.2<=40:=λq hq=>by
  have hs:=(ro.me q).mp hq;obtain⟨g1,g2⟩:=yZ gs hs;have:=aOe hs;refine⟨g2,∅,g1.l,?_⟩;obtain⟨j,_,hs⟩:=List.mem_flatMap.mp hs;obtain⟨p,hp,rfl⟩:=List.mem_map.mp hs;exact⟨aJr ns [[]] (λn hn=>(gs.ok n hn).2) (λp hp=>by rw[List.mem_singleton.mp hp];exact nofun) p hp,Gn (aE0 ns [[]] 1 (λn hn=>(gs.ok n hn).1) (λp hp=>by rw[List.mem_singleton.mp hp];decide) p hp) gs.mn⟩
 refine(List.Pairwise.and_mem.mp ro.nd).imp λ{x y} h e=>h.2.2 (aYl (n:=ns.length) gs.l1 gs.l3 (ok x h.1) (ok y h.2.1) e)
def aYn(P:Program)(w:World):Fv:=λus R=>∃ns rs pl r ys dp m t ls sp,∃row:List Tk,us=[wU ns rs pl r ys dp m t ls sp,.ls (row.map tkU)]/\GoodW ns rs r ys m t ls/\vN ns r row/\∀kvs,kvs.length=row.length->(∀(j:Nat)(q:Tk),row[j]? =some q->dY kvs q=some (.n (((lu (lnY ns rs ys) row row.length q).getD j:Nat):Int)))->R (.oo (pdO P w kvs))
def fX:aL ["_law_world_here","_law_row_here","_law_due_here","_law_number","_law_found","_law_read","_law_spot","_law_one"] ["_law_world_here","_law_row_here"] (aC uP):={}
def aX7(F:Fun K "_law_due" "_law_due" uP f fd)(c__law_leans:Cal P w K mg base CX0 2 "_law_leans" ["_law_world_here","_law_spot"] (spV aJa))(T:Txt mg):bC P w K mg base CX0 3 f fd ["_law_world_here","_law_row_here"] (spV (aYn P w)):=by
 refine vfn F fX (λcdv A outer s H E hr=>(aD (bA (i:=2) fX.nd (sG (P:=P) (w:=w) rfl rfl)) (aD (dC Aw rfl (jC T.range (aN (bD aV dI T.len Dw (aN (aA 1) aU)) aU)) (cX (i:=3) fX.nd) (aF (sW (P:=P) (w:=w) 2 rfl rfl hr (bW bF bY (aA 1) (aA 3)) (aA 3)))) (aD (bA (i:=4) fX.nd (aNi (P:=P) (w:=w) rfl rfl rfl T.dict (aA 2))) (aD (bA (i:=5) fX.nd (sG (P:=P) (w:=w) rfl rfl)) (aD (dC Aw rfl (bV (aA 1)) (cX (i:=6) fX.nd) (aF (dC Aw rfl (bV (aO c__law_leans (hr.mono ⋯) rfl (aB (aA 0) (aB (aA 6) aH)))) (cX (i:=7) fX.nd) (aF (sW (P:=P) (w:=w) 5 rfl rfl hr (aA 7) (bD (aL7 rfl) aVe T.max boot_max (aN (aT3 (P:=P) (w:=w) rfl rfl hr (aA 2) (aA 6)) (aN (aJ0 (P:=P) (w:=w) rfl rfl hr (aA 5) (aA 7) aG) aU)))))))) (lR 5 (aD (aTp (P:=P) (w:=w) 4 rfl rfl hr (aA 5)) (aF (eU 4)))))))))) ?_;rintro _ R ⟨ns,rs,pl,r,ys,dp,m,t,ls,sp,row,rfl,gw,ro,q⟩;have gy:=aOz gw.gj.ok gw.gj.ln gw.tk;have gs:=gw.gj.gs;have rl:=ro.len gs gw.gj.r0.2;have zn:∀{z:Tk}{dn:List Tk}{n:Nat}{kvs:List (Tke×U)},Rd ns rs ys row n dn kvs->∃j:Nat,(dY kvs z).getD (.n 0)=.n (j:Int)/\j<=n:=λ{z dn n kvs} hu=>by
  rw[hu.val];split
  ·exact⟨n,rfl,Am _⟩
  ·cases h:lu (lnY ns rs ys) row n z with
   |none=>exact⟨0,rfl,Ay _⟩
   |some p=>exact⟨p,rfl,En (aYs h)⟩
 refine⟨rfl,by rw[Ab];lia,by rw[Ab];lia,?_⟩;rw[Ab,Hi];refine bM (λl ρ=>∃(n:Nat)(g:Tk->U)(a:Sl),l=(Iz n (row.length-n)).map (λi:Nat=>U.n (0+(i:Int)))/\n<=row.length/\(∀(j:Nat)(q:Tk),j<n->row[j]? =some q->g q=.n (j:Int))/\ρ=[.sh (wU ns rs pl r ys dp m t ls sp),.sh (.ls (row.map tkU)),.oo (pdO P w (kvU (row.take n) g)),a,.no,.no,.no,.no]) ?_ ?_ ⟨0,λ_=> .no,_,by rw[Jw, <-Ga];rfl,Ay _,nofun,rfl⟩
 ·rintro ρ ⟨n,g,a,e1,hn,hg,rfl⟩;obtain rfl:n=row.length:=by
   have:=congrArg Bj e1;simp at this
   lia
  rw[Fe];have kl:(kvU row g).length=row.length:=by unfold kvU;rw[Ab]
  refine⟨_,.inl rfl,?_,∅,?_⟩
  ·rw[aA0];exact aO5 gs gw.gj.r0.2 ro
  refine bM (λl ρ=>∃(n:Nat)(kvs:List (Tke×U))(b c:Sl),l=(row.drop n).map tkU/\n<=row.length/\Rd ns rs ys row n [] kvs/\ρ=[.sh (wU ns rs pl r ys dp m t ls sp),.sh (.ls (row.map tkU)),.oo (pdO P w (kvU row g)),a,.oo (pdO P w (kvU row g)),.oo (pdO P w kvs),b,c]) ?_ ?_ ⟨0,[],_,_,rfl,Ay _,Rd.zero,rfl⟩
  ·rintro ρ ⟨n,kvs,b,c,e1,hn,hu,rfl⟩;obtain rfl:n=row.length:=by
    have:=congrArg Bj e1;simp at this
    lia
   have hin:∀p∈kvs,p.1∈(kvU row g).map (·.1):=λp hp=>by
    rw[aA0];exact hu.inn p.1 (List.mem_map.mpr ⟨p,hp,rfl⟩)
   refine⟨_,rfl,kvs,rfl,hin,q _ (by rw[aSf hin,kl]) λj q0 hj=>?_⟩;rw[aRi hu.nd,hu.val,if_neg (by simp),aDr (Ba hj),hg j q0 (List.getElem?_eq_some_iff.mp hj).1 hj];cases lu (lnY ns rs ys) row row.length q0<;>rfl
  ·rintro u l ρ ⟨n,kvs,b,c,e1,hn,hu,rfl⟩ ih;have hlt:n<row.length:=by
    have:=congrArg Bj e1;simp at this
    lia
   rw[Bd hlt,Au]at e1;obtain⟨rfl,rfl⟩:=Bs e1;have hq0:row[n]? =some row[n]:=Aj hlt;generalize row[n]=q0 at hq0;have hq:=(ro.me q0).mp (Ba hq0);obtain⟨gq,_⟩:=yZ gs hq;refine⟨ns,rs,pl,r,ys,dp,m,t,ls,sp,q0,rfl,gw,gq,λvs hv=>?_⟩;refine bM (λl ρ=>∃(dn rt:List Tk)(kvs:List (Tke×U))(c:Sl),l=rt.map tkU/\dn++rt=vs/\Rd ns rs ys row n dn kvs/\ρ=[.sh (wU ns rs pl r ys dp m t ls sp),.sh (.ls (row.map tkU)),.oo (pdO P w (kvU row g)),a,.oo (pdO P w (kvU row g)),.oo (pdO P w kvs),.sh (tkU q0),c]) ?_ ?_ ⟨[],vs,kvs,_,rfl,rfl,hu,rfl⟩
   ·rintro ρ ⟨dn,rt,kvs,c,e1,e2,hu,rfl⟩;obtain rfl:rt=[]:=List.map_eq_nil_iff.mp e1.symm;rw[Bf]at e2;subst e2;exact ih _ ⟨n+1,kvs,_,_,rfl,hlt,hu.next hq0 hv.2,rfl⟩
   ·rintro u2 l2 ρ ⟨dn,rt,kvs,c,e1,e2,hu,rfl⟩ ih2;cases rt with
    |nil=>cases e1
    |cons z rt=>
     cases e1;have hz':z∈row:=(ro.me z).mpr (aJt gs gw.gj.el hq gy.gt ((hv.2 z).mp (by rw[<-e2];simp)));have:=hu.len;obtain⟨j,hj,jn⟩:=zn (z:=z) hu;refine⟨_,q0,_,.inl rfl,rfl,(aDr (Ba hq0)).trans (by rw[hg n q0 hlt hq0]),kvs,.inl rfl,z,rfl,?_⟩;rw[hj];refine⟨kvs,rfl,∅,z,rfl,?_⟩;show mX _ _ _ (rt.map tkU) [.sh (wU ns rs pl r ys dp m t ls sp),.sh (.ls (row.map tkU)),.oo (pdO P w (kvU row g)),a,.oo (pdO P w (kvU row g)),.oo (pdO P w (nF kvs z (U.n (if(j:Int)>(n:Int)then(j:Int)else(n:Int))))),.sh (tkU q0),.sh (tkU z)];rw[if_neg ∅];exact ih2 _ ⟨dn++[z],rt,_,_,rfl,by rw[<-e2];simp,hu.put hz',rfl⟩
 ·rintro u l ρ ⟨n,g,a,e1,hn,hg,rfl⟩ ih;have hlt:n<row.length:=by
   have:=congrArg Bj e1;simp at this
   lia
  rw[show row.length-n=(row.length-(n+1))+1 by lia,Gh,Au]at e1;obtain⟨rfl,rfl⟩:=Bs e1;have hq0:row[n]? =some row[n]:=Aj hlt;generalize row[n]=q0 at hq0;have nin:q0∉row.take n:=λz=>by
   obtain⟨j,hj⟩:=List.mem_iff_getElem?.mp z;rw[Qx]at hj;split at hj
   ·have:=(Gy ∅ ro.nd).mp (hj.trans hq0.symm)
    lia
   ·cases hj
  refine⟨_,rfl,by unfold kvU;rw[Ab,Bu];lia,tkU q0,by rw[Lz];exact sO (by rw[Ax,hq0];rfl),q0,rfl,?_⟩;rw[aD7 nin,show row.take n++[q0]=row.take (n+1) by rw[Lc,hq0];rfl];refine ih _ ⟨n+1,_,_,rfl,hlt,λj q1 hj h1=>?_,rfl⟩;by_cases e:q1=q0
  ·subst e;have:=(Gy hlt ro.nd).mp (hq0.trans h1.symm);subst this;rw[if_pos rfl,Lz]
  ·rw[if_neg e];refine hg j q1 ?_ h1;have:j≠n:=λz=>e (by rw[z,hq0]at h1;exact(Bk h1).symm)
   lia
theorem aFq:∀l:List Int,U.tts (l.map U.n)
 | []=>trivial
 |_::l=>⟨trivial,aFq l⟩
theorem aJf:∀l:List Tk,U.tts (l.map tkU)
 | []=>trivial
 |q::l=>⟨⟨trivial,aFq q.2,trivial⟩,aJf l⟩
def aQx{l:List U}(h:u∈aIg l lo hi):u∈l:=Kb (Ka h)
def aQu{l:List U}:(aIg l lo hi).length<=l.length:=by
 unfold aIg;rw[Bu,Ej]
 lia
def aPv(K:Ac):Fv:=λus R=>∃sc:List Int,us=[.op (aDx K sc)]/\R (.sh (.b true))
def qM:aL ["_law_script","_law_k","_law_world_here","_law_job_here","_law_rows","_law_row_here","_law_handed","_law_found"] ["_law_script"] (aC aC1):={}
def aXb(F:Fun K "law" "law" aC1 f fd)(c__law_world:Cal P w K mg base CX0 30 "_law_world" ["_law_script","_law_k","_law_most"] (spV (aOf K)))(c__law_job:Cal P w K mg base CX0 30 "_law_job" ["_law_world_here"] (spV (aTx N CG CJ)))(c__law_well:Cal P w K mg base CX0 2 "_law_well" ["_law_script","_law_k"] (spV (aPb K)))(c__law_row:Cal P w K mg base CX0 4 "_law_row" ["_law_well_here","_law_spots"] (spV aYy))(c_last_use:Cal P w K mg base CX0 8 "last_use" ["job","row"] (spV (aUr P w N CG CJ)))(c__law_due:Cal P w K mg base CX0 3 "_law_due" ["_law_world_here","_law_row_here"] (spV (aYn P w)))(T:Txt mg):bC P w K mg base CX0 31 f fd ["_law_script"] (spV (aPv K)):=by
 refine vfn F qM (λcdv A outer s H E hr=>(aD (dC Aw rfl (xM T.range (aN aG (aN aG aU))) (cX (i:=1) qM.nd) (aD (bA (i:=2) qM.nd (aO c__law_world (hr.mono ⋯) rfl (aB (aA 0) (aB (aA 1) (aB aG aH))))) (aD (bA (i:=3) qM.nd (aO c__law_job (hr.mono ⋯) rfl (aB (aA 2) aH))) (aD (bA (i:=4) qM.nd (bZ (aB (lA (qC hr) (aA 2)) (aB (aWo (lA (qC hr) (aA 2))) (aB (aM2 c__law_row (hr.mono ⋯) rfl (aTi (aO c__law_well (hr.mono ⋯) rfl (aB (aA 0) (aB (aX bB bK (aA 1) aG) aH))) (aB (lA (qC hr) (aA 2)) aH))) aH))))) (aF (dC Aw rfl (bV (aX bB bK (aA 4) (bA6 (aA 4) aTg (aRm aG)))) (cX (i:=5) qM.nd) (aD (bA (i:=6) qM.nd (dH (iG rfl) pR T.list Io (aN (aA 5) aU))) (lR 6 (aD (bA (i:=7) qM.nd (aO c_last_use (hr.mono ⋯) rfl (aB (aA 3) (aB (aA 6) aH)))) (aD (dF (wD (vL (gK (iH (aV5 (P:=P) (w:=w) rfl rfl T.isinstance T.dict (aA 7)))) (vL (aWx (P:=P) (w:=w) rfl rfl hr (aA 7) (aO c__law_due (hr.mono ⋯) rfl (aB (aA 2) (aB (aA 5) aH)))) (rF (cO (aBc (huD hr)) lG (aA 6) (aA 5)))))) (aF (aY yF)) bN) (aF (aWh (P:=P) (w:=w) 7 rfl rfl)))))))))))) (aF (aY yF)))) ?_;rintro _ R ⟨sc,rfl,q⟩;refine⟨rfl,⟨⋯,⋯,⋯,⋯⟩,?_⟩;refine bM (λl ρ=>(∀u∈l,∃k:Nat,u=.n (k:Int))/\∃a b c d e x y:Sl,ρ=[.sh (.op (aDx K sc)),a,b,c,d,e,x,y]) ?_ ?_ ⟨λu hu=>?_,_,_,_,_,_,_,_,rfl⟩
 ·rintro ρ ⟨_,a,b,c,d,e,x,y,rfl⟩;exact q
 ·rintro u l ρ ⟨hl,a,b,c,d,e,x,y,rfl⟩ ih;obtain⟨k,rfl⟩:=hl u Af;refine⟨sc,k,60,rfl,⋯,⋯,λns rs r ys dp m t ls g=>?_⟩;rw[aHy];refine⟨ns,rs,_,r,ys,dp,m,t,ls,_,rfl,g,λzs hz=>?_⟩;obtain rfl:zs=ys:=hz.uniq g.tk;have gy:=aOz g.gj.ok g.gj.ln g.tk;have gs:=g.gj.gs;have sl:=aDa gs g.gj.r0.2;have r1:vN ns r (spS ns r.toNat):=⟨aOk (aMq _ _),λ_=>Ls⟩;refine wF 9 rfl rfl (wF 9 rfl rfl ⟨sc,k+2,rfl,λa b c=>wF 9 rfl rfl ⟨spS ns r.toNat,rfl,sl,λrow hp=>⟨aJf row,?_⟩⟩⟩);have r3:vN ns r row:=⟨(hp.nodup_iff).mpr r1.nd,λq=>hp.mem_iff⟩;have r2:vN ns r (spS ns r.toNat).reverse:=⟨(List.reverse_perm _).nodup_iff.mpr r1.nd,λq=>List.mem_reverse⟩;refine⟨Cc (Qu aQu _) (show 3+3<=10000 by decide),bM (λl ρ=>(∀u∈l,∃row:List Tk,vN ns r row/\u=.ls (row.map tkU))/\∃x y z v:Sl,ρ=[.sh (.op (aDx K sc)),.sh (.n (k:Int)),.sh (wU ns rs (plU ns) r zs dp m t ls ((spS ns r.toNat).map tkU)),.sh (uU N CG CJ ns rs t zs m r ls),x,y,z,v]) ?_ ?_ ⟨λu hu=>?_,_,_,_,_,rfl⟩⟩
  ·rintro ρ ⟨_,x,y,z,v,rfl⟩;exact ih _ ⟨λu hu=>hl u (Ae _ hu),_,_,_,_,_,_,_,rfl⟩
  ·rintro u2 l2 ρ ⟨hl2,x,y,z,v,rfl⟩ ih2;obtain⟨row,ro,rfl⟩:=hl2 u2 Af;have rl:=ro.len gs g.gj.r0.2;refine⟨ns,rs,t,zs,m,r,ls,row,rfl,gs,g.gj.el,gy,g.gj.r0.1,g.gj.r0.2,ro,λgf hg=>?_⟩;have kl:(kvU row gf).length=row.length:=by unfold kvU;rw[Ab]
   refine⟨⟨_,.inl rfl⟩,nofun,λ_=>⟨ns,rs,_,r,zs,dp,m,t,ls,_,row,rfl,g,ro,λkvs h1 h2=>⟨_,kvs,.inl rfl,.inr (.inl rfl),by rw[kl,h1],λp hp=>?_,nofun,λ_=>⟨aDt 37 _,aDt 37 _,λh=>?_,λ_=>⟨_,rfl,∅,ih2 _ ⟨λu hu=>hl2 u (Ae _ hu),_,_,_,_,rfl⟩⟩⟩⟩⟩⟩
   ·obtain⟨q0,hq,rfl⟩:=List.mem_map.mp hp;obtain⟨j,hj⟩:=List.mem_iff_getElem?.mp hq;exact⟨_,hg j q0 hj,h2 j q0 hj⟩
   ·have h:(!U.eq (.ls (row.map tkU)) (.ls (row.map tkU)))=true:=h;rw[aWr]at h;cases h
  ·have hu:u∈[U.ls ((spS ns r.toNat).map tkU),.ls ((spS ns r.toNat).map tkU).reverse,.ls (row.map tkU)]:=(List.mem_append.mp hu).elim id aQx;rcases List.mem_cons.mp hu with h|h
   ·exact⟨_,r1,h⟩
   ·rcases List.mem_cons.mp h with h|h
    ·exact⟨_,r2,by rw[h,List.map_reverse]⟩
    ·exact⟨_,r3,List.mem_singleton.mp h⟩
 ·unfold qJ at hu;obtain⟨i,_,rfl⟩:=List.mem_map.mp hu;exact⟨1+i,by simp⟩
def tag:Tm->Nat
 |.num _=>0
 |.take _ _=>1
 |.rest _ _=>2
 |.cho _ _ _=>3
 |.bin k _ _=>4+k.val
def zW(N:Cn):List Addr:=[N.num,N.take,N.rest,N.cho,N.bin 0,N.bin 1,N.bin 2,N.bin 3,N.bin 4]
def aIf(N:Cn):∀t:Tm,(zW N)[tag t]? =some (cls N t)
 |.num _=>rfl
 |.take _ _=>rfl
 |.rest _ _=>rfl
 |.cho _ _ _=>rfl
 |.bin k _ _=>by
  match k with
  |0=>rfl
  |1=>rfl
  |2=>rfl
  |3=>rfl
  |4=>rfl
def aBe{N:Cn}(nd:(zW N).Nodup){t u:Tm}(h:cls N t=cls N u):tag t=tag u:=by
 have h1:=aIf N t;have h2:=aIf N u;rw[h]at h1;exact(Gy (List.getElem?_eq_some_iff.mp h1).1 nd).mp (h1.trans h2.symm)
def aOr{N:Cn}(nd:(zW N).Nodup)(h:cls N t=N.num):∃n,t=.num n:=by
 have:=aBe nd (u:=.num 0) h;cases t<;>simp[tag]at this<;>first|exact⟨_,rfl⟩|lia
def aDi{N:Cn}(nd:(zW N).Nodup)(h:cls N t=N.take):∃b ss,t=.take b ss:=by
 have:=aBe nd (u:=.take 0 []) h;cases t<;>simp[tag]at this<;>first|exact⟨_,_,rfl⟩|lia
def aKl{N:Cn}(nd:(zW N).Nodup)(h:cls N t=N.rest):∃a y,t=.rest a y:=by
 have:=aBe nd (u:=.rest (.num 0) 0) h;cases t<;>simp[tag]at this<;>first|exact⟨_,_,rfl⟩|lia
def aVt{N:Cn}(nd:(zW N).Nodup)(h:cls N t=N.cho):∃a b c,t=.cho a b c:=by
 have:=aBe nd (u:=.cho (.num 0) (.num 0) (.num 0)) h;cases t<;>simp[tag]at this<;>first|exact⟨_,_,_,rfl⟩|lia
def aV2{N:Cn}(nd:(zW N).Nodup){k:Fin 5}(h:cls N t=N.bin k):∃a b,t=.bin k a b:=by
 have:=aBe nd (u:=.bin k (.num 0) (.num 0)) h;cases t with
 |bin j a b=>
  have e:j=k:=Fin.ext (by simp only[tag]at this;lia);exact⟨a,b,by rw[e]⟩
 |_=>simp[tag]at this<;>lia
def knS{P:List Value->Prop}(h:us.length=n+1)(k:∀a t,t.length=n->P (a::t)):P us:=by
 cases us with
 |nil=>cases h
 |cons a t=>exact k a t (Es h)
def kn1{P:List Value->Prop}(h:us.length=1)(k:∀a,P [a]):P us:=knS h λa t ht=>by cases t with|nil=>exact k a|cons=>cases ht
def kn2{P:List Value->Prop}(h:us.length=2)(k:∀a b,P [a,b]):P us:=knS h λa t ht=>kn1 (P:=λt=>P (a::t)) ht λb=>k a b
def kn3{P:List Value->Prop}(h:us.length=3)(k:∀a b c,P [a,b,c]):P us:=knS h λa t ht=>kn2 (P:=λt=>P (a::t)) ht λb c=>k a b c
def kn4{P:List Value->Prop}(h:us.length=4)(k:∀a b c d,P [a,b,c,d]):P us:=knS h λa t ht=>kn3 (P:=λt=>P (a::t)) ht λb c d=>k a b c d
def kn5{P:List Value->Prop}(h:us.length=5)(k:∀a b c d e,P [a,b,c,d,e]):P us:=knS h λa t ht=>kn4 (P:=λt=>P (a::t)) ht λb c d e=>k a b c d e
def kn6{P:List Value->Prop}(h:us.length=6)(k:∀a b c d e f,P [a,b,c,d,e,f]):P us:=knS h λa t ht=>kn5 (P:=λt=>P (a::t)) ht λb c d e f=>k a b c d e f
def kb1{fd:FuncData}(h:us.length=1)(k:∀a,bindArgs fd ⟨[a],[]⟩=pure (ps.zip [a])):bindArgs fd ⟨us,[]⟩=pure (ps.zip us):=kn1 (P:=λus=>bindArgs fd ⟨us,[]⟩=pure (ps.zip us)) h k
def kb2{fd:FuncData}(h:us.length=2)(k:∀a b,bindArgs fd ⟨[a,b],[]⟩=pure (ps.zip [a,b])):bindArgs fd ⟨us,[]⟩=pure (ps.zip us):=kn2 (P:=λus=>bindArgs fd ⟨us,[]⟩=pure (ps.zip us)) h k
def kb3{fd:FuncData}(h:us.length=3)(k:∀a b c,bindArgs fd ⟨[a,b,c],[]⟩=pure (ps.zip [a,b,c])):bindArgs fd ⟨us,[]⟩=pure (ps.zip us):=kn3 (P:=λus=>bindArgs fd ⟨us,[]⟩=pure (ps.zip us)) h k
def kb4{fd:FuncData}(h:us.length=4)(k:∀a b c d,bindArgs fd ⟨[a,b,c,d],[]⟩=pure (ps.zip [a,b,c,d])):bindArgs fd ⟨us,[]⟩=pure (ps.zip us):=kn4 (P:=λus=>bindArgs fd ⟨us,[]⟩=pure (ps.zip us)) h k
def kb6{fd:FuncData}(h:us.length=6)(k:∀a b c d e f,bindArgs fd ⟨[a,b,c,d,e,f],[]⟩=pure (ps.zip [a,b,c,d,e,f])):bindArgs fd ⟨us,[]⟩=pure (ps.zip us):=kn6 (P:=λus=>bindArgs fd ⟨us,[]⟩=pure (ps.zip us)) h k
abbrev GN(K:Ac)(n:Str)(f:Addr):Prop:=Od K mainGlobals n=some (some (.ref f))
abbrev FI(K:Ac)(C:Addr)(n:Str)(f:Addr):Prop:=Dd K (.ref C) n=some (some (.ref f))
abbrev ZN(K:Ac)(n:Str):Prop:=Od K mainGlobals n=some none
abbrev QN(K:Ac)(n:Str)(i:Int)(t:Tok):Prop:=Od K mainGlobals n=some (some (.int i t))
structure FF(K:Ac)(x:Str)(st:Stmt)(f:Addr)(fd:FuncData):Prop where
 a:GN K x f
 F:Fun K x x st f fd
structure MF(K:Ac)(C:Addr)(x q:Str)(st:Stmt)(f:Addr)(fd:FuncData):Prop where
 m:Meth K C x f
 F:Fun K x q st f fd
structure CK(K:Ac)(C:Addr)(fs:List Str):Prop where
 c:Cls K C
 na:∀f∈fs,kW K C f
 ms:Lj K C=true
 kc:Fz K (.ref C)=true
def CK.cf{K:Ac}{C:Addr}(h:CK K C fs):Cf K C fs:=⟨h.c,h.na⟩
def CK.fl{K:Ac}{C:Addr}(h:CK K C fs):Cfl K C fs:=⟨h.c,h.na⟩
def na0{K:Ac}{C:Addr}:∀f∈([]:List Str),kW K C f:=λ_ h=>nomatch h
def naS{K:Ac}{C:Addr}{x:Str}{l:List Str}(h:Dd K (.ref C) x=some none)(k:∀f∈l,kW K C f):∀f∈x::l,kW K C f:=λf hf=>(List.mem_cons.mp hf).elim (λe=>e▸h) (k f)
def mth{K:Ac}{C D f:Addr}{n:Str}(h:Meth K C n f)(g:FI K D n f):Meth K D n f:=⟨g,h.fn,h.kp⟩
def mkO{K:Ac}{C f:Addr}(h:CK K C fs)(g:Meth K C "__init__" f):Mk K C f:=⟨h.ms,g.at_,g.fn,h.kc⟩
def fb1(a:Str){st:Stmt}{f:Addr}{fd:FuncData}(F:Fun K x q st f fd)(h:∀kV doc pm an cdv ct u,bindArgs (Eg x q (jR st) (gJ st) (aC st) .none kV doc pm an cdv ct) ⟨[u],[]⟩=pure ([a].zip [u]):=by intros;rfl):Binds K fd [a] []:=F.binds λ_ _ _ _ _ _ us hl=>kb1 hl (h _ _ _ _ _ _)
def fb2(a b:Str){st:Stmt}{f:Addr}{fd:FuncData}(F:Fun K x q st f fd)(h:∀kV doc pm an cdv ct u v,bindArgs (Eg x q (jR st) (gJ st) (aC st) .none kV doc pm an cdv ct) ⟨[u,v],[]⟩=pure ([a,b].zip [u,v]):=by intros;rfl):Binds K fd [a,b] []:=F.binds λ_ _ _ _ _ _ us hl=>kb2 hl (h _ _ _ _ _ _)
def fb3(a b c:Str){st:Stmt}{f:Addr}{fd:FuncData}(F:Fun K x q st f fd)(h:∀kV doc pm an cdv ct u v y,bindArgs (Eg x q (jR st) (gJ st) (aC st) .none kV doc pm an cdv ct) ⟨[u,v,y],[]⟩=pure ([a,b,c].zip [u,v,y]):=by intros;rfl):Binds K fd [a,b,c] []:=F.binds λ_ _ _ _ _ _ us hl=>kb3 hl (h _ _ _ _ _ _)
def fb4(a b c d:Str){st:Stmt}{f:Addr}{fd:FuncData}(F:Fun K x q st f fd)(h:∀kV doc pm an cdv ct u v y z,bindArgs (Eg x q (jR st) (gJ st) (aC st) .none kV doc pm an cdv ct) ⟨[u,v,y,z],[]⟩=pure ([a,b,c,d].zip [u,v,y,z]):=by intros;rfl):Binds K fd [a,b,c,d] []:=F.binds λ_ _ _ _ _ _ us hl=>kb4 hl (h _ _ _ _ _ _)
def fb6(a b c d e g:Str){st:Stmt}{f:Addr}{fd:FuncData}(F:Fun K x q st f fd)(h:∀kV doc pm an cdv ct u v y z o p,bindArgs (Eg x q (jR st) (gJ st) (aC st) .none kV doc pm an cdv ct) ⟨[u,v,y,z,o,p],[]⟩=pure ([a,b,c,d,e,g].zip [u,v,y,z,o,p]):=by intros;rfl):Binds K fd [a,b,c,d,e,g] []:=F.binds λ_ _ _ _ _ _ us hl=>kb6 hl (h _ _ _ _ _ _)
def sE{CX:CXT}{f:Addr}{fd:FuncData}{sp:Sp}(h:∀vs H Q E,¬sp vs H Q E):bC P w K mg base CX k f fd ps sp:=
 ⟨λvs H Q E z=>absurd z (h vs H Q E),λ_ _ _ H _ _ vs Q E _ _ _ _ z=>absurd z (h vs H Q E)⟩
def aKx(nd:(zW N).Nodup)(F1:Fun K "inner" "Term.inner" lQ f1 g1)(F2:Fun K "inner" "Paired.inner" iU f2 g2)(F3:Fun K "inner" "Rest.inner" lL f3 g3)(F4:Fun K "inner" "Chosen.inner" jA f4 g4)
  (cl:∀C,IsC N C->Cls K C) (c3:Cfl K N.rest ["one","by"]) (c4:Cfl K N.cho ["test","one","other"]) (c5:∀k,Cfl K (N.bin k) ["one","other"])
  (m1:Meth K N.num "inner" f1) (m2:Meth K N.take "inner" f1) (m3:Meth K N.rest "inner" f3) (m4:Meth K N.cho "inner" f4) (m5:∀k,Meth K (N.bin k) "inner" f2):kI P w K mg base N 1 "inner" (iW N):=by
 refine⟨λC hC=>⟨cl C hC,?_⟩⟩;rcases hC with rfl|rfl|rfl|rfl|⟨k,rfl⟩
 ·exact⟨f1,g1,m1,aB8 F1 (λt h=>by obtain⟨n,rfl⟩:=aOr nd h;rfl),fb1 "self" F1⟩
 ·exact⟨f1,g1,m2,aB8 F1 (λt h=>by obtain⟨b,ss,rfl⟩:=aDi nd h;rfl),fb1 "self" F1⟩
 ·exact⟨f3,g3,m3,aLe F3 c3 λt h=>aKl nd h,fb1 "self" F3⟩
 ·exact⟨f4,g4,m4,aL8 F4 c4 λt h=>aVt nd h,fb1 "self" F4⟩
 ·exact⟨f2,g2,m5 k,aLl F2 (c5 k) λt h=>aV2 nd h,fb1 "self" F2⟩
theorem aCo{f1 f2:Addr}{g1 g2:FuncData}(nd:(zW N).Nodup)(F1:Fun K "takes" "Term.takes" lJ f1 g1)(F2:Fun K "takes" "Take.takes" lO f2 g2)(cl:∀C,IsC N C->Cls K C)(c2:Cfl K N.take ["back","steps"])
  (m1:∀C,IsC N C->C≠N.take->Meth K C "takes" f1) (m2:Meth K N.take "takes" f2) (D_inner:kI P w K mg base N 1 "inner" (iW N)) (T:Txt mg):∀d,kI P w K mg base N (d+1) "takes" (qU N d)
 |0=>⟨λC hC=>⟨cl C hC,by
   have no:∀vs H Q E,¬spV (qU N 0 C) vs H Q E:=λvs H Q E ⟨_,_,_,_,_,_,⟨t,_,_,h,_⟩,_⟩=>absurd (oY t) ∅;by_cases e:C=N.take
   ·subst e;exact⟨f2,g2,m2,sE no,fb1 "self" F2⟩
   ·exact⟨f1,g1,m1 C hC e,sE no,fb1 "self" F1⟩⟩⟩
 |d+1=>⟨λC hC=>⟨cl C hC,by
   by_cases e:C=N.take
   ·subst e;exact⟨f2,g2,m2,aLh F2 c2 λt h=>aDi nd h,fb1 "self" F2⟩
   ·exact⟨f1,g1,m1 C hC e,aKu F1 (λt h b ss z=>e (by rw[<-h,z];rfl)) D_inner (aCo nd F1 F2 cl c2 m1 m2 D_inner T d) T,fb1 "self" F1⟩⟩⟩
theorem aCp{f1:Addr}{g1:FuncData}(F1:Fun K "depth" "Term.depth" jD f1 g1)(cl:∀C,IsC N C->Cls K C)(m1:∀C,IsC N C->Meth K C "depth" f1)(D_inner:kI P w K mg base N 1 "inner" (iW N))(T:Txt mg):∀d,kI P w K mg base N (d+1) "depth" (aG1 N ht d)
 |0=>⟨λC hC=>⟨cl C hC,f1,g1,m1 C hC,sE (λvs H Q E ⟨_,_,_,_,_,_,⟨t,_,_,h,_⟩,_⟩=>absurd (oY t) ∅),fb1 "self" F1⟩⟩
 |d+1=>⟨λC hC=>⟨cl C hC,f1,g1,m1 C hC,aLg F1 D_inner (aCp F1 cl m1 D_inner T d) T,fb1 "self" F1⟩⟩
theorem aCg{f1:Addr}{g1:FuncData}(F1:Fun K "parts" "Term.parts" iT f1 g1)(cl:∀C,IsC N C->Cls K C)(m1:∀C,IsC N C->Meth K C "parts" f1)(D_inner:kI P w K mg base N 1 "inner" (iW N))(T:Txt mg):∀d,kI P w K mg base N (d+1) "parts" (aG1 N dZ d)
 |0=>⟨λC hC=>⟨cl C hC,f1,g1,m1 C hC,sE (λvs H Q E ⟨_,_,_,_,_,_,⟨t,_,_,h,_⟩,_⟩=>absurd (oY t) ∅),fb1 "self" F1⟩⟩
 |d+1=>⟨λC hC=>⟨cl C hC,f1,g1,m1 C hC,aKs F1 D_inner (aCg F1 cl m1 D_inner T d) T,fb1 "self" F1⟩⟩
theorem aQz{f:Addr}{fd:FuncData}(F:Fun K "first_fault" "first_fault" jT f fd)(m:mg "first_fault"=some (.ref f))(D_inner:kI P w K mg base N 1 "inner" (iW N))(D_fault:kI P w K mg base N 4 "own_fault" (qQ N)):∀d,Cal P w K mg base CX0 (d+4) "first_fault" ["term"] (spV (fFF N d))
 |0=>⟨_,_,sE (λvs H Q E ⟨_,_,_,_,_,_,⟨t,_,h,_⟩,_⟩=>absurd (oY t) ∅),m,F.kp,fb1 "term" F⟩
 |d+1=>⟨_,_,bAj F (aQz F m D_inner D_fault d) D_inner D_fault,m,F.kp,fb1 "term" F⟩
def aL0(nd:(zW N).Nodup)(F1:Fun K "own_fault" "Term.own_fault" gF f1 g1)(F2:Fun K "own_fault" "Number.own_fault" eY f2 g2)(F3:Fun K "own_fault" "Take.own_fault" gA f3 g3)(F4:Fun K "own_fault" "Rest.own_fault" gD f4 g4)
  (cl:∀C,IsC N C->Cls K C) (c1:Cfl K N.num ["value"]) (c2:Cfl K N.take ["back","steps"]) (c3:Cfl K N.rest ["one","by"])
  (c_within:Cal P w K mg base CX0 2 "is_within" PW3 (spV jU)) (c_steps:Cal P w K mg base CX0 3 "are_steps" ["thing"] (spV aIb)) (T:Txt mg)
  (m1:Meth K N.num "own_fault" f2) (m2:Meth K N.take "own_fault" f3) (m3:Meth K N.rest "own_fault" f4) (m4:Meth K N.cho "own_fault" f1) (m5:∀k,Meth K (N.bin k) "own_fault" f1):kI P w K mg base N 4 "own_fault" (qQ N):=by
 refine⟨λC hC=>⟨cl C hC,?_⟩⟩;rcases hC with rfl|rfl|rfl|rfl|⟨k,rfl⟩
 ·exact⟨f2,g2,m1,aLc F2 c1 (λt h=>aOr nd h) c_within T,fb1 "self" F2⟩
 ·exact⟨f3,g3,m2,aMi F3 c2 (λt h=>aDi nd h) c_within c_steps T,fb1 "self" F3⟩
 ·exact⟨f4,g4,m3,aL5 F4 c3 (λt h=>aKl nd h) c_within T,fb1 "self" F4⟩
 ·exact⟨f1,g1,m4,aB3 F1,fb1 "self" F1⟩
 ·exact⟨f1,g1,m5 k,aB3 F1,fb1 "self" F1⟩
def aGh{CR f:Addr}{fd:FuncData}{k:Nat}{m:Str}{ps:List Str}{sp:Sp}(cl:Cls K CR)(h:Meth K CR m f)(b:Binds K fd ps [])(F:bC P w K mg base CX0 k f fd ps sp):Dis P w K mg base CX0 k (·=CR) m ps λ_=>sp:=⟨λC hC=>by
 have hC:C=CR:=hC;subst hC;exact⟨cl,f,fd,h,F,b⟩⟩
theorem aE4{CR fB fE fP:Addr}{gB gE gP:FuncData}(cl:Cls K CR)(n:aGm N CR)(M:aFc P w K mg base N)(T:KR.Txt K mg)(F1:Fun K "read_bracket" "TermReader.read_bracket" uX fB gB)(F2:Fun K "read_behind" "TermReader.read_behind" rZ fE gE)(F3:Fun K "read_part" "TermReader.read_part" zK fP gP)
  (m1:Meth K CR "read_bracket" fB) (m2:Meth K CR "read_behind" fE) (m3:Meth K CR "read_part" fP)
  (D_ahead:DR P w K mg base 1 CR "ahead" ["self"] (lN CR)) (D_pass_by:DR P w K mg base 2 CR "pass_by" ["self","signs"] (rC CR)) (D_read_figures:DR P w K mg base 3 CR "read_figures" ["self"] (aEa CR)) (D_read_number:DR P w K mg base 4 CR "read_number" ["self"] (aD8 CR)) (D_read_take:DR P w K mg base 5 CR "read_take" ["self"] (aDf N CR)) (D_read_word:DR P w K mg base 3 CR "read_word" ["self"] (aHw CR)) (c_pairBy:Cal P w K mg base CX0 3 "pair_by" ["word","one","other"] (zV N)):∀d,DR P w K mg base (3*d+3) CR "read_part" ["self","within"] (aAa N CR d)
 |0=>aGh cl m3 (fb2 "self" "within" F3) (sE λvs H Q E ⟨_,_,_,t,_,_,_,_,_,_,_,h,_,_,_⟩=>absurd (oY t) ∅)
 |d+1=>by
  have D:=aE4 cl n M T F1 F2 F3 m1 m2 m3 D_ahead D_pass_by D_read_figures D_read_number D_read_take D_read_word c_pairBy d;have DE:=aGh cl m2 (fb4 "self" "one" "word" "within" F2) (aMa F2 n M D_pass_by D_read_figures D c_pairBy);have DB:=aGh cl m1 (fb2 "self" "within" F1) (aNk F1 n D_pass_by D_read_word D DE T);exact aGh cl m3 (fb2 "self" "within" F3) (aTb F3 M D_ahead D_read_number D_read_take DB)
def aW5{a:Addr}{E:XK}(h:SqL K H a (ns.map V.int)):spV (aPv K) [.ref a] H (λv _=>v=.bl true) E:=
 ⟨λ_=>False,λ_=>False,[.op (aDx K ns)],λs=>s=.sh (.b true),⟨nofun,nofun,nofun⟩,⟨_,_,rfl,⟨a,rfl,h.imp (λh=>⟨id,h⟩) λh _=> .inr h⟩,rfl⟩,⟨ns,rfl,rfl⟩,λs v H' hs _ r=>by
  subst hs;exact r.1⟩
def aWv{l:W.OpenLaw}{w:World}{K:W.Frag}{h:Heap}{mg:Str->Option Value}{fa aW Cnum Ctake Crest Ccho Cb0 Cb1 Cb2 Cb3 Cb4 CR CG CJ f10 f11 f12 f13 f14 f15 f16 f17 f18 f19 f20 f21 f22 f23 f24 f25 f26 f27 f28 f29 f30 f31 f32 f33 f34 f35 f36 f37 f38 f39 f40 f41 f42 f43 f44 f45 f46 f47 f48 f49 f50 f51 f52 f53 f54 f55 f56 f57 f58 f59 f60 f61 f62 f63 f64 f65 f66 f67 f68 f69 f70 f71 f72 f73 f74 f75 f76 f77 f78 f79 f80 f81 f82:Addr}{g10 g11 g12 g13 g14 g15 g16 g17 g18 g19 g20 g21 g22 g23 g24 g25 g26 g27 g28 g29 g30 g31 g32 g33 g34 g35 g36 g37 g38 g39 g40 g41 g42 g43 g44 g45 g46 g47 g48 g49 g50 g51 g52 g53 g54 g55 g56 g57 g58 g59 g60 g61 g62 g63 g64 g65 g66 g67 g68 g69 g70 g71 g72 g73 g74 g75 g76 g77 g78 g79 g80 g81 g82:FuncData}{odW:Option Addr}{nW:Nat}{slW:Array (Option Value)}{tF tW1 tW2 tW3 tW4 tW5 tW6 tW7 t0 t1 t2 t3 t4 t5 t6 t7 t8 t9 t10 t11 t12 t13 t14 t15 t16 t17:Tok}(X:K.In h)(G:h.Ns mainGlobals mg)(hfa:mg "law"=some (.ref fa))
  (aCnum:GN K "Number" Cnum) (aCtake:GN K "Take" Ctake) (aCrest:GN K "Rest" Crest) (aCcho:GN K "Chosen" Ccho)
  (aCb0:GN K "Added" Cb0) (aCb1:GN K "Lessened" Cb1) (aCb2:GN K "Multiplied" Cb2) (aCb3:GN K "Least" Cb3)
  (aCb4:GN K "Most" Cb4) (aCR:GN K "TermReader" CR) (aCG:GN K "Grid" CG) (aCJ:GN K "Job" CJ)
  (F10:FF K "is_whole" uI f10 g10) (F11:FF K "is_within" qZ f11 g11) (F12:FF K "is_rim" aAy f12 g12) (F13:FF K "product" xQ f13 g13)
  (F14:FF K "check_lines" nJ f14 g14) (F15:FF K "are_steps" mU f15 g15) (F16:FF K "lines_of" pO f16 g16) (F17:FF K "first_fault" jT f17 g17)
  (F18:FF K "check_term" pY f18 g18) (F19:FF K "read_term" qX f19 g19) (F20:FF K "is_row" wG f20 g20) (F21:FF K "are_rows" oX f21 g21)
  (F22:FF K "_law_cell" rH f22 g22) (F23:FF K "_law_mixed" pZ f23 g23) (F24:FF K "_law_twice" pX f24 g24) (F25:FF K "_law_draw" rQ f25 g25)
  (F26:FF K "_law_well" qO f26 g26) (F27:FF K "_law_lines" jG f27 g27) (F28:FF K "_law_take" mR f28 g28) (F29:FF K "_law_term" nA f29 g29)
  (F30:FF K "_law_world" cB f30 g30) (F31:FF K "_law_job" uQ f31 g31) (F32:FF K "law" aC1 f32 g32) (F33:FF K "number_by_rim" kJ f33 g33)
  (F34:FF K "mirrored" uR f34 g34) (F35:FF K "with_line" rP f35 g35) (F36:FF K "leans_of" pD f36 g36) (F37:FF K "leans_by_spot" kO f37 g37)
  (F38:FF K "last_use" uA f38 g38) (F39:FF K "_law_along" pN f39 g39) (F40:FF K "_law_leans" pQ f40 g40) (F41:FF K "_law_row" uG f41 g41)
  (F42:FF K "_law_due" uP f42 g42) (F43:FF K "pair_by" aPs f43 g43) (F44:FF K "read_written" aBi f44 g44) (F45:MF K Cnum "inner" "Term.inner" lQ f45 g45)
  (F46:MF K Cnum "takes" "Term.takes" lJ f46 g46) (F47:MF K Cnum "depth" "Term.depth" jD f47 g47) (F48:MF K Cnum "parts" "Term.parts" iT f48 g48) (F49:MF K Ccho "own_fault" "Term.own_fault" gF f49 g49)
  (F50:MF K Cnum "__init__" "Number.__init__" aHl f50 g50) (F51:MF K Cnum "own_fault" "Number.own_fault" eY f51 g51) (F52:MF K Ctake "__init__" "Take.__init__" aIy f52 g52) (F53:MF K Ctake "takes" "Take.takes" lO f53 g53)
  (F54:MF K Ctake "own_fault" "Take.own_fault" gA f54 g54) (F55:MF K Cb0 "__init__" "Paired.__init__" aIp f55 g55) (F56:MF K Cb0 "inner" "Paired.inner" iU f56 g56) (F57:MF K Crest "__init__" "Rest.__init__" aIq f57 g57)
  (F58:MF K Crest "inner" "Rest.inner" lL f58 g58) (F59:MF K Crest "own_fault" "Rest.own_fault" gD f59 g59) (F60:MF K Ccho "__init__" "Chosen.__init__" aG9 f60 g60) (F61:MF K Ccho "inner" "Chosen.inner" jA f61 g61)
  (F62:MF K CR "__init__" "TermReader.__init__" aEh f62 g62) (F63:MF K CR "ahead" "TermReader.ahead" aAv f63 g63) (F64:MF K CR "pass_by" "TermReader.pass_by" aD1 f64 g64) (F65:MF K CR "figure_is_ahead" "TermReader.figure_is_ahead" aIu f65 g65)
  (F66:MF K CR "read_figures" "TermReader.read_figures" aC8 f66 g66) (F67:MF K CR "read_number" "TermReader.read_number" aIj f67 g67) (F68:MF K CR "read_take" "TermReader.read_take" aC6 f68 g68) (F69:MF K CR "read_word" "TermReader.read_word" zO f69 g69)
  (F70:MF K CR "read_bracket" "TermReader.read_bracket" uX f70 g70) (F71:MF K CR "read_behind" "TermReader.read_behind" rZ f71 g71) (F72:MF K CR "read_part" "TermReader.read_part" zK f72 g72) (F73:MF K CG "__init__" "Grid.__init__" kY f73 g73)
  (F74:MF K CG "lines" "Grid.lines" pK f74 g74) (F75:MF K CG "places_many" "Grid.places_many" iD f75 g75) (F76:MF K CJ "__init__" "Job.__init__" jE f76 g76) (F77:MF K CJ "deep" "Job.deep" pA f77 g77)
  (F78:MF K CG "beside" "Grid.beside" nZ f78 g78) (F79:MF K CG "all_places" "Grid.all_places" iY f79 g79) (F80:MF K CJ "where" "Job.where" qR f80 g80) (F81:MF K CJ "reads_of" "Job.reads_of" iQ f81 g81)
  (F82:MF K CJ "all_spots" "Job.all_spots" gZ f82 g82) (kCnum:CK K Cnum ["value"]) (kCtake:CK K Ctake ["back","steps"]) (kCrest:CK K Crest ["one","by"])
  (kCcho:CK K Ccho ["test","one","other"]) (kCb0:CK K Cb0 ["one","other"]) (kCb1:CK K Cb1 ["one","other"]) (kCb2:CK K Cb2 ["one","other"])
  (kCb3:CK K Cb3 ["one","other"]) (kCb4:CK K Cb4 ["one","other"]) (kCR:CK K CR ["text","gone"]) (kCG:CK K CG ["sizes","rims"])
  (kCJ:CK K CJ ["taken","grid","term","modulus","rounds","first"]) (e0:FI K Cb1 "__init__" f55) (e1:FI K Cb2 "__init__" f55) (e2:FI K Cb3 "__init__" f55)
  (e3:FI K Cb4 "__init__" f55) (e4:FI K Ctake "inner" f45) (e5:FI K Cb1 "inner" f56) (e6:FI K Cb2 "inner" f56)
  (e7:FI K Cb3 "inner" f56) (e8:FI K Cb4 "inner" f56) (e9:FI K Crest "takes" f46) (e10:FI K Ccho "takes" f46)
  (e11:FI K Cb0 "takes" f46) (e12:FI K Cb1 "takes" f46) (e13:FI K Cb2 "takes" f46) (e14:FI K Cb3 "takes" f46)
  (e15:FI K Cb4 "takes" f46) (e16:FI K Ctake "depth" f47) (e17:FI K Crest "depth" f47) (e18:FI K Ccho "depth" f47)
  (e19:FI K Cb0 "depth" f47) (e20:FI K Cb1 "depth" f47) (e21:FI K Cb2 "depth" f47) (e22:FI K Cb3 "depth" f47)
  (e23:FI K Cb4 "depth" f47) (e24:FI K Ctake "parts" f48) (e25:FI K Crest "parts" f48) (e26:FI K Ccho "parts" f48)
  (e27:FI K Cb0 "parts" f48) (e28:FI K Cb1 "parts" f48) (e29:FI K Cb2 "parts" f48) (e30:FI K Cb3 "parts" f48)
  (e31:FI K Cb4 "parts" f48) (e32:FI K Cb0 "own_fault" f49) (e33:FI K Cb1 "own_fault" f49) (e34:FI K Cb2 "own_fault" f49)
  (e35:FI K Cb3 "own_fault" f49) (e36:FI K Cb4 "own_fault" f49) (nd:[Cnum,Ctake,Crest,Ccho,Cb0,Cb1,Cb2,Cb3,Cb4].Nodup) (ndR:CR∉[Cnum,Ctake,Crest,Ccho,Cb0,Cb1,Cb2,Cb3,Cb4])
  (qF:W.nsIn K mainGlobals "FIGURES"=some (some (.str "0123456789" tF))) (aWd:GN K "WORDS" aW) (lWd:K.lookup aW=some ⟨.type "tuple",odW,.seq #[.str "+" tW1,.str "-" tW2,.str "*" tW3,.str "min" tW4,.str "max" tW5,.str "rest" tW6,.str "?" tW7] nW,slW⟩) (z0:ZN K "isinstance")
  (z1:ZN K "int") (z2:ZN K "bool") (z3:ZN K "str") (z4:ZN K "tuple")
  (z5:ZN K "list") (z6:ZN K "len") (z7:ZN K "range") (z8:ZN K "enumerate")
  (z9:ZN K "max") (z10:ZN K "min") (z11:ZN K "sorted") (z12:ZN K "sum")
  (z13:ZN K "set") (z14:ZN K "all") (z15:ZN K "any") (z16:ZN K "zip")
  (z17:ZN K "abs") (z18:ZN K "dict") (q0:QN K "GREATEST_NUMBER" 1000000000000 t0) (q1:QN K "GREATEST_DIVISOR" 1000000000 t1)
  (q2:QN K "GREATEST_BACK" 3 t2) (q3:QN K "GREATEST_STEP" 9 t3) (q4:QN K "MOST_STEPS_terms" 3 t4) (q5:QN K "MOST_DEPTH" 12 t5)
  (q6:QN K "MOST_PARTS" 60 t6) (q7:QN K "MOST_TAKES" 6 t7) (q8:QN K "GREATEST_MODULUS" 1000000000 t8) (q9:QN K "MOST_ROUNDS" 12 t9)
  (q10:QN K "MOST_SPOTS" 120 t10) (q11:QN K "GREATEST_FIXED" 1000000000 t11) (q12:QN K "MOST_LINES" 3 t12) (q13:QN K "GREATEST_SIZE" 9 t13)
  (q14:QN K "MOST_PLACES" 40 t14) (q15:QN K "MOST_FIGURES" 13 t15) (q16:QN K "MOST_STEPS_term_texts" 3 t16) (q17:QN K "MOST_WITHIN" 12 t17)
  :∃fd:FuncData,(∀(s:Shared)(v:Value),BindsTo s fd ⟨[v],[]⟩ [("_law_script",v)])/\∀base:Heap,K.In base->base.Ns mainGlobals mg->bC l.prog w K mg base CX0 31 fa fd ["_law_script"] (spV (aPv K)):=by
 have m:∀{n:Str}{f:Addr},GN K n f->mg n=some (.ref f):=λh=>Fl X G h;have mn:∀{n:Str},W.nsIn K mainGlobals n=some none->mg n=none:=λh=>W.mg_none_of X G h;have e:=hfa.symm.trans (m F32.a);cases e;have T:Txt mg:=⟨mn z0,mn z1,mn z2,mn z3,mn z4,mn z5,mn z6,mn z7,mn z8,mn z9,mn z10,mn z11,mn z12,mn z13,mn z14,mn z15,mn z16,mn z17,mn z18,⟨_,Fl X G q0⟩,⟨_,Fl X G q1⟩,⟨_,Fl X G q2⟩,⟨_,Fl X G q3⟩,⟨_,Fl X G q4⟩,⟨_,Fl X G q5⟩,⟨_,Fl X G q6⟩,⟨_,Fl X G q7⟩,⟨_,Fl X G q8⟩,⟨_,Fl X G q9⟩,⟨_,Fl X G q10⟩,⟨_,Fl X G q11⟩,⟨_,Fl X G q12⟩,⟨_,Fl X G q13⟩,⟨_,Fl X G q14⟩,⟨_,Fl X G q15⟩,⟨_,Fl X G q16⟩,⟨_,Fl X G q17⟩⟩;have T2:KR.Txt K mg:=⟨T.isinstance,T.int,T.tuple,T.len,T.any,T.str,T.c_MOST_FIGURES,T.c_MOST_STEPS_term_texts,T.c_MOST_WITHIN⟩;have F0:=F32.F;obtain⟨⟨_,_,y1,y2,y3,y4,y5,y6,_,rfl,_⟩,_⟩:=F0;refine⟨W.fnOf "law" "law" (jR aC1) (gJ aC1) (aC aC1) .none y1 y2 y3 y4 y5 y6,λs v=> .of_eq rfl,λbase _ _=>?_⟩;have cal:∀{CX:CXT}{k:Nat}{f:Addr}{fd:FuncData}{n:Str}{st:Stmt}{ps:List Str}{sp:Sp},FF K n st f fd->bC l.prog w K mg base CX k f fd ps sp->Binds K fd ps []->Cal l.prog w K mg base CX k n ps sp:=λF h b=>⟨_,_,h,m F.a,F.F.kp,b⟩;have dd:=@aGh l.prog w K mg base;let N:Cn:=⟨Cnum,Ctake,Crest,Ccho,λk=>match k with|0=>Cb0|1=>Cb1|2=>Cb2|3=>Cb3|4=>Cb4⟩;have nd:(zW N).Nodup:=nd;have c5:∀k,CK K (N.bin k) ["one","other"]:=λk=>by
  match k with
  |0=>exact kCb0
  |1=>exact kCb1
  |2=>exact kCb2
  |3=>exact kCb3
  |4=>exact kCb4
 have nR:aGm N CR:=λt e=>ndR (e▸Ba (aIf N t));have cl:∀C,IsC N C->Cls K C:=λC hC=>by
  rcases hC with rfl|rfl|rfl|rfl|⟨k,rfl⟩
  ·exact kCnum.c
  ·exact kCtake.c
  ·exact kCrest.c
  ·exact kCcho.c
  ·exact(c5 k).c
 have D_i:kI l.prog w K mg base N 1 "inner" (iW N):=aKx nd F45.F F56.F F58.F F61.F cl kCrest.fl kCcho.fl (λk=>(c5 k).fl) F45.m (mth F45.m e4) F58.m F61.m (λk=>by
  match k with
  |0=>exact F56.m
  |1=>exact(mth F56.m e5)
  |2=>exact(mth F56.m e6)
  |3=>exact(mth F56.m e7)
  |4=>exact(mth F56.m e8))
 have D_t:=aCo (P:=l.prog) (w:=w) (base:=base) nd F46.F F53.F cl kCtake.fl (λC hC ne=>by
  rcases hC with rfl|rfl|rfl|rfl|⟨k,rfl⟩
  ·exact F46.m
  ·exact absurd rfl ne
  ·exact(mth F46.m e9)
  ·exact(mth F46.m e10)
  ·match k with
   |0=>exact(mth F46.m e11)
   |1=>exact(mth F46.m e12)
   |2=>exact(mth F46.m e13)
   |3=>exact(mth F46.m e14)
   |4=>exact(mth F46.m e15)) F53.m D_i T 8
 have D_d:=aCp (P:=l.prog) (w:=w) (base:=base) F47.F cl (λC hC=>by
  rcases hC with rfl|rfl|rfl|rfl|⟨k,rfl⟩
  ·exact F47.m
  ·exact(mth F47.m e16)
  ·exact(mth F47.m e17)
  ·exact(mth F47.m e18)
  ·match k with
   |0=>exact(mth F47.m e19)
   |1=>exact(mth F47.m e20)
   |2=>exact(mth F47.m e21)
   |3=>exact(mth F47.m e22)
   |4=>exact(mth F47.m e23)) D_i T 8
 have D_p:=aCg (P:=l.prog) (w:=w) (base:=base) F48.F cl (λC hC=>by
  rcases hC with rfl|rfl|rfl|rfl|⟨k,rfl⟩
  ·exact F48.m
  ·exact(mth F48.m e24)
  ·exact(mth F48.m e25)
  ·exact(mth F48.m e26)
  ·match k with
   |0=>exact(mth F48.m e27)
   |1=>exact(mth F48.m e28)
   |2=>exact(mth F48.m e29)
   |3=>exact(mth F48.m e30)
   |4=>exact(mth F48.m e31)) D_i T 8
 have c10:=cal F10 (aM4 F10.F T) (fb1 _ F10.F);have c11:=cal F11 (aMh F11.F c10) (fb3 _ _ _ F11.F);have c15:=cal F15 (aOq F15.F c11 T) (fb1 _ F15.F);have D_f:kI l.prog w K mg base N 4 "own_fault" (qQ N):=aL0 nd F49.F F51.F F54.F F59.F cl kCnum.fl kCtake.fl kCrest.fl c11 c15 T F51.m F54.m F59.m F49.m (λk=>by
  match k with
  |0=>exact(mth F49.m e32)
  |1=>exact(mth F49.m e33)
  |2=>exact(mth F49.m e34)
  |3=>exact(mth F49.m e35)
  |4=>exact(mth F49.m e36))
 have c17:=aQz F17.F (m F17.a) D_i D_f 8;have c16:=cal F16 (aHz F16.F D_t T) (fb1 _ F16.F);have c18:=cal F18 (aMj F18.F ⋯ c17 c16 D_t D_d D_p T) (fb1 _ F18.F);have R5:∀k,Mkr l.prog w K mg base (N.bin k) (bnm k) ["self","one","other"] (aEs K "one" "other"):=λk=>by
  match k with
  |0=>exact⟨⟨_,_,rT F55.F,mkO kCb0 F55.m,m aCb0,(fb3 _ _ _ F55.F)⟩⟩
  |1=>exact⟨⟨_,_,rT F55.F,mkO kCb1 (mth F55.m e0),m aCb1,(fb3 _ _ _ F55.F)⟩⟩
  |2=>exact⟨⟨_,_,rT F55.F,mkO kCb2 (mth F55.m e1),m aCb2,(fb3 _ _ _ F55.F)⟩⟩
  |3=>exact⟨⟨_,_,rT F55.F,mkO kCb3 (mth F55.m e2),m aCb3,(fb3 _ _ _ F55.F)⟩⟩
  |4=>exact⟨⟨_,_,rT F55.F,mkO kCb4 (mth F55.m e3),m aCb4,(fb3 _ _ _ F55.F)⟩⟩
 have M:aFc l.prog w K mg base N:=⟨⟨⟨_,_,aO8 F50.F,mkO kCnum F50.m,m aCnum,(fb2 _ _ F50.F)⟩⟩,⟨⟨_,_,aPi F52.F,mkO kCtake F52.m,m aCtake,(fb3 _ _ _ F52.F)⟩⟩,⟨⟨_,_,aM6 F57.F,mkO kCrest F57.m,m aCrest,(fb3 _ _ _ F57.F)⟩⟩,⟨⟨_,_,aNj F60.F,mkO kCcho F60.m,m aCcho,(fb4 _ _ _ _ F60.F)⟩⟩,R5,kCnum.cf,kCtake.cf,kCrest.cf,kCcho.cf,λk=>(c5 k).cf⟩;have Wd:Words K aW:=λH=> .inr ⟨_,_,_,lWd,rfl,rfl,(by show 7<=sizeLine;decide),.cons ⟨_,rfl⟩ (.cons ⟨_,rfl⟩ (.cons ⟨_,rfl⟩ (.cons ⟨_,rfl⟩ (.cons ⟨_,rfl⟩ (.cons ⟨_,rfl⟩ (.cons ⟨_,rfl⟩ .nil))))))⟩;have D_ahead:=dd kCR.c F63.m (fb1 _ F63.F) (aPu F63.F kCR.cf);have D_pass:=dd kCR.c F64.m (fb2 _ _ F64.F) (aTj F64.F kCR.cf D_ahead);have D_fig:=dd kCR.c F65.m (fb1 _ F65.F) (aW9 F65.F D_ahead (Fl X G qF));have D_figs:=dd kCR.c F66.m (fb1 _ F66.F) (aSw F66.F kCR.cf D_ahead D_pass D_fig T2);have D_num:=dd kCR.c F67.m (fb1 _ F67.F) (aXv F67.F D_ahead D_pass D_figs);have D_rtake:=dd kCR.c F68.m (fb1 _ F68.F) (aPo F68.F D_ahead D_pass D_num M.take M.c2 T2);have D_word:=dd kCR.c F69.m (fb1 _ F69.F) (aSc F69.F D_ahead D_pass (m aWd) Wd T2);have c43:=cal F43 (aLm F43.F M) (fb3 _ _ _ F43.F);have D_part:=aE4 kCR.c nR M T2 F70.F F71.F F72.F F70.m F71.m F72.m D_ahead D_pass D_figs D_num D_rtake D_word c43 8;have R_rd:Mkr l.prog w K mg base CR "TermReader" ["self","text"] (aYm K):=⟨⟨_,_,aL3 F62.F,mkO kCR F62.m,m aCR,(fb2 _ _ F62.F)⟩⟩;have c44:=cal F44 (aLn (aIm F44.F R_rd kCR.cf nR D_part T2)) (fb1 _ F44.F);have c19:=cal F19 (aN7 (k:=15) F19.F c44 c18) (fb1 _ F19.F);have c12:=cal F12 (aPa F12.F c11 T) (fb1 _ F12.F);have c13:=cal F13 (aSl F13.F) (fb1 _ F13.F);have c14:=cal F14 (aQ7 F14.F c11 c12 T) (fb2 _ _ F14.F);have c20:=cal F20 (aP2 F20.F c11 T) (fb3 _ _ _ F20.F);have c21:=cal F21 (aHm F21.F c20 T) (fb4 _ _ _ _ F21.F);have D_lines:=dd kCG.c F74.m (fb1 _ F74.F) (aN9 F74.F kCG.fl T);have D_many:=dd kCG.c F75.m (fb1 _ F75.F) (aSv F75.F kCG.fl c13);have D_deep:=dd kCJ.c F77.m (fb1 _ F77.F) (aRr F77.F ⟨kCJ.c,λf hf=>kCJ.na f (by rw[List.mem_singleton.mp hf];exact Af)⟩ T);have M_Grid:MkU l.prog w K mg base 5 CG "Grid" ["self","sizes","rims"] aH0:=⟨⟨_,_,aRe F73.F kCG.fl c14 c13 T,mkO kCG F73.m,m aCG,(fb3 _ _ _ F73.F)⟩⟩;have M_Job:MkU l.prog w K mg base 14 CJ "Job" ["self","grid","term","modulus","rounds","first"] (aHq N CG):=⟨⟨_,_,aOd F76.F kCJ.fl c18 c16 c11 c21 D_t D_lines D_many D_deep T,mkO kCJ F76.m,m aCJ,(fb6 _ _ _ _ _ _ F76.F)⟩⟩;have c22:=cal F22 (aSz F22.F T) (fb2 _ _ F22.F);have c23:=cal F23 (aQl F23.F) (fb2 _ _ F23.F);have c24:=cal F24 (aNt F24.F c23) (fb2 _ _ F24.F);have c25:=cal F25 (aTh F25.F c24) (fb2 _ _ F25.F);have c26:=cal F26 (aS6 F26.F c22 T) (fb2 _ _ F26.F);have c27:=cal F27 (aL1 F27.F c25 T) (fb1 _ F27.F);have c28:=cal F28 (aRf F28.F c25 T) (fb2 _ _ F28.F);have c29:=cal F29 (aOt F29.F c25 T) (fb2 _ _ F29.F);have c30:=cal F30 (aQy F30.F c26 c27 c28 c25 c29 T) (fb3 _ _ _ F30.F);have c31:=cal F31 (aSx F31.F M_Grid M_Job c19 T) (fb1 _ F31.F);have c34:=cal F34 (aWk F34.F) (fb2 _ _ F34.F);have c33:=cal F33 (aXu F33.F c34) (fb3 _ _ _ F33.F);have D_bes:=dd kCG.c F78.m (fb3 _ _ _ F78.F) (aVr F78.F kCG.fl c33 T);have D_where:=dd kCJ.c F80.m (fb3 _ _ _ F80.F) (aQ1 (N:=N) F80.F kCJ.fl D_bes T);have D_reads:=dd kCJ.c F81.m (fb2 _ _ F81.F) (aNb F81.F kCJ.fl D_where T);have c36:=cal F36 (aPn F36.F D_reads T) (fb2 _ _ F36.F);have c35:=cal F35 (aRw F35.F T) (fb2 _ _ F35.F);have D_allp:=dd kCG.c F79.m (fb1 _ F79.F) (aR4 F79.F kCG.fl c35 T);have D_alls:=dd kCJ.c F82.m (fb1 _ F82.F) (aS0 (N:=N) F82.F kCJ.fl D_allp T);have c37:=cal F37 (aWm F37.F D_alls c36 T) (fb1 _ F37.F);have c38:=cal F38 (aRo F38.F c37 T) (fb2 _ _ F38.F);have c39:=cal F39 (aQp F39.F T) (fb3 _ _ _ F39.F);have c40:=cal F40 (aKv F40.F c39 T) (fb2 _ _ F40.F);have c41:=cal F41 (aXh F41.F c25 T) (fb2 _ _ F41.F);have c42:=cal F42 (aX7 F42.F c40 T) (fb2 _ _ F42.F);exact aXb F32.F c30 c31 c26 c41 c38 c42 T
def aXo{l:W.OpenLaw}{q:Program}{loose:List Str}{XP:(Str->Option Value)->Heap->Prop}{YP:World->Heap->Prop}{d:DefRec}{K:Params->W.Frag}(hn:l.most=some 63)(hdf:d.params.defaults=[])
  (hY:∀(w:World)(h:Heap),YP w h->(K w.params).In h)
  (F:∀(w:World)(mg:Str->Option Value)(fa:Addr)(h:Heap),(K w.params).In h->h.Ns mainGlobals mg->mg d.name=some (.ref fa)->
   ∃fd:FuncData,(∀(s:Shared)(u:Value),BindsTo s fd ⟨[u],[]⟩ [("_law_script",u)])/\∀base:Heap,(K w.params).In base->base.Ns mainGlobals mg->bC l.prog w (K w.params) mg base CX0 31 fa fd ["_law_script"] (spV (aPv (K w.params)))):
  W.WalkO q loose XP YP l.row.toRowW d [] (λf vs=>Qs f vs):=
 L2.aTm (n:=63) (k:=31) (x:="_law_script") (CX:=λ_=>CX0) (sp:=λw=>spV (aPv (K w.params))) hn ⋯ hdf ⟨rfl,⋯,⋯⟩ hY F (λ_ _ _ _ _ _ hS=>aW5 hS) λ_ _ _ _ _ z=>z
end Q
structure PySem.W.Fast:Prop where
 (tw314843504813678194 tw715381821098882728 tw9345067742102997333 tw2134396878520425747 tw6508896591047495434 tw16497094422804099387 tw13529969947210685466 tw17433667860530360943 tw4032155587236291479 tw7133325705514993061 tw9401614344695093119 tw9184810164848320110 tw427869319376275469 tw15717150765725135721 tw13637348388662799399 tw12643738613290410322 tw7186809293450624554 tw16338928913919321998 tw13278989901435634941 tw1931990772721058019 tw2518074629627946954 tw7762864685267680760 tw10205575413634987386 tw12145490620632763272 tw5901437909025378089 tw2523761485490488796 tw5739591503736421431 tw4114785874739252160 tw13458322245430499229 tw756140726663342094 tw1539123103877557569 tw2535994482593695867 tw14751965140737137989 tw3687700758325822660 tw12292315818443883525 tw3257331282653184674 tw3725174563687017575 tw13514776109388586302 tw118319469192273441 tw6219388015052476796 tw7178647589518763699 tw461801626583015990 tw8638642782605900488 tw6871758383281153801 tw18075425531628239057 tw16036968710180098801 tw817011602634150500 tw16394581750520569386 tw9320209903660301075 tw1027717579426115838 tw11579807544159597290 tw1689959427780694897 tw17450820287178027123 tw14231073823929500551 tw3898422842361460496 tw7964717215741279482 tw4581041697791470189 tw17985935608856983039 tw11492938907068228724 tw4380897350318878839 tw14782962425164532103 tw15464886022751735965 tw18353667860228640143 tw1729467657566994560 tw12481379698323969211 tw7656023030081665408 tw16236382042104953441 tw9109185983319608732 tw3217271317077251111 tw15697528742786042032 tw2564894372570147097 tw3250992042686418129 tw16279404489108315345 tw12378001313092964868 tw9998317291307931537 tw15011020335976853637 tw374924106147607870 tw89131233426661075 tw16308527057210181641 tw11637349611528607091 tw4392880973019467119 tw12847941402772816143 tw13596342322282529174 tw12443740878536929761 tw10298806207041157482 tw1588491546517484912 tw5580826987338226330 tw535925281334734000 tw8338299426844468638 tw2752807673824017109 tw9040557127619261818 tw10025461783384517837 tw3413665759009579436 tw13347134038457705987 tw14620059535815090014 tw16343487804704622844 tw12236922432130214723 tw16820252987270906291 tw2667292075098476118 tw231780806001506083 tw5522739705699442047 tw3089356161892783822 tw8314930285897761255 tw5845800052639465240 tw13716128595533260114 tw15284861490861821364 tw7814391229263816722 tw4837655945428281898 tw8451347249969690080 tw10398983806328161894 tw12872808186183126669 tw4040252668910116127 tw16857702021378384261 tw14887398487453429880 tw10773784427934759521 tw6278843971642574220 tw15784527691693475033 tw10404434495394998632 tw16885584382326275210 tw12050278587000262519 tw15450645641011652260 tw3125864250573123185 tw10310847208091826036 tw7280823379015971057 tw18260380874609517750 tw6753688536834551832 tw3313775556453189391 tw5300882144281414878 tw7753375961128252303 tw17580553633124965952 tw7372952360473971243 tw658694942127668735 tw16084801904050710464 tw14279673859646936461 tw12264844839495590996 tw7337233999550558449 tw16485428171701052991 tw16946605260150172566 tw6792114736223535486 tw10867953076956608256 tw8372825413509791910 tw7282832970327206880 tw10563137138091648569 tw1815907957427006266 tw1808074990806136704 tw5590976491313454146 tw16285148825765116266 tw8646703513508745513 tw3332185574184562683 tw7933986023941455376 tw164010979383041127 tw9369668855453273917 tw8210109449418589983 tw2237209728756949337 tw14207103336592310193 tw18429258871232582824 tw4706365016587741360 tw16298405270805035426 tw1422784665577694966 tw16910876524242357448 tw9873469823066670351 tw6452442329108730392 tw15880550189430612955 tw7289623150273187206 tw4591028903800171960 tw17408220008846285854 tw9602585238065348981 tw11266094940248451021 tw15700695755812460961 tw3692994653477556289 tw15819339599666456749 tw6831986588727594215 tw18321444978410348325 tw16793349971540785057 tw13660053890850075862 tw5941234839783164165 tw13331712193077205311 tw14236179845004798619 tw3382733737628999815 tw2294496119148088661 tw7261043156030641281 tw9854301803526922362 tw15841158146792789225 tw1575774272728490267 tw5857855387074985380 tw3829872678143220980 tw9775265989722279457 tw9372985693213917093 tw2591866240128758457 tw14545842431231450004 tw3414095434060879984 tw8397909534879488 tw10147076158994906655 tw8644804909840127975 tw1256389068649419559 tw15146008511643615075 tw1993381916101637317 tw13391236113173111347 tw2008468056043601993 tw17973403337131501282 tw18274233761660787977 tw12150163466500673111 tw901039733592479953 tw2343276796749811875 tw4425975012359198379 tw3465968859394783532 tw17644850992210923976 tw9889025947061062707 tw119308319724172385 tw18274455610343199023 tw881626423449020932 tw18125138579531571342 tw14510008354916761378 tw15405441949374779479 tw12074531186582358439 tw12378444607289714666 tw16014404318887971493 tw8892339598638130344 tw2903104782590557696 tw11007722091157016153 tw11191407997837526864 tw5390697757101615417 tw710764877648939274 tw3916964166787636518 tw9660746835573007399 tw7631145562115870812 tw1677442067591494553 tw6819481799603687108 tw17529793812765971884 tw5502788543379302821 tw1659743012229183597 tw10406677882319560435 tw6775777490316950666 tw13399081842893300213 tw15125230865890393898 tw155699374775483523 tw8728188845824252025 tw8772895481090804108 tw7061332204099269566 tw3934257799083066931 tw16807623983589571938 tw6120156945406397706 tw5438525039962175106 tw4997477326455497930 tw17961268117714155992 tw1719168602160725933 tw11701928165251333099 tw11221767334183214151 tw10787241473254247642 tw9593025493019939061 tw2291501269154101396 tw8476987818129855614 tw11088726509114095248 tw10629680760022555842 tw2199989503217443252 tw17526163917887318899 tw14735456074130258835 tw6980640799991993820 tw7044611884629408222 tw2751375387043238118 tw2685561874478647840 tw10946230909772466524 tw9416369926012477043 tw13783709238966675569 tw16872040128117809527 tw15296805788672702968 tw17387386967884490475 tw6642026965685948409 tw15777689357621103416 tw731965671363259617 tw3017135642479366275 tw8742991427141957045 tw5041165949206915141 tw18156460636305266310 tw8680683355765597057 tw17359128896221629651 tw9642705903413220712 tw12111440887751730731 tw914351632952414432 tw12428652956552658628 tw7834234667645238821 tw15701375134782903505 tw12974737910505459613 tw10491368765973135495 tw15697610154001693027 tw17106750283392005110 tw14469116790859256143 tw8205107848050756443 tw15014177624785254375 tw12332625579891633877 tw4779267359364869112 tw761737831458049849 tw4802515770455954026 tw15074031733497120883 tw12411406454474295179 tw11273828705448247424 tw4844273051346166076 tw942837462576228862 tw8574132563013625502 tw210560533291460832 tw18094864353546178561 tw16231301066000828134 tw17733888516248712680 tw10480674983775725255 tw6425883078529855145 tw7855205369476713516 tw9534471510975540053 tw12325258985594419667 tw15365866342110593202 tw5167770594400797871 tw4409867128007879491 tw4501104771966221868 tw8105212388810980098 tw7232284913241253196 tw2617253248813353681 tw17505757689272053878 tw17196128180231359647 tw9352846982771509781 tw7746096808816036469 tw11711675230200966769 tw3441752003609576931 tw17717109817852266168 tw12044654791062706488 tw9325226334177030707 tw8837050573831611774 tw7563559582356284545 tw627540727395063558 tw16536819114545046968 tw12679220582943580470 tw11873859329703353528 tw3286920716198224099 tw14126333953819612447 tw16340366726150651104 tw17308469472337894908 tw12831252852537252095 tw12453461169742611035 tw3212724392422653666 tw12761950491270952210 tw13337997049685067633 tw4387403257476171378 tw14859296399349979116 tw1060227969866998224 tw10602161756103105320 tw10552003936189562944 tw5930235608725183276 tw6697263796523243406 tw1242101636534136332 tw8710559019159943748 tw8520531190576202544 tw7199354566231257553 tw5191528932799550805 tw3409309157905007545 tw18356688447381237825 tw16760819668935327658 tw14894447092166547794 tw12772963419741894619 tw10988756292612678118 tw15056056779656228928 tw12960135176726220456 tw12842651133370652287 tw8351650797094988353 tw16477555194843289940 tw10365144559968412283 tw7088882904735806948 tw4573220258919299230 tw3206980275925379695 tw17883411419363276543 tw17601369556266974973 tw17568120899068798659 tw7046915105960011875 tw2416635009606520974 tw10773626713001383626 tw9770243333719121478 tw9018918858506306420 tw16345581689481513115 tw14792759033051859293 tw11600543874388441661 tw416603164682288078 tw11498291610970816216 tw9687126854891314107 tw6499726630104336803 tw12764356376477693753 tw9141581668396546026 tw3977899739014246494 tw17444282073070139036 tw12447247963704197416 tw6142846920757282391 tw3582859147632780581 tw16087069666125850486 tw15896777195907481861 tw10615986300834788994 tw11292161679949524311 tw12162571729137013045 tw5162422478910806530 tw13381985220813226368 tw16590727043449917486 tw13677598604370189625 tw10110818468374632268 tw12743000123630034012 tw1226440878221666773 tw2568760692992763581 tw2583175042222481086 tw11569210776866573426 tw7835056509068787563 tw6069650447104088482 tw3397723006377779078 tw8190113010222336135 tw5945653222794375108 tw3998988538275912736 tw11224970091676324768 tw11884703889145805342 tw15958344237314041132 tw14795019422890579550 tw8844335032381701817 tw575793331658089689 tw17592165118368308200 tw16799988692278763590 tw1514736638868547336 tw8789329826599169235 tw12855854162064928789 tw12617837763833578922 tw7195377423337206533 tw8301339145521320336 tw6877069317869498978 tw5145432045300398599 tw2553553259224290293 tw1414917534079490764 tw10535039057858897363 tw7882765377542113349 tw17880275191122034555 tw8957361984466396941 tw2492002628658463258 tw11524566079611952394 tw11498609706124674958 tw3075182710691402432 tw12903263156308544033 tw708195909996160660 tw7868888182896176126 tw13281036752490672366 tw10442651582838571884 tw8016524917455419693 tw8682842672889940210 tw7864399674622011308 tw18114509147477184416 tw9304919944136097644 tw4013564837099537765 tw11516225114741882066 tw18076199991309543486 tw1660617875538996279 tw13817483932740218399 tw7880524529486260007 tw16219107617488762064 tw10791192818965334078 tw7470571130737640798 tw7327398273279280630 tw12388132724841697646 tw12560490493477900161 tw12257292721028732959 tw13528308273958952943 tw10920571079778077514 tw6857272745416178729 tw2362873866423717379 tw15769015463997500008 tw13345824880679662238 tw9109105687560747085 tw327474790681004364 tw13144847992307681332 tw7020783957047373235 tw6637686542982386390 tw8228318305127050050 tw9578865508646612767 tw6606324377997370753 tw6173475749667720784 tw1820042846772126927 tw16070173838866309406 tw13602939927160409880 tw1118636929242736594 tw4390734246628335491 tw3997140365088926025 tw3366254908500587913 tw9956843468745639568 tw9089621431452261773 tw17783749269251782942 tw15047382457382627101 tw8687133249542573156 tw7555319595243192215 tw8351849468620913406 tw11747048751826941634 tw3361163231431633915 tw11830686492478272860 tw4353158229416519470 tw4338823645228017980 tw17594143755134850602 tw314345784897457890 tw2667354040968958517 tw6737004890213053446 tw16581620520569656159 tw5164089930148722938 tw16691832433883698704 tw11357683154686372546 tw4875294621154355065 tw17272853863052777944 tw16036094321495555169 tw12981148973488058581 tw17913375325072308042 tw1691023585242818193 tw14034301125967857008 tw18139996127060094902 tw2821409435271526987 tw17502563493703260877 tw6409583821493277976 tw4462376249648348420 tw4059003042320435118 tw2801366041397814639 tw13836204406330417796 tw8736403900390298945 tw5162998451124984400 tw16513983479086216849 tw16395579921819526284 tw1638572932870353300 tw8320811856277649612 tw8658863142586487588 tw8116470602107193827:True)
open PySem PySem.W PyProof.Rows
set_option maxRecDepth 100000 in
set_option maxHeartbeats 0 in
theorem PySem.Challenge.cw_slanttiles_k34_where_spots_are_used_last_holds : PySem.Challenge.rw_slanttiles_k34_where_spots_are_used_last.Holds := by
  w_on; o_law; k_head; (case hw => w_witness2)
  k_fill
  refine Q.aXo (l := PySem.Challenge.rw_slanttiles_k34_where_spots_are_used_last) rfl rfl (fun w h Y => PySem.W.kIn_of Y) ?F
  case F =>
    intro w mg fa h KY G hmg
    apply Q.aWv KY G hmg
    case aCnum | aCtake | aCrest | aCcho | aCb0 | aCb1 | aCb2 | aCb3 | aCb4 | aCR | aCG | aCJ | e0 | e1 | e2 | e3 | e4 | e5 | e6 | e7 | e8 | e9 | e10 | e11 | e12 | e13 | e14 | e15 | e16 | e17 | e18 | e19 | e20 | e21 | e22 | e23 | e24 | e25 | e26 | e27 | e28 | e29 | e30 | e31 | e32 | e33 | e34 | e35 | e36 | aWd | z0 | z1 | z2 | z3 | z4 | z5 | z6 | z7 | z8 | z9 | z10 | z11 | z12 | z13 | z14 | z15 | z16 | z17 | z18 | q0 | q1 | q2 | q3 | q4 | q5 | q6 | q7 | q8 | q9 | q10 | q11 | q12 | q13 | q14 | q15 | q16 | q17 => change _ = _; k_is
    case F45 | F46 | F47 | F48 | F49 | F50 | F51 | F52 | F53 | F54 | F55 | F56 | F57 | F58 | F59 | F60 | F61 | F62 | F63 | F64 | F65 | F66 | F67 | F68 | F69 | F70 | F71 | F72 | F73 | F74 | F75 | F76 | F77 | F78 | F79 | F80 | F81 | F82 => exact ⟨⟨by k_is, by k_is, by k_is⟩, L2.aN2 (by k_is) (by k_is) (by k_is)⟩
    case kCnum => exact ⟨⟨by k_is, by k_is, by k_is, by k_is⟩, Q.naS (by k_is) Q.na0, by k_is, by k_is⟩
    case kCtake | kCrest | kCb0 | kCb1 | kCb2 | kCb3 | kCb4 | kCR | kCG => exact ⟨⟨by k_is, by k_is, by k_is, by k_is⟩, Q.naS (by k_is) (Q.naS (by k_is) Q.na0), by k_is, by k_is⟩
    case kCcho => exact ⟨⟨by k_is, by k_is, by k_is, by k_is⟩, Q.naS (by k_is) (Q.naS (by k_is) (Q.naS (by k_is) Q.na0)), by k_is, by k_is⟩
    case kCJ => exact ⟨⟨by k_is, by k_is, by k_is, by k_is⟩, Q.naS (by k_is) (Q.naS (by k_is) (Q.naS (by k_is) (Q.naS (by k_is) (Q.naS (by k_is) (Q.naS (by k_is) Q.na0))))), by k_is, by k_is⟩
    case nd | ndR => decide
    case qF | lWd => k_is
    case F10 | F11 | F12 | F13 | F14 | F15 | F16 | F17 | F18 | F19 | F20 | F21 | F22 | F23 | F24 | F25 | F26 | F27 | F28 | F29 | F30 | F31 | F32 | F33 | F34 | F35 | F36 | F37 | F38 | F39 | F40 | F41 | F42 | F43 | F44 => exact ⟨by change _ = _; k_is, L2.aN2 (by k_is) (by k_is) (by k_is)⟩


