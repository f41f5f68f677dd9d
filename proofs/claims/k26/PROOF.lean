import PyProof.Rows.All
import Wide.All
import OpenK.AllK
import Wide.FinOn
import Lean
import PyProof.EqAt
import PyProof.EqKinds
import PyProof.TupleCall
import PySem.Challenge.RW_slanttiles_k26_whole_turned_about
open PySem renaming wpAny_bind->Aa,wpAny_pure->Ad,Shared->Ai,Program->Aj,wpAny->Bc,World->Bd,Around->Bp,Expr->Bu,mem_of_lookup->By,starEach->Bz,wpAny_holding->Ci,wpAny_newObj_type->Ck,wpAny_call_entry->Co,wpAny_seqItems->Cy,keywordEach->Cz,codeAny_builtin->De,wpAny_truthy_bool->Dn,wpAny_callSpecial?_slot->Do,intKind->Eb,swapsWith->Ed,compareOp->Ee,cellsFrom->En,wpAny_mono->Ep,wpAny_field->Ey,sizeLine_eq->Ez,plainId_quiet->Fc,bindArgs->Fd,wpAny_forIn_list->Fm,backToKw->Ft,bootBuiltins->Fx,wpAny_setState_of->Fy,sysModules->Fz,wpAny_isInstance->Gg,behindInMarks->Gh,attributeBase->Gi,boot_len->Gk,wpAny_specialOf->Gp,ofAClassStatement->Gq,binaryOp->Gw,wpAny_typeNameOfWhole_keyiter->Ha,wpAny_Call_Name_kw->Hf,HeapKind->Hh,assignEach->Ho,wpAny_setField->Hz,pyNext->Ia,codeAny->Ii,Keyword->Ij,wpAny_typeNameOf_keyiter->Ik,wpAny_rule->Il,backTo->Im,wpAny_tupleItemsOf->Ir,wpAny_setField_rec->Iu,tupleKind->Iv,storedH->Iw,NameKind->Iz,rawInt->Ji,wpAny_pyIter_list->Jj,IsTupleKey->Jl,firstArgMember->Jm,wpAny_typeOf->Jq,tupleKeyHash->Jr,isSubtype_tuple_tuple->Js,codeAny_mono->Jt,wpAny_askSetting->Ka,atKey->Kg,wpAny_updateSeq->Kl,wpAny_passesOwn->Km,sliceBounds->Kn,wpAny_getItem_heap->Lc,GenState->Ld,wpAny_dictEntries->Lq,wpAny_comprehension_free->Lr,getMethod->Ls,closureFor->Lu,wpAny_standAt->Md,wpAny_letGo->Me,wpAny_attempt->Mf,standAt->Mg,hashByValue->Mi,wpAny_notOrdered_dict->Nb,pushCells->Nd,letOwnedTupleGo->Nf,builtinLookup_eq_fast->Ng,wpAny_tryCatch->Nt,newFunctionEnv->Nu,wpAny_of_eq->Nz,seqItems? ->Oq,codeAmong->Os,Result->Ou,wpAny_pyIter_slot->Pi,wpAny_call->Pj,wpAny_assign_Name->Pk,getItem->Pm,foldedSetIterable->Pn,entryOfKey->Po,builtinsNs->Pp,setAddHashed->Qb,wpAny_eqBool_int->Qk,noFill_tuple_add->Ql,intItems->Qt,callWith->Qu,ZipApart->Qv,wpAny_richCompare_same_room->Rg,wpAny_execs_nil->Rh,wpAny_dictEpoch->Ri,valueAt->Rj,typeLookup_type->Rk,putSet_of->Rn,callerA->Ro,Within->Rq,DictEntry->Rv,CmpOp->Rw,wpAny_fieldsOf->Sf,isSubtype_type->Sg,isSubtype_stop->Sh,carriedByValue->Si,typeLookup->Sy,isInstance->Tc,intKind_is->Td,call_meets->Te,IsPart->Tn,wpAny_onRaise->Tq,wpAny_newList->Tt,wpAny_handled->Tu,seq_tuple_add->Tw,call->Tz,BindsTo->Ui,wpAny_Assign_Subscript->Uj,wpAny_isTrue_Compare1->Us,wpAny_isOneOf_keyiter->Ut,updateSeq->Uu,seqIndex_neg->Uv,pickOrder->Uw,lastMarks->Ux,exec_Assign_Name_used->Uy,eqIsQuiet->Uz,concat_meets->Va,PassesOwn->Vb,Paired->Vc,wpAny_updateSeq_pair->Vp,codeAny_call_builtin->Vq,wpAny_throw->Vy,wpAny_setEntries_of->Vz,seqIndex_of->Wa,newList->Wc,intItems_at->Wd,IsZip->Wm,wpAny_setItem_heap->Wq,wpAny_pyIter_tuple->Wr,tupleKind_room_in1->Ws,pyIter->Wt,newExc->Wu,isTrue->Wv,getattributeRaised->Ww,entryFor->Wx,compEnvC->Wy,argsOk->Wz,wpAny_storeSet_of->Xq,wpAny_pyIter_enum->Xr,wpAny_Name->Xs,setsByText->Xt,searchCouldBeSeen->Xu,eqIsQuiet_byValue->Xv,bindL->Xw,bindC->Xx,wpAny_pyIter_zip->Yl,wpAny_execs_cons->Ym,entryFor_of_tree->Yn,setItem->Zk,pushCells_keeps->Zl,codeAny_of_tree->Zm,TriplesOk->Zp
open List renaming length_map->Ab,getElem?_eq_getElem->Af,mem_cons_self->Ag,mem_cons_of_mem->Ah,length_append->Ak,size_toArray->Al,length_cons->An,getElem?_map->Ap,mem_cons->Ax,mem_map->Ay,mem_append_right->Az,getElem?_eq_some_iff->Be,mem_singleton->Bf,getD_eq_getElem?_getD->Bh,append_nil->Bi,lookup_cons->Bk,mem_of_getElem? ->Bl,append_assoc->Bm,length_set->Bn,map_eq_nil_iff->Bo,mem_append_left->Bq,map_cons->Br,mem_append->Cb,map_append->Cc,map_map->Ce,not_mem_nil->Cj,getElem?_replicate->Cu,getElem?_set_self->Dd,nil_append->Di,mem_range->Dj,length_take->Dk,range->Dl,pairwise_singleton->Dm,drop_eq_getElem_cons->Dv,length_replicate->Dz,nodup_cons->Ef,getElem?_set_ne->Ei,getElem?_append->Ej,getElem?_append_left->Es,find?_cons->Ex,mem_flatMap->Fh,length_eq_zero_iff->Fl,map_nil->Fq,getElem?_append_right->Ga,length_drop->Gb,getElem_mem->Gc,flatMap_cons->Gj,lookup->Gm,filterMap_cons->Gn,replicate->Gs,take_of_length_le->Gu,filterMap_eq_map'->Gv,of_mem_zip->Hb,getElem?_eq_none->Hc,length_range->Hg,getElem_inj->Hq,zip_cons_cons->Ic,length_zip->Ie,any_cons->Ig,pairwise_map->Ip,ext_getElem? ->Iq,zipWith->Jc,take_append_drop->Jd,length_singleton->Je,map_eq_cons_iff->Jk,dropLast_concat_getLast->Jn,length_nil->Jw,length->Jx,forIn_cons->Jy,foldl_cons->Jz,getElem?_zip_eq_some->Ki,nodup_append->Ku,getElem?_set->Kv,nodup_range->Lg,drop_length->Lh,zip_append->Ma,pairwise_flatMap->Mb,mem_iff_getElem? ->Mc,forIn_nil->Mr,drop_zero->Ms,getElem_of_mem->Mw,flatMap_append->Mx,getD->Nm,foldl_append->Nx,map_zipWith->Om,idxOf_lt_length_of_mem->Pd,pairwise_iff_getElem->Qe,nodup_nil->Qf,mem_or_eq_of_mem_set->Qg,drop_of_length_le->Ru,pairwise_append->Su,mem_of_mem_take->Sv,mem_of_mem_drop->Sw,perm_singleton->Th,map_congr_left->Ti,pairwise_cons->Uc,mem_filterMap->Ud,getElem_idxOf->Ue,take_sublist->Uq,zipIdx_cons->Ve,take_length->Vf,perm_middle->Vg,flatMap_nil->Vh,any_eq_true->Vi,zipIdx_nil->Vu,sum_append->Vv,range_succ->Vw,mem_filter->Vx,take_succ->Wk,map_take->Xe,map_drop->Xf,elem_iff->Xg,all_cons->Xh,toArray->Yc,map_id'->Yd,map_id->Yy,Nodup->Zs
open PySem.W renaming Frag->Ac,fnOf->Ca,findIn->Ea,kia_one->Ec,emptyDict->Eo,codeIn->Fj,instObj->Gf,kla_obj->Gx,keepIn->Hi,mg_of->Io,callWith_K->Jv,tabObj->Kb,CodeHd->Kc,plainGet->Kt,cellsFrom_some->Kx,methodCall_KW->Le,envX->Lf,lookIn->Lz,plainGet_of->Mj,methodObj->Nh,hasDictIn->Ni,takerIn->Ob,makesIn->Oc,kitOne->Ov,nsIn->Qp,isFn->Qq,hideAll_size->Qx,hideAll_none->Qy,hideAll_get->Rr,codeHdIn->Ry,of_hideAll->Rz,keepIn->Sj,codeIn->Sk,plainOver->Sn,kitx_list->So,kitx_dict->Sq,handedIn->Tf,hideAll->Ua,kla_fn->Uo,fnOf->Vr,FnAt->Vs,codeHd_of_K->Zo
open PySem.Heap renaming get?_push_of_some->Ae,get?_push_size->Ar,lt_size->As,get?_update_self->Cv,size_push->Cw,get?_update_other->Dt,SameBut->Em,get?_none_of_le->Mq,ExtBut->Pe
open Nat renaming le_refl->Am,ne_of_lt->Aw,lt_of_lt_of_le->Ba,le_trans->Bs,zero_le->Bt,le_add_right->Da,pow_le_pow_right->Dc,not_lt_zero->Eh,lt_succ_self->Ge,lt_irrefl->Gr,lt_of_le_of_lt->Gz,lt_succ_of_lt->Hk,succ_le_succ->Hu,ne_of_gt->Hw,lt_trans->Hx,le_of_lt->Hy,le_succ->Iy,le_max_right->Ll,lt_of_succ_lt_succ->Lx,pow_succ->Ml,le_max_left->Mm,lt_trichotomy->Od,le_of_succ_le->Oe,zero_add->Oi,succ_pos->Oj,lt_or_ge->Ol,lt_add_right->Ow,mod_lt->Ra,le_of_eq->Ss,not_lt->Vd,min_eq_right->Vt,min_eq_left->Wj,add_lt_add->Xd,succ_add->Yu,sub_zero->Yv,min_self->Yw,le_total->Yx,log2_lt->Zq,add_mul->Zr
open PySem.Value renaming ref->Ao,none->Cg,int->Dx,isInt_shape->Fp,type->Kp,bool->Kq,isInt->Kw,str->Ot,float->Sm,isStrOf->We,builtin->Wg,bytes->Xz
open Bool renaming false_ne_true->Au,false_eq_true->Dr,and_eq_true->Hs,and_false->Ja,not_false->Kj,false_and->Kk,not_true->Nq,eq_false_iff->Ur,not_eq_true->Vo,true_and->Xn,and_true->Xo
open Array renaming length_toList->Bg,getElem?_toList->Dg,getElem?_eq_getElem->Du,forIn_toList->Gd,getD->Jp,getElem?_eq_some_iff->Ke,mem_toList_iff->Mo,getElem?_eq_none->Re,toList_append->Sx,toList->Xp
open Option.some renaming inj->Bj
open PySem.PassesOwn renaming never->Bw
open PyProof.Rows.F renaming plain_set_update_loop->Cd,entry_set_update_loop->Eu
open PySem.Around renaming under_plainId->Cf,under->Rf,frames_deeper->Rx
open Sum renaming inr->Cm,inl->Pq
open PySem.Heap.SameBut renaming update->Cp,trans->Yz,refl->Za
open Ne renaming symm->Cq
open PySem.SetTable renaming below->Cr,insertAt->Ib,turns->Lw,insertAt->Mh,runEnd->Rm,fits->Ul,fill->Um
open PySem.Builtin.SmallTypes renaming nextOf->Df,ownedTupleIsFree->Et,ownedTupleHandOut->Kd
open PySem.NameKind renaming free->Dh,cell->Ds
open Option renaming map_eq_some_iff->Dp,getD_some->Jb,isSome_iff_exists->Pu,isSome_some->Sr,getD_none->Ub,map_some->Up
open List.cons renaming inj->Dq
open Nat.succ renaming inj->Dw
open Or renaming inl->Dy,inr->Ew
open False renaming elim->Eg
open Int renaming emod_lt_of_pos->Ek,emod_nonneg->Fu,toNat_natCast->Hl,emod_eq_of_lt->Hm,le_refl->Li,natCast_add->Mn,toNat_of_nonneg->Nk,emod_add_emod->Of,mul_le_mul_of_nonneg_right->On,mul_le_mul_of_nonneg_left->Oy,mul_one->Pv,fdiv_eq_ediv_of_nonneg->Qh,add_mul_emod_self_left->Qi,le_ediv_iff_mul_le->Sa,mul_neg->Zt,add_mul->Zu
open PySem.Builtin.Tuple renaming tupleHashOf->El,tupleExact->He,tupleItemsOf->My
open True renaming intro->Er
open PyProof.Rows renaming callWith_type1->Fe,slot_tuple_getitem->Ht,seqObj->Jh,boot_list->Ko,boot_tuple->Lv,IntsAre->Nj,envOfC->Nv,AllBare->Og,lt_int->Pc,sortedHeap->Sz,subscriptTail->Tv,listUpdate_at->Tx,Constant_none->Ug,subscriptTail_builtinR->Uk,seqEpoch_at->Wb,Subscript_->Ya,callWith_kw->Ys,callWith_builtin1->Yt
open PySem.Obj renaming mapSeq->Ff,data_mapFields->Fg,isFreed_of_fields->Jf,cls_mapFields->Kz,putSet->Mp,mapFields->Rt
open PySem.Str renaming ofString->Fs
open PySem.Builtin.Slice renaming slicePlaces->Gy,sliceAdjust->Jg,sliceApplied->Mz,slicePartIndex->Yi,sliceFields->Yj
open PySem.F renaming slot_dict_keyiterator_next->Hd,slot_dict_getitem->Hj,slot_tuple_iterator_next->Hn,plainAttrs_list->Hv,args_tuple_add_2->Kh,entry_tuple_add->Ks,slot_tuple_add->Ky,slot_zip_next->Mu,type_list_append->Oz,slot_list_append->Pa,slot_dict_update->Pb,args_dict_keyiterator_next_1->Pf,slot_list_index->Pr,plain_min_loop->Pw,plain_max_loop->Px,entry_dict_keyiterator_next->Py,args_tuple_iterator_next_1->Qj,slot_dict_len->Qr,entry_tuple_iterator_next->Qs,slot_tuple_hash->Wn,plain_list_iadd->Wo,args_zip_next_1->Wp,slot_dict_iter->Xj,entry_zip_next->Xk,entry_min_loop->Xl,entry_max_loop->Xm,slot_tuple_eq->Ye,slot_set_iter->Yf,plain_set_new->Yg
open ForInStep renaming yield->Hr
open PySem.Builtin.Builtins renaming bindParams->Ih
open PySem.Builtin.List renaming listTooLong->Jo,listExtendWith->Na,listSameRef->Nr,listTouch->Zf,listLengthHint->Zg
open List.Perm renaming refl->Ju,swap->Tj
open PySem.SetTable.probe renaming go->Kf
open PySem.SeqAt renaming EqAt->Kr,RcNeAt->Xb,RcAt->Yq
open Iff renaming rfl->Lj
open PySem.Builtin.Dict_items renaming ownsTuple->Lk
open Except renaming error->Lo,ok->Zc
open List.Pairwise renaming nil->Ly
open PySem.Shared renaming TypeIs->Mv,heap->Xa
open PySem.SeqAt.EqAt renaming same->Nl,str_int->Qm,of_refs->Qn,int_str->Qo
open PySem.Builtin.Dict renaming pendingCount->Nn,dictSlotNone->Np,updateFrom->Ny,showsAll->Oo,selfAndRest->Zh,pairItems->Zi,addKeywords->Zj
open Sum.inr renaming inj->Oa
open PySem.SetTable.below renaming go->Oh
open PySem.Moved renaming trans->Ox
open PySem.Data renaming cell->Pg,fields->To
open PySem.Calls renaming Name_function_global->Ph,call_function_entry->Pz,callWith_builtin->Rc,evalArgs_plain->Se,spliced_cons->Tp,spliced_nil->Uh
open PySem.pickOrder renaming go->Pl
open PySem.Builtin.Int renaming intBits->Qa,intTooBig->Zx
open PySem.Walks renaming list->Qc
open PySem.Paired renaming length->Qd,snoc->Xc
open PySem.SeqAt.RcAt renaming tuples->Qw,lists->Rp
open Prod renaming ext->Qz
open Function renaming comp_def->Sb
open PySem.Code renaming isFrame->Sd,frames->Ze
open PyProof.Rows.IsTup renaming new->Vj
open PySem.Builtin.Frozenset renaming updateFrom->Vk,slot0->Vl,sizeOf->Vm,newClass->Vn
open Prod.mk renaming inj->Wh
open PySem.Heap.IsSliceOf renaming new->Xi
open PySem.W.WShape renaming has->Xy
open PySem.W.Looks renaming here->Yb
open PySem.CmpOp renaming NotIn->Yh
open PySem.Builtin.Range renaming rangeSize->Yk
open PySem.SeqAt.RcNeAt renaming tuples->Yo,lists->Yp
open PySem.Within renaming cons->Yr
open PySem.Heap.DictOfH renaming new->Zb
open Eq renaming trans->Zd
open PySem.W.WData renaming int->Zn
open PySem.Heap.IsList renaming push->Zv
open PySem.Heap.DictOf renaming new->Zw
def Aa0:=@if_neg
def Aa1:=@if_pos
def Aa2:=@absurd
def Aa3:=@of_decide_eq_true
def Aa4:=@of_decide_eq_false
def Aa5:=@decide_eq_true
def Aa6:=@decide_eq_false
def Aa7:=@decide_eq_true_iff
def Aa8:=@eq_of_beq
def Aa9:=@congrArg
def Ab0:=@beq_self_eq_true
def Ab1:=@if_false
def Ab2:=@if_true
set_option compiler.extract_closed false
set_option bootstrap.genMatcherCode false
set_option genSizeOf false
set_option genInjectivity false
local macro_rules| `(tactic|trivial)=> `(tactic|first|exact Dy rfl|exact Ew (Dy rfl)|exact Ew (Ew rfl)|exact Ew rfl)
local macro_rules| `(tactic|ac_rfl)=> `(tactic|simp only[Nq,Dr,Ab1])
local macro_rules|`(∅)=>`(by lia)
local macro_rules|`(⋯)=>`(by decide)
set_option hygiene false
local macro_rules|`(⇑$x)=>`(Cal P w K mg base CX0 $x)
local macro_rules|`(↥$x)=>`(aX P w K mg base CX0 $x)
local macro_rules|`(~~~$x)=>`(show ($x : List Str).Nodup by decide+kernel)
local macro_rules|`(↑$x)=>`(fun cl C s2 H2 fp=>$x)
local macro_rules|`(#v[0])=>`(s.heap.objs.size)
local macro_rules|`(#v[1])=>`(by decide+kernel)
local macro_rules|`(#v[2])=>`(SetTable.advs t.mask N (t.probeStart (knd.hash k)))
local macro_rules|`(#v[3])=>`(Inv X aa σ H s)
local macro_rules|`(#v[4])=>`(List (Addr×Obj))
local macro_rules|`(#v[5])=>`(cW X (fD own cap) scope cl C s2 H2 fp)
local macro_rules|`(#v[6])=>`({cls:=.type "dict",data:=.dict (List.toArray [])})
local macro_rules|`(#v[7])=>`(.ListComp elt [⟨tg,iter,[],0⟩] scope pos)
local macro_rules|`(#v[8])=>`(List (Tke×Addr×Value))
local macro_rules|`(#v[9])=>`(Option Value)
local macro_rules|`(#v[10])=>`(.ListComp elt [⟨tg,iter,cis,0⟩] scope pos)
local macro_rules|`(#v[11])=>`(List (Str×Nat))
local macro_rules|`(#v[a])=>`(model X.prog X.w)
local macro_rules|`(#v[b])=>`(model prog w)
local macro_rules|`(#v[c])=>`(Value->Ai->Prop)
local macro_rules|`(#v[d])=>`(cZ (bD cP (aA 0)) bJ (hr.mono ∅) (aB (aA 1) aD))
local macro_rules|`(#v[e])=>`(bH (cH (huD hr)) cY (bA aQ aZ (aA 0) aH) bI)
local macro_rules|`(#[$x,*])=>`(⟨$x,*⟩)
set_option Elab.async false
set_option linter.all false
set_option maxRecDepth 100000
namespace L2
variable {u:Value}{us:List Value}{mg:Str->#v[9]}{kw:List (Str×Value)}{t':Nat}{b:Addr}{pos:Pos}{k:Nat}{base:Heap}{mA:Str->#v[9]}{ch:List Addr}{fp:List Addr}{i:Nat}{g:Int->Int->Int}{body:List Stmt}{N ps:List Str}
open PySem PySem.Spec PyProof.Rows
abbrev Key:=Sum Int Str
def aEk:Key->Value->Bool
 |.inl k,v=>Kw k v
 |.inr x,v=>We x v
def bC0(w:Bd):Key->Int
 |.inl k=>hashInt k
 |.inr x=>hashStr w x
def dZ:∀{k:Key}{v:Value},aEk k v=true->(∃i t,k=Pq i/\v=Dx i t)∨(∃x t,k=Cm x/\v=Ot x t)
 |.inl i,v,h=>by
  obtain⟨t,e⟩:=Fp (k:=i) (v:=v) h;exact .inl #[i,t,rfl,e]
 |.inr x,v,h=>by
  obtain⟨t,e⟩:=Value.isStrOf_shape (x:=x) (v:=v) h;exact .inr #[x,t,rfl,e]
def aMl(i:Int)(t:Tok):aEk (.inl i) (.int i t)=true:=by simp[aEk,Kw]
def aMm(x:Str)(t:Tok):aEk (.inr x) (.str x t)=true:=by simp[aEk,We]
def aW5(a b:Int):decide ((Pq a:Key)=Pq b)=(a==b):=by
 by_cases e:a=b
 ·subst e;simp
 ·have h:¬(Pq a:Key)=Pq b:=λq=>e (Sum.inl.inj q);rw[Aa6 h];exact(beq_eq_false_iff_ne.mpr e).symm
def aW8(a b:Str):decide ((Cm a:Key)=Cm b)=decide (a=b):=by
 by_cases e:a=b
 ·subst e;simp
 ·have h:¬(Cm a:Key)=Cm b:=λq=>e (Oa q);rw[Aa6 h,Aa6 e]
def aW6(a:Int)(b:Str):decide ((Pq a:Key)=Cm b)=false:=Aa6 (λq=>nomatch q)
def aW7(a:Str)(b:Int):decide ((Cm a:Key)=Pq b)=false:=Aa6 (λq=>nomatch q)
def eG(prog:Aj)(w:Bd):PySem.KeyKind prog w Key where
 is:=aEk
 hash:=bC0 w
 inj:=λv a b ha hb=>by
  rcases dZ ha with ⟨i,t,rfl,rfl⟩|⟨x,t,rfl,rfl⟩
  ·rcases dZ hb with ⟨j,u,rfl,e⟩|⟨y,u,rfl,e⟩
   ·injection e with e1 _;rw[e1]
   ·exact nomatch e
  ·rcases dZ hb with ⟨j,u,rfl,e⟩|⟨y,u,rfl,e⟩
   ·exact nomatch e
   ·injection e with e1 _;rw[e1]
 byValue:=λk v h=>by
  rcases dZ h with ⟨i,t,rfl,rfl⟩|⟨x,t,rfl,rfl⟩<;>rfl
 pyHash:=λhv h=>by
  rcases dZ hv with ⟨i,t,rfl,rfl⟩|⟨x,t,rfl,rfl⟩
  ·exact wpAny_pyHash_int h
  ·exact wpAny_pyHash_str h
 eqBool:=λhu hv h=>by
  rcases dZ hu with ⟨i,t,rfl,rfl⟩|⟨x,t,rfl,rfl⟩
  ·rcases dZ hv with ⟨j,u,rfl,rfl⟩|⟨y,u,rfl,rfl⟩
   ·rw[aW5]at h;exact Qk h
   ·rw[aW6]at h;exact Qo i t y u _ _ _ _ h
  ·rcases dZ hv with ⟨j,u,rfl,rfl⟩|⟨y,u,rfl,rfl⟩
   ·rw[aW7]at h;exact Qm x t j u _ _ _ _ h
   ·rw[aW8]at h;exact wpAny_eqBool_str h
 «strs»:=λk x t v h=>by
  rcases dZ h with ⟨i,u,rfl,e⟩|⟨y,u,rfl,e⟩
  ·exact nomatch e
  ·injection e with e1 _
   subst e1;cases v<;>rfl
def aHi(prog:Aj)(w:Bd)(i:Int)(t:Tok):(eG prog w).is (.inl i) (.int i t)=true:=aMl i t
def aHj(prog:Aj)(w:Bd)(x:Str)(t:Tok):(eG prog w).is (.inr x) (.str x t)=true:=aMm x t
inductive V where
 |non|bl (b:Bool)|int (i:Int)|str (x:Str)|byt (b:Array UInt8)|flt (b:UInt64)|ref (a:Addr)|ty (n:String)
 deriving DecidableEq
def RelV:V->Value->Prop
 |.non,u=>u=Cg
 |.bl b,u=>u=Kq b
 |.int i,u=>∃t,u=Dx i t
 |.str x,u=>∃t,u=Ot x t
 |.byt b,u=>∃t,u=Xz b t
 |.flt b,u=>∃t,u=Sm b t
 |.ref a,u=>u=Ao a
 |.ty n,u=>u=Kp n
abbrev Vals:List V->List Value->Prop:=Vc RelV
def Vals.length{xs:List V}(r:Vals xs us):xs.length=us.length:=Qd r
def Vals.get:∀{xs:List V}{us:List Value}{i:Nat}{x:V},Vals xs us->xs[i]? =some x->∃u,us[i]? =some u/\RelV x u
 |_,_,_,_,.nil,e=>by simp at e
 |_,_,0,_,.cons r _,e=>by simp at e;subst e;exact#[_,rfl,r]
 |_,_,i+1,x,.cons _ t,e=>by
  obtain⟨u,h1,h2⟩:=Vals.get (i:=i) (x:=x) t (by simpa using e);exact#[u,by simpa using h1,h2]
def Vals.set(r:RelV x u):∀{xs:List V}{us:List Value}(i:Nat),Vals xs us->Vals (xs.set i x) (us.set i u)
 |_,_,_,.nil=> .nil
 |_,_,0,.cons _ t=> .cons r t
 |_,_,i+1,.cons q t=> .cons q (Vals.set r i t)
def Vals.append:∀{xs ys:List V}{us ws:List Value},Vals xs us->Vals ys ws->Vals (xs++ys) (us++ws)
 |_,_,_,_,.nil,s=>s
 |_,_,_,_,.cons r t,s=> .cons r (Vals.append t s)
def Vals.take:∀{xs:List V}{us:List Value}(n:Nat),Vals xs us->Vals (xs.take n) (us.take n)
 |_,_,0,_=> .nil
 |_,_,_+1,.nil=> .nil
 |_,_,n+1,.cons r t=> .cons r (Vals.take n t)
def Vals.drop:∀{xs:List V}{us:List Value}(n:Nat),Vals xs us->Vals (xs.drop n) (us.drop n)
 |_,_,0,r=>r
 |_,_,_+1,.nil=> .nil
 |_,_,n+1,.cons _ t=>Vals.drop n t
def uU:Option V->#v[9]->Prop
 |some v,some u=>RelV v u
 |none,none=>True
 |_,_=>False
def KV{κ:Type}:List (κ×V)->List (κ×Value)->Prop:=Vc λ(p:κ×V)(q:κ×Value)=>p.1=q.1/\RelV p.2 q.2
def kV:Key->V
 |.inl i=> .int i
 |.inr x=> .str x
inductive HO where
 |lst (xs:List V)
 |tup (xs:List V)
 |dK (ab:List (Key×V))|dT (ab:List (List Key×V))
 |set (S:Int->Bool) (n:Nat)
 |ins (C dx:Addr) (fs:List (Str×V))
 |own (x:Addr)
 |xd (fs:List (Str×V))
 |met (f x:Addr)
 |rng (lo hi:Int)
 |frz (o:Obj) (u:HO)
 |tbl (ps:Array Value)
 |ext (φ:Heap->Prop)
abbrev Hp:=Addr->Option HO
def upd(H:Hp)(a:Addr)(o:HO):Hp:=λb=>if b=a then some o else H b
def aL:upd H a o a=some o:=by unfold upd;rw[Aa1 rfl]
def aJ{a b:Addr}(h:b≠a):upd H a o b=H b:=by unfold upd;rw[Aa0 h]
def bAk{H:Hp}{a b:Addr}{o u:HO}(h:H a=some o)(h':H b=some u)(d:o≠u):a≠b:=by
 intro e;subst e;rw[h]at h';exact d (Bj h')
def aV{H:Hp}{a b:Addr}{o:HO}(h:H a=some o)(h':H b=none):a≠b:=by
 intro e;subst e;rw[h]at h';cases h'
section
variable (P:Aj)(w:Bd)
def bL(H:Hp)(h:Heap)(a:Addr):HO->Prop
 |.lst xs=>xs.length<=sizeLine/\∃(ae:List Value)(n:Nat),Vals xs ae/\h.get? a=some {cls:=.type "list",data:=.seq ae.toArray n}
 |.tup xs=>xs.length<=sizeLine/\∃ae:List Value,Vals xs ae/\IsTup h a ae.toArray
 |.dK ab=>ab.length<=sizeLine/\(a==Fz)=false/\∃vs,KV ab vs/\h.DictOf (eG P w) a vs
 |.dT ab=>ab.length<=sizeLine/\(a==Fz)=false/\∃xs:List (List Key×Addr×Value),
   Vc (λ(p:List Key×V)(q:List Key×Addr×Value)=>p.1=q.1/\H q.2.1=some (.tup (p.1.map kV))/\RelV p.2 q.2.2) ab xs/\
   ∃o es ep,h.get? a=some o/\o.ExactDict/\o.data=.dict es ep/\es.toList=xs.map (Po (Iv (eG P w)))/\(xs.map (·.1)).Nodup
 |.set S n=>h.SetOf (Eb P w) a S n
 |.ins C dx fs=>H dx=some (.own a)/\fs.length<=1000/\dx≠a/\h.get? a=some (Gf C dx)/\
   ∃mA,h.Ns1 dx mA/\(∀f,uU (fs.lookup f) (mA f))/\Rq mA (fs.map (·.1))
 |.own _=>∃o,h.get? a=some o
 |.xd fs=>∃mA,h.Ns1 a mA/\∀f,uU (fs.lookup f) (mA f)
 |.rng lo hi=>∃t u v,h.get? a=some {cls:=.type "range",data:=.fields (List.toArray [.int lo t,.int hi u,.int 1 v])}
 |.frz o u=>h.get? a=some o/\bL H h a u
 |.tbl ps=>h.get? a=some {cls:=.none,data:=.fields ps}
 |.met f x=>h.get? a=some (Nh (.ref f) (.ref x))
 |.ext φ=>φ h/\(∃o,h.get? a=some o)/\∀h1 h2:Heap,φ h1->(∀o,h1.get? a=some o->h2.get? a=some o)->φ h2
def HOk(H:Hp)(h:Heap):Prop:=∀a o,H a=some o->bL P w H h a o
end
variable {P:Aj}{w:Bd}{H H':Hp}{h h':Heap}{a:Addr}{o:HO}
def bL.lt(x:bL P w H h a o):a<h.objs.size:=by
 cases o with
 |lst xs=>obtain⟨_,_,_,_,e⟩:=x;exact As e
 |tup xs=>obtain⟨_,_,_,p⟩:=x;exact p.lt
 |dK ab=>obtain⟨_,_,_,_,o,_,_,e,_⟩:=x;exact As e
 |dT ab=>obtain⟨_,_,_,_,o,_,_,e,_⟩:=x;exact As e
 |set S n=>obtain⟨o,_,_,_,e,_⟩:=x;exact As e
 |ins C dx fs=>obtain⟨_,_,_,e,_⟩:=x;exact As e
 |own y=>obtain⟨_,e⟩:=x;exact As e
 |xd fs=>obtain⟨_,⟨_,_,_,e,_⟩,_⟩:=x;exact As e
 |rng lo hi=>obtain⟨_,_,_,e⟩:=x;exact As e
 |frz ob u=>obtain⟨e,_⟩:=x;exact As e
 |tbl ps=>exact As (show h.get? a=some _ from x)
 |met f y=>exact As (show h.get? a=some _ from x)
 |ext φ=>obtain⟨_,⟨_,e⟩,_⟩:=x;exact As e
def Paired.mapP{α β:Type}{F G:α->β->Prop}:∀{l₁:List α}{l₂:List β},Vc F l₁ l₂->(∀a b,F a b->G a b)->Vc G l₁ l₂
 |_,_,.nil,_=> .nil
 |_,_,.cons r t,f=> .cons (f _ _ r) (Paired.mapP t f)
def bL.stay(x:bL P w H h a o)(k:∀b u,(b=a∨H b=some (.own a))->h.get? b=some u->h'.get? b=some u)
  (ho:∀b,H b=some (.own a)->H' b=some (.own a)) (ht:∀b xs,H b=some (.tup xs)->H' b=some (.tup xs)):bL P w H' h' a o:=by
 induction o with
 |lst xs=>obtain⟨z,ae,n,r,e⟩:=x;exact#[z,ae,n,r,k _ _ (.inl rfl) e]
 |tup xs=>obtain⟨z,ae,r,ob,e,c⟩:=x;exact#[z,ae,r,ob,k _ _ (.inl rfl) e,c]
 |dK ab=>obtain⟨z,y,vs,r,ob,es,ep,e,c⟩:=x;exact#[z,y,vs,r,ob,es,ep,k _ _ (.inl rfl) e,c]
 |dT ab=>
  obtain⟨z,y,xs,r,ob,es,ep,e,c⟩:=x;exact#[z,y,xs,Paired.mapP r λp q z=>#[z.1,ht _ _ z.2.1,z.2.2],ob,es,ep,k _ _ (.inl rfl) e,c]
 |set S n=>obtain⟨ob,es,ep,t,e,c⟩:=x;exact#[ob,es,ep,t,k _ _ (.inl rfl) e,c]
 |ins C dx fs=>
  obtain⟨d,z,ne,e,mA,⟨od,es,ep,e2,c⟩,r⟩:=x;exact#[ho _ d,z,ne,k _ _ (.inl rfl) e,mA,#[od,es,ep,k _ _ (.inr d) e2,c],r]
 |own y=>obtain⟨ob,e⟩:=x;exact#[ob,k _ _ (.inl rfl) e]
 |xd fs=>obtain⟨mA,⟨od,es,ep,e,c⟩,r⟩:=x;exact#[mA,#[od,es,ep,k _ _ (.inl rfl) e,c],r]
 |rng lo hi=>obtain⟨t,u,v,e⟩:=x;exact#[t,u,v,k _ _ (.inl rfl) e]
 |frz ob u ih=>obtain⟨e,q⟩:=x;exact#[k _ _ (.inl rfl) e,ih q]
 |tbl ps=>
  have e:h.get? a=some {cls:=.none,data:=.fields ps}:=x;show h'.get? a=some {cls:=.none,data:=.fields ps};exact k a _ (.inl rfl) e
 |met f y=>
  have e:h.get? a=some (Nh (.ref f) (.ref y)):=x;show h'.get? a=some (Nh (.ref f) (.ref y));exact k a _ (.inl rfl) e
 |ext φ=>obtain⟨p,⟨o,e⟩,st⟩:=x;exact#[st _ _ p λo q=>k _ _ (.inl rfl) q,#[o,k _ _ (.inl rfl) e],st]
def HOk.lt(x:HOk P w H h)(e:H a=some o):a<h.objs.size:=(x a o e).lt
def HOk.fresh(x:HOk P w H h)(e:h.objs.size<=a):H a=none:=by
 cases q:H a with
 |none=>rfl
 |some u=>exact Aa2 (Ba (x.lt q) e) (Gr _)
def HOk.kept(x:HOk P w H h)(k:∀b u,h.get? b=some u->h'.get? b=some u):HOk P w H h':=λa o e=>
 (x a o e).stay (λb u _ q=>k b u q) (λ_ q=>q) λ_ _ q=>q
def HOk.laid(x:HOk P w H h)(k:∀b u,h.get? b=some u->h'.get? b=some u)(hp:h.objs.size<=a)(new:bL P w (upd H a o) h' a o):HOk P w (upd H a o) h':=λb u e=>by
 have hn:=x.fresh hp;by_cases hb:b=a
 ·subst hb;rw[aL]at e;cases e;exact new
 ·rw[aJ hb]at e;exact(x b u e).stay (λc v _ q=>k c v q) (λc q=>by rw[aJ (aV q hn)];exact q) λc xs q=>by rw[aJ (aV q hn)];exact q
def Rd(H:Hp)(a:Addr)(u:HO):Prop:=H a=some u∨∃o,H a=some (.frz o u)
def Rd.ok{P:Aj}{w:Bd}{H:Hp}{h:Heap}{a:Addr}{u:HO}(r:Rd H a u)(x:HOk P w H h):bL P w H h a u:=by
 rcases r with r|⟨o,r⟩
 ·exact x a u r
 ·obtain⟨_,q⟩:=x a _ r;exact q
def Mut:Option HO->Prop
 |some (.lst _)=>True
 |some (.dK _)=>True
 |some (.dT _)=>True
 |some (.set _ _)=>True
 |some (.ins _ _ _)=>True
 |some (.ext _)=>True
 |_=>False
variable {x e:Addr}{o':HO}
def HOk.write(ok:HOk P w H h)(mu:Mut (H x))(he:e=x∨H e=some (.own x))(k:∀b u,b≠e->h.get? b=some u->h'.get? b=some u)(heo:∃u,h'.get? e=some u)
  (new:bL P w (upd H x o') h' x o'):HOk P w (upd H x o') h':=λb u q=>by
 have nown:∀c y,H c=some (.own y)->c≠x:=λc y r z=>by subst z;rw[r]at mu;exact mu
 have ntup:∀c xs,H c=some (.tup xs)->c≠x:=λc xs r z=>by subst z;rw[r]at mu;exact mu
 by_cases hb:b=x
 ·subst hb;rw[aL]at q;cases q;exact new
 ·rw[aJ hb]at q;by_cases hbe:b=e
  ·have q':H b=some (.own x):=by
    rcases he with z|z
    ·exact Aa2 (hbe.trans z) hb
    ·rw[hbe];exact z
   rw[q]at q';cases q';obtain⟨v,hv⟩:=heo;exact#[v,by rw[hbe];exact hv]
  ·refine(ok b u q).stay (λc v hc r=>k c v ?_ r) (λc r=>by rw[aJ (nown c b r)];exact r) λc xs r=>by rw[aJ (ntup c xs r)];exact r
   rcases hc with rfl|hc
   ·exact hbe
   ·rintro rfl;rcases he with z|z
    ·exact nown c b hc z
    ·rw[hc]at z;cases z;exact hb rfl
structure Un(fs ex:List Addr)(H H':Hp)(h h':Heap):Prop where
 keep:∀b o,h.get? b=some o->H b=none->b∉fs->b∉ex->h'.get? b=some o
 slot:∀b o,h.get? b=some o->H b=none->b∈fs->b∉ex->∃sl,h'.get? b=some {o with slots:=sl}
 free:∀b o,h.get? b=some o->H b=none->b∉ex->H' b=none
 there:∀b o,h.get? b=some o->b∉ex->∃o',h'.get? b=some o'
 tups:∀b xs,H b=some (.tup xs)->H' b=some (.tup xs)
 frzs:∀b o u,H b=some (.frz o u)->H' b=some (.frz o u)
 tbls:∀b ps,H b=some (.tbl ps)->∃more,H' b=some (.tbl (ps++more))
section
variable {fs fs' ex ex':List Addr}{H H1 H2:Hp}{h h1 h2 h':Heap}{a x e:Addr}{o:HO}
def Un.any(u:Un fs ex H H1 h h1)(q:h.get? b=some ob)(n:H b=none)(hx:b∉ex):∃sl,h1.get? b=some {ob with slots:=sl}:=by
 by_cases hb:b∈fs
 ·exact u.slot b ob q n hb hx
 ·exact#[ob.slots,u.keep b ob q n hb hx]
def Un.kept(k:∀b u,h.get? b=some u->h'.get? b=some u):Un fs ex H H h h':=
 #[λb ob q _ _ _=>k b ob q,λb ob q _ _ _=>#[ob.slots,k b ob q],λ_ _ _ n _=>n,λb ob q _=>#[ob,k b ob q],λ_ _ q=>q,λ_ _ _ q=>q,λ_ ps q=>#[(List.toArray []),by rw[q];simp]]
def Un.refl:Un fs ex H H h h:=Un.kept λ_ _ q=>q
def Un.laid(k:∀b u,h.get? b=some u->h'.get? b=some u)(hp:h.objs.size<=a)(hn:H a=none):Un fs ex H (upd H a o) h h' where
 keep:=λb u q _ _ _=>k b u q
 slot:=λb u q _ _ _=>#[u.slots,k b u q]
 free:=λb u q n _=>by rw[aJ (Aw (Ba (As q) hp))];exact n
 there:=λb u q _=>#[u,k b u q]
 tups:=λb xs q=>by rw[aJ (aV q hn)];exact q
 frzs:=λb u xs q=>by rw[aJ (aV q hn)];exact q
 tbls:=λb ps q=>#[(List.toArray []),by rw[aJ (aV q hn),q];simp]
def Un.write(mu:Mut (H x))(he:e=x∨H e=some (.own x))(k:∀b u,b≠e->h.get? b=some u->h'.get? b=some u)(heo:∃u,h'.get? e=some u):Un fs ex H (upd H x o) h h':=by
 have hx:∀b,H b=none->b≠x:=λb n z=>by subst z;rw[n]at mu;exact mu
 have hb:∀b,H b=none->b≠e:=λb n z=>by
  subst z;rcases he with r|r
  ·exact hx b n r
  ·rw[n]at r;cases r
 have hm:∀b u,H b=some u->¬Mut (some u)->b≠x:=λb u q nm z=>by subst z;rw[q]at mu;exact nm mu
 refine⟨λb u q n _ _=>k b u (hb b n) q,λb u q n _ _=>#[u.slots,k b u (hb b n) q],λb u q n _=>by rw[aJ (hx b n)];exact n,λb u q _=>?_,
  λb xs q=>by rw[aJ (hm b _ q λz=>z)];exact q,λb u xs q=>by rw[aJ (hm b _ q λz=>z)];exact q,λb ps q=>#[(List.toArray []),by rw[aJ (hm b _ q λz=>z),q];simp]⟩
 by_cases hbe:b=e
 ·subst hbe;exact heo
 ·exact#[u,k b u hbe q]
end
def trk(h:Heap)(H:Hp):List Addr:=(Dl h.objs.size).filter λa=>(H a).isSome
def aCa(h:Heap)(H:Hp):Heap:=Ua h (trk h H)
def aEi(h:Heap)(H:Hp):(aCa h H).objs.size=h.objs.size:=Qx _ _
def aHc{h:Heap}{H:Hp}{o:Obj}(e:h.get? b=some o)(n:H b=none):(aCa h H).get? b=some o:=
 Rr _ e λhm=>by
  have q:(H b).isSome=true:=(Vx.mp hm).2;rw[n]at q;simp at q
def aK9{h:Heap}{H:Hp}{o:Obj}(e:(aCa h H).get? b=some o):h.get? b=some o/\H b=none:=by
 have e':h.get? b=some o:=Rz (trk h H) e;refine#[e',?_];cases q:H b with
 |none=>rfl
 |some x=>
  have hm:b∈trk h H:=Vx.mpr #[Dj.mpr (As e'),by simp[q]];have z:(aCa h H).get? b=none:=Qy (trk h H) hm;rw[z]at e;cases e
structure Mod(K:Ac)(mg:Str->#v[9])(base:Heap):Prop where
 kin:K.In base
 glob:base.Ns mainGlobals mg
 blt:∃mb,base.Ns Pp mb/\∀x:Str,x≠"__name__"->mb x=Fx x
 nolimit:base.NoLimit
structure Cx where
 prog:Aj
 w:Bd
 K:Ac
 mg:Str->#v[9]
 base:Heap
 A:Bp
 N:List Str
 s₀:Ai
 H₀:Hp
 env:Env
 outer:List Env
 stack:List Env
 ex:List Addr
 fn:Str->Bool
 calm:Bool
 pn:#v[4]
 xe:Value->Ai->Prop
def frs(l:List Env):List Addr:=l.filterMap (·.frame)
abbrev Cx.fs(X:Cx):List Addr:=frs X.outer
def Vis(sc:Scope)(x:Str):Prop:=sc.names.lookup x=some .local∨sc.names.lookup x=some .cell∨sc.names.lookup x=some .free
def Loc(sc:Scope)(x:Str):Prop:=sc.names.lookup x=some .local∨sc.names.lookup x=some .cell
def Look(env:Env)(h:Heap)(m:Str->#v[9])(x:Str)(u:Value):Prop:=
 (env.kindOf x=some .local/\m x=some u)∨((env.kindOf x=some .cell∨env.kindOf x=some .free)/\∃c,env.cells.lookup x=some c/\h.IsCell c (some u))
structure Cx.Ok(X:Cx):Prop where
 mod:Mod X.K X.mg X.base
 kind:X.env.scope.kind=.function
 glob:X.env.globals=mainGlobals
 blt:X.env.builtins=Pp
 above:X.s₀.heap.objs.size<=X.env.locals
 inj:∀x y c,X.env.cells.lookup x=some c->X.env.cells.lookup y=some c->x=y
 has:∀x,(X.env.kindOf x=some .cell∨X.env.kindOf x=some .free)->∃c,X.env.cells.lookup x=some c
 cab:∀x c,X.fn x=true->X.env.cells.lookup x=some c->X.s₀.heap.objs.size<=c
 hd:X.calm=true->X.A.handled=none
 frames:X.A.frames=some X.stack
 stk:X.stack=X.outer∨(X.stack=X.env::X.outer/\X.env.frame=some X.env.locals)
 exf:∀b∈X.ex,b≠X.env.locals/\∀x c,X.env.cells.lookup x=some c->c≠b
 bs:∀b o,X.base.get? b=some o->X.s₀.heap.get? b=some o/\X.H₀ b=none
 bsz:X.base.objs.size<=X.s₀.heap.objs.size
 noex:∀b o,X.base.get? b=some o->b∉X.ex
 exfs:∀b∈X.ex,b∉X.fs
 funs:X.s₀.heap.FunFrames X.base X.outer
 frf:∀b∈X.fs,X.H₀ b=none
structure Inv(X:Cx)(aa:#v[4])(σ:List (Option V))(H:Hp)(s:Ai):Prop where
 ok:X.Ok
 os:s.os=X.s₀.os
 bare:Og s.gens
 base:Un X.fs X.ex X.H₀ H X.s₀.heap s.heap
 loc:∃m,s.heap.Ns X.env.locals m/\∀(i:Nat)(x:Str)(v:V),X.N[i]? =some x->σ[i]? =some (some v)->Vis X.env.scope x->∃u,RelV v u/\Look X.env s.heap m x u
 cell:∀x c,X.env.cells.lookup x=some c->∃v,s.heap.IsCell c v
 free:H X.env.locals=none
 freeC:∀x c,X.env.cells.lookup x=some c->H c=none
 pin:∀p∈X.pn++aa,s.heap.get? p.1=some p.2/\H p.1=none/\p.1≠X.env.locals/\p.1∉X.fs/\∀v,p.2.data≠.cell v
 hok:HOk X.prog X.w H s.heap
 len:σ.length=X.N.length
variable {X:Cx}{aa:#v[4]}{σ:List (Option V)}{s:Ai}
def Cx.Ok.nofr(ok:X.Ok){o:Obj}(e:X.base.get? b=some o):b∉X.fs:=λhb=>by
 have:=(ok.funs.mem hb).1;rw[e]at this;cases this
def Inv.bs(I:#v[3]):∀b o,X.base.get? b=some o->s.heap.get? b=some o/\H b=none:=λb o e=>
 #[I.base.keep b o (I.ok.bs b o e).1 (I.ok.bs b o e).2 (I.ok.nofr e) (I.ok.noex b o e),I.base.free b o (I.ok.bs b o e).1 (I.ok.bs b o e).2 (I.ok.noex b o e)]
def Inv.bk(I:#v[3]):∀b o,X.base.get? b=some o->s.heap.get? b=some o:=λb o e=>(I.bs b o e).1
def Inv.mod(I:#v[3]):Mod X.K X.mg X.base:=I.ok.mod
def Inv.kIn(I:#v[3]):X.K.In s.heap:=I.ok.mod.kin.keeps I.bk
def Inv.lt(I:#v[3]):X.env.locals<#v[0]:=let⟨_,hn,_⟩:=I.loc;hn.lt
def Inv.sz(I:#v[3]):X.s₀.heap.objs.size<=#v[0]:=Bs I.ok.above (Hy I.lt)
def Inv.nofs(I:#v[3]){a:Addr}(h:#v[0]<=a):a∉X.fs:=λhb=>by
 obtain⟨_,o,ho,_⟩:=I.ok.funs.mem hb;exact Aa2 (Ba (As ho) (Bs I.sz h)) (Gr _)
def Inv.cne(I:#v[3]):∀x c,X.env.cells.lookup x=some c->c≠X.env.locals:=λx c e z=>by
 obtain⟨v,o,ho,hd⟩:=I.cell x c e;obtain⟨m,⟨o',es,ep,ho',hd',_⟩,_⟩:=I.loc;rw[z,ho']at ho;cases ho;rw[hd']at hd;cases hd
def Inv.funs(I:#v[3]):s.heap.FunFrames X.base X.outer:=by
 have all:∀(l:List Env),(∀b∈frs l,b∈X.fs)->X.s₀.heap.FunFrames X.base l->s.heap.FunFrames X.base l:=by
  intro l;induction l with
  |nil=>intro _ _;trivial
  |cons env r ih=>
   intro hs hl;obtain⟨hk,⟨L,o,hf,hn,ho,hd⟩,hr⟩:=hl;have hL:L∈X.fs:=hs L (by unfold frs;rw[Gn,hf];exact Ag);obtain⟨sl,e⟩:=I.base.slot L o ho (I.ok.frf L hL) hL λz=>I.ok.exfs L z hL;exact#[hk,#[L,_,hf,hn,e,hd],ih (λb hb=>hs b (by unfold frs;rw[Gn,hf];exact Ah _ hb)) hr]
 exact all X.outer (λ_ hb=>hb) I.ok.funs
def Inv.stack(I:#v[3]):s.heap.FunFrames X.base X.stack:=by
 rcases I.ok.stk with e|⟨e,hf⟩
 ·rw[e];exact I.funs
 ·rw[e];obtain⟨m,hn,_⟩:=I.loc;refine .cons (by rw[I.ok.kind];decide) hf hn ?_ I.funs;exact Mq (Bs I.ok.bsz I.ok.above)
def Inv.stkSub(I:#v[3]):∀b∈frs X.stack,b∈X.env.locals::X.fs:=λb hb=>by
 rcases I.ok.stk with e|⟨e,hf⟩
 ·rw[e]at hb;exact Ah _ hb
 ·rw[e]at hb;unfold frs at hb;rw[Gn,hf]at hb;exact hb
def Inv.stkFree(I:#v[3]):∀b∈frs X.stack,H b=none:=λb hb=>by
 rcases Ax.mp (I.stkSub b hb)with e|hb
 ·rw[e];exact I.free
 ·obtain⟨_,o,ho,_⟩:=I.ok.funs.mem hb;exact I.base.free b o ho (I.ok.frf b hb) λz=>I.ok.exfs b z hb
def Inv.step{g':Array Ld}{d':Drawn}(I:#v[3])
  (hch:∀b∈ch,(b∈X.ex∨X.s₀.heap.objs.size<=b)/\b≠X.env.locals/\(∀x c,X.env.cells.lookup x=some c->c≠b)/\∀p∈X.pn++aa,p.1≠b)
  (keep:∀b o,b≠X.env.locals->b∉X.fs->b∉ch->s.heap.get? b=some o->H b=none->h'.get? b=some o)
  (slot:∀b o,b≠X.env.locals->b∈X.fs->b∉ch->s.heap.get? b=some o->H b=none->∃sl,h'.get? b=some {o with slots:=sl}) (free:∀b o,b∉ch->s.heap.get? b=some o->H b=none->H' b=none)
  (there:∀b o,b∉ch->s.heap.get? b=some o->∃o',h'.get? b=some o')
  (tups:∀b xs,H b=some (.tup xs)->H' b=some (.tup xs)) (frzs:∀b o u,H b=some (.frz o u)->H' b=some (.frz o u)) (tbls:∀b ps,H b=some (.tbl ps)->∃more,H' b=some (.tbl (ps++more)))
  (ns:∀m,s.heap.Ns X.env.locals m->h'.Ns X.env.locals m) (hok:HOk X.prog X.w H' h') (hg:Og g'):
  Inv X aa σ H' {s with heap:=h',gens:=g',drawn:=d',toks:=t'}:=by
 have neL:∀b o,X.s₀.heap.get? b=some o->b≠X.env.locals:=λb o e=>Aw (Ba (As e) I.ok.above);have neC:∀b o,X.s₀.heap.get? b=some o->b∉X.ex->b∉ch:=λb o e hx hb=>by
  rcases (hch b hb).1 with z|z
  ·exact hx z
  ·exact Aa2 (Ba (As e) z) (Gr _)
 have cellK:∀x c,X.env.cells.lookup x=some c->∀v,s.heap.IsCell c v->h'.IsCell c v:=λx c e v ⟨o,ho,hd⟩=>by
  have nch:c∉ch:=λz=>(hch c z).2.2.1 x c e rfl;by_cases hc:c∈X.fs
  ·obtain⟨sl,q⟩:=slot c o (I.cne x c e) hc nch ho (I.freeC x c e);exact#[_,q,hd]
  ·exact#[o,keep c o (I.cne x c e) hc nch ho (I.freeC x c e),hd]
 refine#[I.ok,I.os,hg,#[λb o e n hb hx=>?_,λb o e n hb hx=>?_,λb o e n hx=>?_,λb o e hx=>?_,λb xs e=>tups b xs (I.base.tups b xs e),λb o xs e=>frzs b o xs (I.base.frzs b o xs e),λb ps e=>?_],?_,λx c e=>?_,?_,λx c e=>?_,λp hp=>?_,hok,I.len]
 ·exact keep b o (neL b o e) hb (neC b o e hx) (I.base.keep b o e n hb hx) (I.base.free b o e n hx)
 ·obtain⟨sl,e1⟩:=I.base.slot b o e n hb hx;obtain⟨sl',e2⟩:=slot b _ (neL b o e) hb (neC b o e hx) e1 (I.base.free b o e n hx);exact#[sl',e2]
 ·obtain⟨o',e1⟩:=I.base.there b o e hx;exact free b o' (neC b o e hx) e1 (I.base.free b o e n hx)
 ·obtain⟨o',e1⟩:=I.base.there b o e hx;exact there b o' (neC b o e hx) e1
 ·obtain⟨m1,e1⟩:=I.base.tbls b ps e;obtain⟨m2,e2⟩:=tbls b _ e1;exact#[m1++m2,by rw[e2,Array.append_assoc]]
 ·obtain⟨m,hn,hl⟩:=I.loc;refine#[m,ns m hn,λi x v e1 e2 e3=>?_];obtain⟨u,r,l⟩:=hl i x v e1 e2 e3;refine#[u,r,?_];rcases l with l|⟨k,c,e,z⟩
  ·exact .inl l
  ·exact .inr #[k,c,e,cellK x c e _ z]
 ·obtain⟨v,z⟩:=I.cell x c e;exact#[v,cellK x c e v z]
 ·obtain⟨m,⟨o,_,_,ho,_⟩,_⟩:=I.loc;exact free _ o (λz=>(hch _ z).2.1 rfl) ho I.free
 ·obtain⟨v,o,ho,hd⟩:=I.cell x c e;exact free c o (λz=>(hch c z).2.2.1 x c e rfl) ho (I.freeC x c e)
 ·obtain⟨e,n,ne,nf,d⟩:=I.pin p hp;have nch:p.1∉ch:=λz=>(hch p.1 z).2.2.2 p hp rfl;exact#[keep p.1 p.2 ne nf nch e n,free p.1 p.2 nch e n,ne,nf,d]
def Inv.un(I:#v[3])(u:Un X.fs [] H H' s.heap h')(hok:HOk X.prog X.w H' h'):Inv X aa σ H' {s with heap:=h',toks:=t'}:=by
 obtain⟨m,⟨o,es,ep,ho,r⟩,_⟩:=id I.loc;obtain⟨sl,hL⟩:=u.any ho I.free (by simp);exact I.step (g':=s.gens) (d':=s.drawn) (ch:=[]) (λ_ z=>nomatch z) (λb o _ hb _ e n=>u.keep b o e n hb (by simp)) (λb o _ hb _ e n=>u.slot b o e n hb (by simp)) (λb o _ e n=>u.free b o e n (by simp)) (λb o _ e=>u.there b o e (by simp)) u.tups u.frzs u.tbls (λm' hm=>by
  obtain⟨o',es',ep',ho',r'⟩:=hm;rw[ho]at ho';cases ho';exact#[_,es',ep',hL,r']) hok I.bare
def Inv.call{g':Array Ld}{d':Drawn}(I:#v[3])(u:Un (frs X.stack) ch H H' s.heap h')(hok:HOk X.prog X.w H' h')(hg:Og g')
  (hch:∀b∈ch,(b∈X.ex∨X.s₀.heap.objs.size<=b)/\b≠X.env.locals/\(∀x c,X.env.cells.lookup x=some c->c≠b)/\∀p∈X.pn++aa,p.1≠b):
  Inv X aa σ H' {s with heap:=h',gens:=g',drawn:=d',toks:=t'}:=by
 obtain⟨m,⟨o,es,ep,ho,r⟩,_⟩:=id I.loc;obtain⟨sl,hL⟩:=u.any ho I.free λz=>(hch _ z).2.1 rfl;exact I.step (ch:=ch) hch (λb o hL hb hc e n=>u.keep b o e n (λz=>(Ax.mp (I.stkSub b z)).elim hL hb) hc) (λb o _ _ hc e n=>u.any e n hc) (λb o hc e n=>u.free b o e n hc) (λb o hc e=>u.there b o e hc) u.tups u.frzs u.tbls (λm' hm=>by
  obtain⟨o',es',ep',ho',r'⟩:=hm;rw[ho]at ho';cases ho';exact#[_,es',ep',hL,r']) hok hg
def Inv.turned{it:Addr}(I:#v[3])(k:∀b o,b≠it->s.heap.get? b=some o->h'.get? b=some o)(hn:H it=none)(hL:it≠X.env.locals)
  (h1:it∈X.ex∨X.s₀.heap.objs.size<=it) (h2:∀x c,X.env.cells.lookup x=some c->c≠it) (h3:∀p∈X.pn++aa,p.1≠it):Inv X aa σ H {s with heap:=h',toks:=t'}:=by
 have nit:∀b u,H b=some u->b≠it:=λb u e z=>by rw[z,hn]at e;cases e
 refine I.step (g':=s.gens) (d':=s.drawn) (ch:=[it]) (λb hb=>?_) (λb o _ _ hc e _=>k b o (λz=>hc (by simp[z])) e) (λb o _ _ hc e _=>#[o.slots,k b o (λz=>hc (by simp[z])) e]) (λ_ _ _ _ n=>n)
  (λb o hc e=>#[o,k b o (λz=>hc (by simp[z])) e]) (λ_ _ e=>e) (λ_ _ _ e=>e) (λb ps e=>#[(List.toArray []),by rw[e];simp]) (λm hm=>?_) (λb u e=>?_) I.bare
 ·have e:b=it:=by simpa using hb
  subst e;exact#[h1,hL,h2,h3]
 ·obtain⟨o,es,ep,ho,r⟩:=hm;exact#[o,es,ep,k _ o (Cq hL) ho,r]
 ·refine(I.hok b u e).stay (λc v hc q=>k c v ?_ q) (λ_ q=>q) λ_ _ q=>q;rcases hc with z|z
  ·rw[z];exact nit b u e
  ·exact nit c _ z
def Inv.tok(I:#v[3])(t:Nat):Inv X aa σ H {s with toks:=t}:=I.un (h':=s.heap) (t':=t) Un.refl I.hok
def Inv.kept(I:#v[3])(k:∀b u,s.heap.get? b=some u->h'.get? b=some u):Inv X aa σ H {s with heap:=h',toks:=t'}:=I.un (Un.kept k) (I.hok.kept k)
def Inv.laid{a:Addr}{o:HO}(I:#v[3])(k:∀b u,s.heap.get? b=some u->h'.get? b=some u)(hp:#v[0]<=a)(new:bL X.prog X.w (upd H a o) h' a o):
  Inv X aa σ (upd H a o) {s with heap:=h',toks:=t'}:=I.un (Un.laid k hp (I.hok.fresh hp)) (I.hok.laid k hp new)
def Inv.write{x e:Addr}{o:HO}(I:#v[3])(mu:Mut (H x))(he:e=x∨H e=some (.own x))(k:∀b u,b≠e->s.heap.get? b=some u->h'.get? b=some u)(heo:∃u,h'.get? e=some u)
  (new:bL X.prog X.w (upd H x o) h' x o):Inv X aa σ (upd H x o) {s with heap:=h',toks:=t'}:=I.un (Un.write mu he k heo) (I.hok.write mu he k heo new)
def Inv.pins_of(I:#v[3])(h:∀p∈pins',s.heap.get? p.1=some p.2/\H p.1=none/\p.1≠X.env.locals/\p.1∉X.fs/\∀v,p.2.data≠.cell v):Inv X pins' σ H s:=
 #[I.ok,I.os,I.bare,I.base,I.loc,I.cell,I.free,I.freeC,λp hp=>(Cb.mp hp).elim (λz=>I.pin p (Bq _ z)) (h p),I.hok,I.len]
def aHk{N:List Str}(hN:N.Nodup){i j:Nat}{x:Str}(a:N[i]? =some x)(b:N[j]? =some x):i=j:=by
 obtain⟨h1,e1⟩:=Be.mp a;obtain⟨h2,e2⟩:=Be.mp b;exact(Hq hN).mp (e1.trans e2.symm)
abbrev ND(x:Str):Prop:=(x==("__debug__":Str))=false
abbrev BT(X:Cx)(pos:Pos)(es:List Bu):Prop:=(Im pos (Bz es X.env)).any (·.1)=false
abbrev FL(X:Cx)(x:Str):Prop:=X.fn x=true∨X.env.scope.names.lookup x=some .local
abbrev NC(x:Str):Prop:=(x==("__classdict__":Str))=false
abbrev SE(X:Cx)(e:Bu)(es:List Bu):Prop:=Bz (e::es) X.env=(false,eval e X.env)::Bz es X.env
abbrev FS(X:Cx)(e:Bu):Prop:=∀x,Pn e X.env x=pure x
abbrev HC(X:Cx):Prop:=∀x,X.env.scope.names.lookup x=some .cell->∃c,X.env.cells.lookup x=some c
abbrev EL(a b:Pos):Prop:=(a.endLine==b.line)=true
def zT{M:Model}{A:Bp}{E:#v[c]}{x:Str}{v:V}{Q:Unit->Ai->Prop}(I:#v[3])(hN:X.N.Nodup)(hi:X.N[i]? =some x)(hx:Loc X.env.scope x)(r:RelV v u)
  (h:∀s',Inv X aa (σ.set i (some v)) H s'->(∃a,Em a s.heap s'.heap/\(a=X.env.locals∨X.env.cells.lookup x=some a))->Q () s') (hf:FL X x:=by trivial):Bc M A (storeName X.env x u) Q E s:=by
 obtain⟨m,hn,hl⟩:=id I.loc;have hcls:(X.env.scope.kind== .class || (X.env.scope.kind== .module && X.env.locals != X.env.globals))=false:=by rw[I.ok.kind];rfl
 have hiσ:i<σ.length:=by rw[I.len];exact(Be.mp hi).1
 have cne:=I.cne;have tracked:∀{a:Addr}{h':Heap},(∃o,s.heap.get? a=some o/\H a=none)->Em a s.heap h'->HOk X.prog X.w H h':=λ{a h'} ha hs b ob e=>by
  obtain⟨_,_,hfree⟩:=ha;refine(I.hok b ob e).stay (λc w' hc q=>(hs.2 c ?_).trans q) (λ_ q=>q) λ_ _ q=>q;rintro rfl;rcases hc with rfl|hc
  ·rw[hfree]at e;cases e
  ·rw[hfree]at hc;cases hc
 rcases hx with hk|hk
 ·refine wpAny_storeName_local hk hn (λh' hn' hs=>?_) hcls;obtain⟨oL,_,_,hoL,_⟩:=id hn;refine h _ #[I.ok,I.os,I.bare,#[λb o e n hb hx=>?_,λb o e n hb hx=>?_,I.base.free,λb o e hx=>?_,I.base.tups,I.base.frzs,I.base.tbls],#[_,hn',λj y v' e1 e2 e3=>?_],λy c e=>?_,I.free,I.freeC,λp hp=>?_,tracked #[oL,hoL,I.free] hs,by simpa using I.len] #[_,hs,.inl rfl]
  ·exact(hs.2 b (Aw (Ba (As e) I.ok.above))).trans (I.base.keep b o e n hb hx)
  ·obtain⟨sl,e1⟩:=I.base.slot b o e n hb hx;exact#[sl,(hs.2 b (Aw (Ba (As e) I.ok.above))).trans e1]
  ·obtain⟨o',e1⟩:=I.base.there b o e hx;exact#[o',(hs.2 b (Aw (Ba (As e) I.ok.above))).trans e1]
  ·by_cases hj:j=i
   ·subst hj;rw[hi]at e1;cases e1;rw[Dd hiσ]at e2;cases e2;exact#[u,r,.inl #[hk,by simp]]
   ·rw[Ei (Cq hj)]at e2;obtain⟨u',r',q⟩:=hl j y v' e1 e2 e3;refine#[u',r',?_];rcases q with ⟨k,e⟩|⟨k,c,e,z⟩
    ·refine .inl #[k,?_];have:y≠x:=λe=>hj (aHk hN e1 (e▸hi));simp[this,e]
    ·exact .inr #[k,c,e,z.sameBut hs (cne y c e)]
  ·obtain⟨w',z⟩:=I.cell y c e;exact#[w',z.sameBut hs (cne y c e)]
  ·obtain⟨e,n,ne,nf,d⟩:=I.pin p hp;exact#[(hs.2 p.1 ne).trans e,n,ne,nf,d]
 ·have hfn:X.fn x=true:=by
   rcases hf with z|z
   ·exact z
   ·rw[z]at hk;cases hk
  obtain⟨c,hc⟩:=I.ok.has x (.inl hk);obtain⟨w',z⟩:=I.cell x c hc;refine wpAny_storeName_cell I.ok.kind hk hc z (λh' hc' hs=>?_);obtain⟨oc,hoc,hocd⟩:=id z;refine h {s with heap:=h'} #[I.ok,I.os,I.bare,#[λb o e n hb hx=>?_,λb o e n hb hx=>?_,I.base.free,λb o e hx=>?_,I.base.tups,I.base.frzs,I.base.tbls],#[m,hn.sameBut hs (Cq (cne x c hc)),λj y v' e1 e2 e3=>?_],λy c' e=>?_,I.free,I.freeC,λp hp=>?_,tracked #[oc,hoc,I.freeC x c hc] hs,by simpa using I.len] #[c,hs,.inr hc]
  ·exact(hs.2 b (Aw (Ba (As e) (I.ok.cab x c hfn hc)))).trans (I.base.keep b o e n hb hx)
  ·obtain⟨sl,e1⟩:=I.base.slot b o e n hb hx;exact#[sl,(hs.2 b (Aw (Ba (As e) (I.ok.cab x c hfn hc)))).trans e1]
  ·obtain⟨o',e1⟩:=I.base.there b o e hx;exact#[o',(hs.2 b (Aw (Ba (As e) (I.ok.cab x c hfn hc)))).trans e1]
  ·by_cases hj:j=i
   ·subst hj;rw[hi]at e1;cases e1;rw[Dd hiσ]at e2;cases e2;exact#[u,r,.inr #[.inl hk,c,hc,hc']]
   ·rw[Ei (Cq hj)]at e2;obtain⟨u',r',q⟩:=hl j y v' e1 e2 e3;refine#[u',r',?_];rcases q with q|⟨k,c',e,z'⟩
    ·exact .inl q
    ·refine .inr #[k,c',e,z'.sameBut hs ?_];rintro rfl;exact hj (aHk hN e1 (I.ok.inj _ _ _ e hc▸hi))
  ·by_cases hcc:c'=c
   ·subst hcc;exact#[_,hc']
   ·obtain⟨w2,z2⟩:=I.cell y c' e;exact#[w2,z2.sameBut hs hcc]
  ·obtain⟨e,n,ne,nf,d⟩:=I.pin p hp;refine#[(hs.2 p.1 ?_).trans e,n,ne,nf,d];intro q;rw[q,hoc]at e;have q':oc=p.2:=Bj e;exact d w' (by rw[<-q'];exact hocd)
def aH5{x:Str}(I:#v[3])(hN:X.N.Nodup)(hi:X.N[i]? =some x)(hx:Loc X.env.scope x)(r:RelV v u)
  (h:∀s',Inv X aa (σ.set i (some v)) H s'->Q () s') (hf:FL X x:=by trivial):Bc M A (storeName X.env x u) Q E s:=
 zT I hN hi hx r (λs' I' _=>h s' I') hf
def Inv.call'(I:#v[3])(ho:s'.os=s.os)(u:Un (frs X.stack) ch H H' s.heap s'.heap)(hok:HOk X.prog X.w H' s'.heap)(hg:Og s'.gens)
  (hch:∀b∈ch,(b∈X.ex∨X.s₀.heap.objs.size<=b)/\b≠X.env.locals/\(∀x c,X.env.cells.lookup x=some c->c≠b)/\∀p∈X.pn++aa,p.1≠b):Inv X aa σ H' s':=by
 obtain⟨h',g',d',t',o'⟩:=s';have e:o'=s.os:=ho;subst e;exact I.call (g':=g') (t':=t') (d':=d') u hok hg hch
abbrev XK:=Value->Option Addr->Hp->Prop
abbrev St:=List (Option V)
abbrev VK:=V->Hp->Prop
abbrev TE:=St->Hp->VK->Prop
abbrev TT:=St->Hp->(Bool->Hp->Prop)->Prop
abbrev TA:=St->Hp->(List V->Hp->Prop)->Prop
structure Ends where
 nx:St->Hp->Prop
 rt:VK
 bk:St->Hp->Prop:=λ_ _=>False
 ct:St->Hp->Prop:=λ_ _=>False
abbrev TS:=Ends->St->Hp->Prop
inductive IEP(X:Cx)(aa:#v[4])(σ:St)(Q:VK)(u:Value)(s':Ai):Prop
 |mk (v H':_) (q0_:Inv X aa σ H' s') (q1_:RelV v u) (q2_:Q v H'):IEP X aa σ Q u s'
def EP(X:Cx)(aa:#v[4])(σ:St)(Q:VK)(u:Value)(s':Ai):Prop:=IEP X aa σ Q u s'
def TP(X:Cx)(aa:#v[4])(σ:St)(Q:Bool->Hp->Prop)(b:Bool)(s':Ai):Prop:=∃H',Inv X aa σ H' s'/\Q b H'
inductive IAP(X:Cx)(aa:#v[4])(σ:St)(Q:List V->Hp->Prop)(us:List Value)(s':Ai):Prop
 |mk (vs H':_) (q0_:Inv X aa σ H' s') (q1_:Vals vs us) (q2_:Q vs H'):IAP X aa σ Q us s'
def AP(X:Cx)(aa:#v[4])(σ:St)(Q:List V->Hp->Prop)(us:List Value)(s':Ai):Prop:=IAP X aa σ Q us s'
def SP(X:Cx)(aa:#v[4])(D:Ends)(f:Flow)(s':Ai):Prop:=
 match f with
 |.next=>∃σ' H',Inv X aa σ' H' s'/\D.nx σ' H'
 |.brk=>∃σ' H',Inv X aa σ' H' s'/\D.bk σ' H'
 |.cont=>∃σ' H',Inv X aa σ' H' s'/\D.ct σ' H'
 |.ret u=>∃v σ' H',Inv X aa σ' H' s'/\RelV v u/\D.rt v H'
def PE(X:Cx)(e:Bu)(t:TE):Prop:=
 ∀(aa:#v[4])(s:Ai)(σ:St)(H:Hp)(Q:VK),#v[3]->t σ H Q->Bc #v[a] X.A (eval e X.env) (EP X aa σ Q) X.xe s
def PT(X:Cx)(e:Bu)(t:TT):Prop:=
 ∀(aa:#v[4])(s:Ai)(σ:St)(H:Hp)(Q:Bool->Hp->Prop),#v[3]->t σ H Q->Bc #v[a] X.A (Wv e X.env (eval e X.env)) (TP X aa σ Q) X.xe s
def PW(X:Cx)(e:Bu)(t:TT):Prop:=
 ∀(whole:Sem Value)(aa:#v[4])(s:Ai)(σ:St)(H:Hp)(Q:Bool->Hp->Prop),#v[3]->t σ H Q->Bc #v[a] X.A (Wv e X.env whole) (TP X aa σ Q) X.xe s
def PW.pt{X:Cx}{e:Bu}(h:PW X e t):PT X e t:=h _
def PA(X:Cx)(es:List Bu)(t:TA):Prop:=
 ∀(pos:Pos)(aa:#v[4])(s:Ai)(σ:St)(H:Hp)(Q:List V->Hp->Prop),#v[3]->t σ H Q->Bc #v[a] X.A (spliced (Im pos (Bz es X.env))) (AP X aa σ Q) X.xe s
def PS(X:Cx)(st:Stmt)(t:TS):Prop:=
 ∀(aa:#v[4])(s:Ai)(σ:St)(H:Hp)(D:Ends),#v[3]->t D σ H->Bc #v[a] X.A (exec st X.env) (SP X aa D) X.xe s
def PSs(X:Cx)(st:List Stmt)(t:TS):Prop:=
 ∀(aa:#v[4])(s:Ai)(σ:St)(H:Hp)(D:Ends),#v[3]->t D σ H->Bc #v[a] X.A (execs st X.env) (SP X aa D) X.xe s
def thn{α:Type}{t:Sem α}{Q Q':α->Ai->Prop}{M:Model}{A:Bp}{E:#v[c]}{s:Ai}(h:Bc M A t Q E s)(hQ:∀a s,Q a s->Q' a s):Bc M A t Q' E s:=Ep h hQ λ_ _ x=>x
section
variable {X:Cx}
inductive aVq(i:Nat)(σ:St)(H:Hp)(Q:VK):Prop
 |mk (v:_) (q0_:σ[i]? =some (some v)) (q1_:Q v H):aVq i σ H Q
def bBo(i:Nat):TE:=λσ H Q=>aVq i σ H Q
def tC(v:V):TE:=λ_ H Q=>Q v H
def fZ{x:Str}(hN:X.N[i]? =some x)(hv:Vis X.env.scope x)(hd:ND x:=by decide)(hcd:NC x:=by decide):PE X (.Name x pos) (bBo i):=by
 intro aa s σ H Q I h;obtain⟨v,e,h⟩:=h;obtain⟨m,hn,hl⟩:=I.loc;obtain⟨u,r,l⟩:=hl i x v hN e hv;have fin:EP X aa σ Q u s:=#[v,H,I,r,h];rcases l with ⟨hk,hm⟩|⟨hk,c,hc,hcell⟩
 ·exact Xs (wpAny_loadName_local I.ok.kind hk hn hm fin) hd
 ·rcases hk with hk|hk
  ·exact Xs (wpAny_loadName_cell I.ok.kind hk hc hcell fin) hd
  ·exact Xs (wpAny_loadName_free I.ok.kind hk hc hcell fin hcd) hd
def dG{i j pos}:PE X (.Constant (.int i) j pos) (tC (.int i)):=λ_ _ _ H _ I h=>wpAny_Constant_int #[.int i,H,I.tok _,#[_,rfl],h]
def bAt{b j pos}:PE X (.Constant (.bool b) j pos) (tC (.bl b)):=λ_ _ _ H _ I h=>Constant_bool #[.bl b,H,I,rfl,h]
def aXr{j pos}:PE X (.Constant .none j pos) (tC .non):=λ_ _ _ H _ I h=>Ug #[.non,H,I,rfl,h]
def tY{x j pos}:PE X (.Constant (.str x) j pos) (tC (.str x)):=λ_ _ _ H _ I h=>Calls.Constant_str #[.str x,H,I.tok _,#[_,rfl],h]
def Gl(X:Cx)(x:Str):Prop:=X.env.kindOf x=some .globalImplicit
def aFu{aa:#v[4]}{s:Ai}{σ:St}{H:Hp}{x:Str}(I:#v[3])(hg:Gl X x)(hm:X.mg x=some u)(h:Q u s)
  (hd:ND x:=by decide):Bc #v[a] X.A (eval (.Name x pos) X.env) Q E s:=
 Ph I.ok.kind hg (Calls.loadGlobal_global (by rw[I.ok.glob];exact I.mod.glob.keeps I.bk) hm h) hd
def tR{aa:#v[4]}{s:Ai}{σ:St}{H:Hp}{x:Str}(I:#v[3])(hg:Gl X x)(hm:X.mg x=none)(hv:Fx x=some u)(h:Q u s)
  (hn:x≠"__name__":=by decide) (hd:ND x:=by decide):Bc #v[a] X.A (eval (.Name x pos) X.env) Q E s:=by
 obtain⟨mb,h1,h2⟩:=I.mod.blt;exact Ph I.ok.kind hg (Calls.loadGlobal_builtin (by rw[I.ok.glob];exact I.mod.glob.keeps I.bk) hm (by rw[I.ok.blt];exact h1.keeps I.bk) ((h2 x hn).trans hv) h) hd
def aT0{x:Str}(hg:Gl X x)(hm:X.mg x=some u)(r:RelV v u)(hd:ND x:=by decide):PE X (.Name x pos) (tC v):=
 λ_ _ _ H _ I h=>aFu I hg hm #[v,H,I,r,h] hd
def aTv{x:Str}(hg:Gl X x)(hm:X.mg x=none)(hv:Fx x=some u)(r:RelV v u)(hn:x≠"__name__":=by decide)(hd:ND x:=by decide):PE X (.Name x pos) (tC v):=
 λ_ _ _ H _ I h=>tR I hg hm hv #[v,H,I,r,h] hn hd
variable {a b:Bu}{ta tb:TE}{pos:Pos}
def PC(X:Cx)(op:Rw)(a b:Bu)(t:TE):Prop:=
 ∀(aa:#v[4])(s:Ai)(σ:St)(H:Hp)(Q:VK),#v[3]->t σ H Q->
  Bc #v[a] X.A (eval a X.env) (λv s₁=>Bc #v[a] X.A (eval b X.env) (λu s₂=>Bc #v[a] X.A (Ee op v u) (EP X aa σ Q) X.xe s₂) X.xe s₁) X.xe s
def aP2(b:Bu)(h:op≠.In)(h2:op≠.NotIn):Gh op b=false:=by
 have e1:(op==CmpOp.In)=false:=by cases op<;>first|rfl|exact Aa2 rfl h
 have e2:(op==Yh)=false:=by cases op<;>first|rfl|exact Aa2 rfl h2
 cases b<;>simp[Gh,e1,e2]
def bBi(ta:TE):TE:=λσ H Q=>ta σ H λx H1=>Q (.bl (decide (x=.non))) H1
def aWf(ta:TE):TE:=λσ H Q=>ta σ H λx H1=>Q (.bl (!decide (x=.non))) H1
def RelV.none_iff{x:V}(r:RelV x v):(v==Cg)=decide (x=.non):=by
 cases x with
 |non=>cases r;rfl
 |bl _=>cases r;rfl
 |int _=>obtain⟨t,rfl⟩:=r;rfl
 |str _=>obtain⟨t,rfl⟩:=r;rfl
 |byt _=>obtain⟨t,rfl⟩:=r;rfl
 |flt _=>obtain⟨t,rfl⟩:=r;rfl
 |ref _=>cases r;rfl
 |ty _=>cases r;rfl
def aXk{j pos'}(ha:PE X a ta):PC X .Is a (.Constant .none j pos') (bBi ta):=by
 intro aa s σ H Q I h;refine thn (ha aa s σ H _ I h) λv s1 ⟨x,H1,I1,r1,q1⟩=>?_;exact Ug (is_none_gen #[.bl _,H1,I1,by rw[r1.none_iff];rfl,q1])
def aTt{j pos'}(ha:PE X a ta):PC X .IsNot a (.Constant .none j pos') (aWf ta):=by
 intro aa s σ H Q I h;refine thn (ha aa s σ H _ I h) λv s1 ⟨x,H1,I1,r1,q1⟩=>?_;exact Ug (isnot_none_gen #[.bl _,H1,I1,by rw[r1.none_iff];rfl,q1])
inductive aZk(x:V)(H:Hp)(Q:Bool->Hp->Prop):Prop
 |mk (c:_) (q0_:x=.bl c) (q1_:Q c H):aZk x H Q
def rBl(x:V)(H:Hp)(Q:Bool->Hp->Prop):Prop:=aZk x H Q
def tB(t:TE):TT:=λσ H Q=>t σ H λx H1=>rBl x H1 Q
def aRc{op:Rw}{t:TE}(h:PC X op a b t)(h1:Gh op b=false:=by first|exact aP2 _ ⋯ ⋯|rfl):PT X (.Compare a [op] [b] pos) (tB t):=by
 intro aa s σ H Q I hw;refine Us (thn (h aa s σ H _ I hw) λv s1 h1=>thn h1 λu s2 h2=>thn h2 λc s3 ⟨x,H1,I1,r1,q1⟩=>?_) h1;obtain⟨d,rfl,q⟩:=q1;cases r1;exact Dn #[H1,I1,q]
def aXz{e:Bu}{t:TE}(h:PE X e t)(he:∀whole,Wv e X.env whole=(do let v<-whole;Mg e.pos;holding [v] (truthy v)):=by intro _;rfl):PT X e (tB t):=by
 intro aa s σ H Q I hw;refine isTrue_plain (thn (h aa s σ H _ I hw) λv s1 ⟨x,H1,I1,r1,q1⟩=>?_) (he _);obtain⟨d,rfl,q⟩:=q1;cases r1;exact Dn #[H1,I1,q]
variable {tA tB':TT}{rest:List Bu}
def tOr(t u:TT):TT:=λσ H Q=>t σ H λc H1=>if c=true then Q true H1 else u σ H1 Q
def bDd(t:TT):TT:=λσ H Q=>t σ H λc H1=>Q (!c) H1
def aX1(ha:PT X a tA):PW X (.BoolOp .Or [a] pos) tA:=by
 intro wh aa s σ H Q I h;refine isTrue_or (thn (ha aa s σ H Q I h) λc s1 e=>?_);cases c with
 |false=>exact isTrue_or_nil e
 |true=>exact e
def bA2(ha:PT X a tA)(hb:PW X (.BoolOp .Or (b::rest) pos) tB'):PW X (.BoolOp .Or (a::b::rest) pos) (tOr tA tB'):=by
 intro wh aa s σ H Q I h;refine isTrue_or (thn (ha aa s σ H _ I h) λc s1 ⟨H1,I1,q1⟩=>?_);cases c with
 |true=>exact#[H1,I1,q1]
 |false=>exact hb wh aa s1 σ H1 Q I1 q1
def aXy(ha:PT X a tA):PT X (.UnaryOp .Not a pos) (bDd tA):=by
 intro aa s σ H Q I h;exact isTrue_not (ha aa s σ H (λc H1=>Q (!c) H1) I h)
def bBc(ta tb:TE):TE:=λσ H Q=>ta σ H λx H1=>∃c,x=.bl c/\if c=true then tb σ H1 Q else Q (.bl false) H1
def bBm(ta:TE):TE:=λσ H Q=>ta σ H λx H1=>∃c,x=.bl c/\Q (.bl (!c)) H1
def aXt{op}(h:PE X a t):PE X (.BoolOp op [a] pos) t:=λaa s σ H Q I hw=>BoolOp_one (h aa s σ H Q I hw)
def aXm(ha:PE X a ta)(hb:PE X (.BoolOp .And (b::rest) pos) tb):PE X (.BoolOp .And (a::b::rest) pos) (bBc ta tb):=by
 intro aa s σ H Q I h;refine BoolOp_and (thn (ha aa s σ H _ I h) λv s1 ⟨x,H1,I1,r1,q1⟩=>?_);obtain⟨c,rfl,q1⟩:=q1;cases r1;refine Dn ?_;cases c with
 |true=>exact hb aa s1 σ H1 Q I1 q1
 |false=>exact#[.bl false,H1,I1,rfl,q1]
def aXs(ha:PE X a ta):PE X (.UnaryOp .Not a pos) (bBm ta):=by
 intro aa s σ H Q I h;refine UnaryOp_ (thn (ha aa s σ H _ I h) λv s1 ⟨x,H1,I1,r1,q1⟩=>?_);obtain⟨c,rfl,q1⟩:=q1;cases r1;exact not_of (Dn #[.bl (!c),H1,I1,rfl,q1])
def tIf(t:TT)(ta tb:TE):TE:=λσ H Q=>t σ H λc H1=>if c=true then ta σ H1 Q else tb σ H1 Q
def aQ4{c:Bu}(hc:PT X c tA)(ha:PE X a ta)(hb:PE X b tb):PE X (.IfExp c a b pos) (tIf tA ta tb):=by
 intro aa s σ H Q I h;refine wpAny_IfExp (thn (hc aa s σ H _ I h) λd s1 ⟨H1,I1,q1⟩=>?_);cases d with
 |true=>exact ha aa s1 σ H1 Q I1 q1
 |false=>exact hb aa s1 σ H1 Q I1 q1
end
def SqL(K:Ac)(H:Hp)(a:Addr)(xs:List V):Prop:=
 Rd H a (.lst xs)∨
  ∃(o:Obj)(ae:Array Value)(n:Nat),K.lookup a=some o/\o.cls=.type "list"/\o.dict=none/\o.data=.seq ae n/\ae.size<=sizeLine/\Vals xs ae.toList
def SqT(K:Ac)(H:Hp)(a:Addr)(xs:List V):Prop:=
 Rd H a (.tup xs)∨
  ∃(o:Obj)(ae:Array Value)(n:Nat),K.lookup a=some o/\o.cls=.type "tuple"/\o.data=.seq ae n/\ae.size<=sizeLine/\Vals xs ae.toList
def bCq:Value->Option V
 |.none=>some .non
 |.bool b=>some (.bl b)
 |.int i _=>some (.int i)
 |.str x _=>some (.str x)
 |.bytes b _=>some (.byt b)
 |.float b _=>some (.flt b)
 |.ref a=>some (.ref a)
 |.type n=>some (.ty n)
 |_=>none
def RelV.abs{x:V}(r:RelV x u):bCq u=some x:=by
 cases x with
 |non=>cases r;rfl
 |bl _=>cases r;rfl
 |int _=>obtain⟨t,rfl⟩:=r;rfl
 |str _=>obtain⟨t,rfl⟩:=r;rfl
 |byt _=>obtain⟨t,rfl⟩:=r;rfl
 |flt _=>obtain⟨t,rfl⟩:=r;rfl
 |ref _=>cases r;rfl
 |ty _=>cases r;rfl
def RelV.inj{x y:V}(r:RelV x u)(q:RelV y u):x=y:=Bj (r.abs.symm.trans q.abs)
def Vals.inj:∀{xs ys:List V}{us:List Value},Vals xs us->Vals ys us->xs=ys
 |_,_,_,.nil,.nil=>rfl
 |_,_,_,.cons r t,.cons r' t'=>by rw[r.inj r',Vals.inj t t']
section
variable {X:Cx}{aa:#v[4]}{σ:St}{H:Hp}{s:Ai}{a:Addr}{xs ys:List V}
def SqL.of{K:Ac}(h:H a=some (.lst xs)):SqL K H a xs:=.inl (.inl h)
def SqT.of{K:Ac}(h:H a=some (.tup xs)):SqT K H a xs:=.inl (.inl h)
def Inv.list(I:#v[3])(h:SqL X.K H a xs):∃ae:List Value,Vals xs ae/\PlainL s.heap a ae.toArray/\xs.length<=sizeLine:=by
 rcases h with h|⟨o,ae,n,hk,hc,hd,hs,hz,r⟩
 ·obtain⟨z,ae,n,r,e⟩:=h.ok I.hok;exact#[ae,r,#[_,n,e,rfl,rfl,rfl],z]
 ·refine#[ae.toList,r,#[o,n,I.kIn a o hk,hc,hd,by simpa using hs],?_];have e:=r.length;simp only[Bg]at e
  lia
def Inv.tuple(I:#v[3])(h:SqT X.K H a xs):∃ae:List Value,Vals xs ae/\IsTup s.heap a ae.toArray/\xs.length<=sizeLine:=by
 rcases h with h|⟨o,ae,n,hk,hc,hs,hz,r⟩
 ·obtain⟨z,ae,r,p⟩:=h.ok I.hok;exact#[ae,r,p,z]
 ·refine#[ae.toList,r,#[o,I.kIn a o hk,hc,n,by simpa using hs],?_];have e:=r.length;simp only[Bg]at e
  lia
def Inv.list_inj(I:#v[3])(h:SqL X.K H a xs)(h':SqL X.K H a ys):xs=ys:=by
 obtain⟨ae,r,⟨o,n,e,_,_,d⟩,_⟩:=I.list h;obtain⟨its',r',⟨o',n',e',_,_,d'⟩,_⟩:=I.list h';rw[e]at e';cases e';rw[d]at d';injection d' with d1 _
 have:ae=its':=by simpa using Aa9 Xp d1
 subst this;exact r.inj r'
def Inv.tuple_inj(I:#v[3])(h:SqT X.K H a xs)(h':SqT X.K H a ys):xs=ys:=by
 obtain⟨ae,r,⟨o,e,_,n,d⟩,_⟩:=I.tuple h;obtain⟨its',r',⟨o',e',_,n',d'⟩,_⟩:=I.tuple h';rw[e]at e';cases e';rw[d]at d';injection d' with d1 _
 have:ae=its':=by simpa using Aa9 Xp d1
 subst this;exact r.inj r'
end
abbrev Cx.wish(X:Cx)(E:#v[c]):Cx:={X with xe:=E}
abbrev Cx.nox(X:Cx):Cx:=X.wish λ_ _=>False
def Cx.Ok.wish{X:Cx}(ok:X.Ok)(E:#v[c]):(X.wish E).Ok:=
 #[ok.mod,ok.kind,ok.glob,ok.blt,ok.above,ok.inj,ok.has,ok.cab,ok.hd,ok.frames,ok.stk,ok.exf,ok.bs,ok.bsz,ok.noex,ok.exfs,ok.funs,ok.frf]
def Cx.Ok.unwish{X:Cx}{E:#v[c]}(ok:(X.wish E).Ok):X.Ok:=
 #[ok.mod,ok.kind,ok.glob,ok.blt,ok.above,ok.inj,ok.has,ok.cab,ok.hd,ok.frames,ok.stk,ok.exf,ok.bs,ok.bsz,ok.noex,ok.exfs,ok.funs,ok.frf]
section
variable {X:Cx}{aa:#v[4]}{σ:St}{H:Hp}{s:Ai}{E:#v[c]}
def Inv.wish(I:#v[3])(E:#v[c]):Inv (X.wish E) aa σ H s:=#[I.ok.wish E,I.os,I.bare,I.base,I.loc,I.cell,I.free,I.freeC,I.pin,I.hok,I.len]
def Inv.unwish(I:Inv (X.wish E) aa σ H s):#v[3]:=#[I.ok.unwish,I.os,I.bare,I.base,I.loc,I.cell,I.free,I.freeC,I.pin,I.hok,I.len]
def SP.unwish(h:SP (X.wish E) aa D f s'):SP X aa D f s':=by
 cases f with
 |next=>obtain⟨σ',H',I,q⟩:=h;exact#[σ',H',I.unwish,q]
 |brk=>obtain⟨σ',H',I,q⟩:=h;exact#[σ',H',I.unwish,q]
 |cont=>obtain⟨σ',H',I,q⟩:=h;exact#[σ',H',I.unwish,q]
 |ret u=>obtain⟨v,σ',H',I,r,q⟩:=h;exact#[v,σ',H',I.unwish,r,q]
def PSs.nox{st:List Stmt}{t:TS}(h:PSs X.nox st t):PSs X st t:=λaa s σ H D I hw=>
 Ep (h aa s σ H D (I.wish _) hw) (λ_ _ q=>q.unwish) λ_ _ z=>Eg z
end
section
variable {X:Cx}{st:Stmt}{rest:List Stmt}{t u:TS}{e:Bu}{te:TE}{pos:Pos}
def bBl:TS:=λD σ H=>D.nx σ H
def bDf(t u:TS):TS:=λD σ H=>t {D with nx:=u D} σ H
def mU:PSs X [] bBl:=λ_ _ σ H _ I h=>Rh #[σ,H,I,h]
def bC(h1:PS X st t)(h2:PSs X rest u):PSs X (st::rest) (bDf t u):=by
 intro aa s σ H D I h;refine Ym (thn (h1 aa s σ H {D with nx:=u D} I h) λf s1 q=>?_);cases f with
 |next=>
  obtain⟨σ',H',I',q⟩:=q;exact h2 aa s1 σ' H' D I' q
 |ret v=>exact q
 |brk=>exact q
 |cont=>exact q
def dI(h1:PS X st t):PSs X [st] t:=by
 intro aa s σ H D I h;refine Ym (thn (h1 aa s σ H D I h) λf s1 q=>?_);cases f with
 |next=>exact Rh q
 |ret v=>exact q
 |brk=>exact q
 |cont=>exact q
def Inv.quiet{aa:#v[4]}{σ:St}{H:Hp}{s:Ai}(I:#v[3]):interactive X.env=false:=by simp[interactive,I.ok.kind]
def bBg(te:TE):TS:=λD σ H=>te σ H λ_ H1=>D.nx σ H1
def rD(he:PE X e te)(hs:Ed e none pos.line X.env=pure false:=by rfl):PS X (.Expr e pos) (bBg te):=by
 intro aa s σ H D I h;exact wpAny_Expr_any (thn (he aa s σ H _ I h) λv s1 ⟨x,H1,I1,r1,q1⟩=>#[σ,H1,I1,q1]) I.quiet hs
def bDe(te:TE):TS:=λD σ H=>te σ H D.rt
def vW(he:PE X e te):PS X (.Return (some e) pos) (bDe te):=by
 intro aa s σ H D I h;exact wpAny_Return_some (thn (he aa s σ H _ I h) λv s1 ⟨x,H1,I1,r1,q1⟩=>#[x,σ,H1,I1,r1,q1])
def bDb(c:TT)(t u:TS):TS:=λD σ H=>c σ H λb H1=>if b=true then t D σ H1 else u D σ H1
def xO{c:Bu}{a b:List Stmt}{tc:TT}(hc:PT X c tc)(ha:PSs X a t)(hb:PSs X b u):PS X (.If c a b pos) (bDb tc t u):=by
 intro aa s σ H D I h;refine wpAny_If (thn (hc aa s σ H _ I h) λd s1 ⟨H1,I1,q1⟩=>?_);cases d with
 |true=>exact ha aa s1 σ H1 D I1 q1
 |false=>exact hb aa s1 σ H1 D I1 q1
def aYh:TS:=λ_ _ _=>False
def qM:PS X st aYh:=λ_ _ _ _ _ _ h=>h.elim
end
abbrev TG:=V->St->Hp->(St->Hp->Prop)->Prop
abbrev TGs:=List V->St->Hp->(St->Hp->Prop)->Prop
def PG(X:Cx)(target:Bu)(t:TG):Prop:=
 ∀(aa:#v[4])(s:Ai)(σ:St)(H:Hp)(v:V)(u:Value)(Q:St->Hp->Prop),#v[3]->RelV v u->t v σ H Q->
  Bc #v[a] X.A (assign target X.env u) (λ_ s'=>∃σ' H',Inv X aa σ' H' s'/\Q σ' H') X.xe s
def PGs(X:Cx)(ts:List Bu)(t:TGs):Prop:=
 ∀(aa:#v[4])(s:Ai)(σ:St)(H:Hp)(vs:List V)(us:List Value)(Q:St->Hp->Prop),#v[3]->Vals vs us->t vs σ H Q->
  Bc #v[a] X.A (assignInOrder ((Ho ts X.env).map (·.2)) us) (λ_ s'=>∃σ' H',Inv X aa σ' H' s'/\Q σ' H') X.xe s
abbrev aWr:=V->V->V->Hp->(Hp->Prop)->Prop
def aZq(X:Cx)(t:aWr):Prop:=
 ∀(aa:#v[4])(s:Ai)(σ:St)(H:Hp)(o i v:V)(ov iv u:Value)(Q:Hp->Prop),#v[3]->RelV o ov->RelV i iv->RelV v u->t o i v H Q->
  Bc #v[a] X.A (Zk ov iv u) (λ_ s'=>∃H',Inv X aa σ H' s'/\Q H') X.xe s
variable {pos:Pos}
def tO(i:Nat):TG:=λv σ H Q=>Q (σ.set i (some v)) H
def bU{x:Str}(hN:X.N.Nodup)(hi:X.N[i]? =some x)(hx:Loc X.env.scope x)(hf:FL X x:=by trivial):PG X (.Name x pos) (tO i):=by
 intro aa s σ H v u Q I r h;exact Pk (aH5 I hN hi hx r (λs' I'=>#[_,H,I',h]) hf)
def aZ7:TGs:=λvs σ H Q=>vs=[]/\Q σ H
def aV2(t:TG)(u:TGs):TGs:=λvs σ H Q=>∃v r,vs=v::r/\t v σ H λσ' H'=>u r σ' H' Q
def aFx:PGs X [] aZ7:=by
 intro aa s σ H vs us Q I r h;obtain⟨e,h⟩:=h;subst e;cases r;exact assignInOrder_nil #[σ,H,I,h]
def tZ{e:Bu}{es:List Bu}{t:TG}{u:TGs}(h1:PG X e t)(h2:PGs X es u)
  (hs:(Ho (e::es) X.env).map (·.2)=assign e X.env::(Ho es X.env).map (·.2):=by rfl):PGs X (e::es) (aV2 t u):=by
 intro aa s σ H vs us Q I r h;obtain⟨v,vr,e1,h⟩:=h;subst e1;cases r with
 |cons r rr=>
  rw[hs];refine assignInOrder_cons (thn (h1 aa s σ H _ _ _ I r h) λ_ s1 ⟨σ1,H1,I1,q1⟩=>?_);exact h2 aa s1 σ1 H1 _ _ Q I1 rr q1
inductive aVe(K:Ac)(n:Nat)(t:TGs)(v:V)(σ:St)(H:Hp)(Q:(St->Hp->Prop)):Prop
 |mk (a xs:_) (q0_:v=.ref a) (q1_:SqT K H a xs) (q2_:xs.length=n) (q3_:t xs σ H Q):aVe K n t v σ H Q
def aZ8(K:Ac)(n:Nat)(t:TGs):TG:=λv σ H Q=>aVe K n t v σ H Q
def aJy(hc:X.calm=true)(h:PGs X es t)
  (hn:(Ho es X.env).length=n:=by rfl) (hst:(Ho es X.env).findIdx? (·.1)=none:=by rfl):PG X (.Tuple es k pos) (aZ8 X.K n t):=by
 intro aa s σ H v u Q I r hw;obtain⟨a,xs,e1,hq,hl,hw⟩:=hw;subst e1;cases r;obtain⟨ae,rv,ht,hz⟩:=I.tuple hq;refine assign_Tuple_tuple (I.ok.hd hc) ht (by simp[hn, <-hl,rv.length]) hst λh' hx=>?_;have I1:Inv X aa σ H {s with heap:=h'}:=I.kept (t':=s.toks) λb o e=>hx b o (Aw (As e)) e;exact h aa _ σ H xs _ Q I1 (by simpa using rv) hw
def bCv(to ti:TE)(t:aWr):TG:=λv σ H Q=>to σ H λo H1=>ti σ H1 λi H2=>t o i v H2 λH3=>Q σ H3
def aJx{o i:Bu}{to ti:TE}{t:aWr}(ho:PE X o to)(hi:PE X i ti)(hs:aZq X t)
  (ha:∀v,assign (.Subscript o i pos) X.env v=(do
   let ov<-holding [v] (eval o X.env)
   let iv<-holding [v,ov] (eval i X.env)
   Mg pos
   holding [v,ov,iv] (Zk ov iv v)
   release [v,ov,iv] []):=by intro _;rfl):PG X (.Subscript o i pos) (bCv to ti t):=by
 intro aa s σ H v u Q I r h
 rw[ha]
 refine Aa (Ci (thn (ho aa s σ H _ I h) λov s1 ⟨x,H1,I1,r1,q1⟩=>?_))
 refine Aa (Ci (thn (hi aa s1 σ H1 _ I1 q1) λiv s2 ⟨y,H2,I2,r2,q2⟩=>?_))
 refine Aa (Md (Aa (Ci (thn (hs aa s2 σ H2 x y v ov iv u _ I2 r1 r2 r q2) λ_ s3 ⟨H3,I3,q3⟩=>?_))))
 exact wpAny_release #[σ,H3,I3,q3]
def aNk(te:TE)(g:TG):TS:=λD σ H=>te σ H λx H1=>g x σ H1 D.nx
def aJ1{tg e:Bu}{te:TE}{g:TG}(he:PE X e te)(hg:PG X tg g)(hs:swapsWithSole [tg] e pos.line X.env=pure false:=by rfl)(hw:swappedStores [tg] e X.env=pure none:=by rfl)
  (h1:(Ho [tg] X.env).map (·.2)=[assign tg X.env]:=by rfl):PS X (.Assign [tg] e pos) (aNk te g):=by
 intro aa s σ H D I h;refine wpAny_Assign_stores (thn (he aa s σ H _ I h) λv s1 ⟨x,H1,I1,r1,q1⟩=>?_) hs hw;rw[h1];exact thn (hg aa s1 σ H1 x v _ I1 r1 q1) λ_ s2 q=>q
def zE{x:Str}{e:Bu}{te:TE}{pos':Pos}(hN:X.N.Nodup)(hi:X.N[i]? =some x)(hx:Loc X.env.scope x)(he:PE X e te)(hs:Ed e (some (.Name x pos')) pos.line X.env=pure false:=by rfl)(hf:FL X x:=by trivial):
  PS X (.Assign [.Name x pos'] e pos) (aNk te (tO i)):=by
 intro aa s σ H D I h;refine wpAny_Assign_Name (thn (he aa s σ H _ I h) λv s1 ⟨y,H1,I1,r1,q1⟩=>?_) hs;exact aH5 I1 hN hi hx r1 (λs2 I2=>#[_,H1,I2,q1]) hf
structure It where
 go:Nat->Hp->Prop
 yld:Nat->Hp->V->Hp->Prop
 stop:Nat->Hp->Prop
def aE5(X:Cx)(aa:#v[4])(H:Hp)(b:Addr):Prop:=
 H b=none/\b≠X.env.locals/\b∉X.fs/\(b∈X.ex∨X.s₀.heap.objs.size<=b)/\(∀x c,X.env.cells.lookup x=some c->c≠b)/\∀p∈X.pn++aa,p.1≠b
def Inv.fpOk{X:Cx}{aa:#v[4]}{σ:St}{H H':Hp}{s:Ai}(I:#v[3])(hb:#v[0]<=b)(hn:H' b=none):aE5 X aa H' b:=by
 refine#[hn,Hw (Ba I.lt hb),I.nofs hb,.inr (Bs I.sz hb),λx c e z=>?_,λp hp z=>?_]
 ·obtain⟨v,q⟩:=I.cell x c e;exact Aa2 (Ba q.lt (by rw[z];exact hb)) (Gr _)
 ·exact Aa2 (Ba (As (I.pin p hp).1) (by rw[z];exact hb)) (Gr _)
structure Turn(P:Aj)(w:Bd)(K:Ac)(tg:Bu)(J:It)(fp:List Addr)(it:Addr)(tn:Nat->Heap->Prop):Prop where
 mem:it∈fp
 obj:∀i h,tn i h->∀b∈fp,∃o,h.get? b=some o/\∀v,o.data≠.cell v
 keep:∀i h h',tn i h->(∀b∈fp,∀o,h.get? b=some o->h'.get? b=some o)->tn i h'
 item:∀(X:Cx),X.prog=P->X.w=w->X.K=K->X.calm=true->∀(i:Nat)(aa:#v[4])(s:Ai)(σ:St)(H:Hp)(E:#v[c]),#v[3]->(∀b∈fp,aE5 X aa H b)->tn i s.heap->J.go i H->
  Bc (model P w) X.A (Ia (.ref it)) (λr s1=>∃u,r=some u/\
   Bc (model P w) X.A (Nf tg (.ref it) u) (λ_ s2=>∃x H',Inv X aa σ H' s2/\RelV x u/\J.yld i H x H'/\tn (i+1) s2.heap/\∀b∈fp,H' b=none) E s1) E s
 done:∀(X:Cx),X.prog=P->X.w=w->X.K=K->X.calm=true->∀(i:Nat)(aa:#v[4])(s:Ai)(σ:St)(H:Hp)(E:#v[c]),#v[3]->(∀b∈fp,aE5 X aa H b)->tn i s.heap->J.stop i H->
  Bc (model P w) X.A (Ia (.ref it)) (λr s1=>r=none/\Inv X aa σ H s1) E s
 self:∀(A:Bp)(i:Nat)(s:Ai)(Q:#v[c])(E:#v[c]),tn i s.heap->Q (.ref it) s->Bc (model P w) A (Wt (.ref it)) Q E s
abbrev TI:=St->Hp->(It->Hp->Prop)->Prop
def PIE(X:Cx)(aa:#v[4])(σ:St)(tg:Bu)(R:It->Hp->Prop)(itv:Value)(s2:Ai):Prop:=
 ∃(it:Addr)(fp:List Addr)(tn:Nat->Heap->Prop)(J:It)(H':Hp),itv=.ref it/\Inv X aa σ H' s2/\Turn X.prog X.w X.K tg J fp it tn/\tn 0 s2.heap/\(∀b∈fp,aE5 X aa H' b)/\R J H'
def PI(X:Cx)(tg iter:Bu)(wi:TI):Prop:=
 ∀(aa:#v[4])(s:Ai)(σ:St)(H:Hp)(R:It->Hp->Prop),#v[3]->wi σ H R->
  Bc #v[a] X.A (eval iter X.env) (λv s1=>Bc #v[a] X.A (Wt v) (PIE X aa σ tg R) X.xe s1) X.xe s
def aK4 {s : Ai} {o : Obj} (ho : s.heap.get? it = some o) (hc : o.cls = .type n) (hd : o.data = .fields vs)
    (hn : ["enumerate", "zip", "dict_itemiterator", "dict_reverseitemiterator", "odict_iterator", "itertools.zip_longest", "itertools.pairwise"].contains n = false) (hQ : Q () s) : Bc M A (Nf tg (.ref it) u) Q E s := by
  unfold Nf
  cases tg <;> first
    | exact Ad hQ
    | (cases u <;> first
        | exact Ad hQ
        | (refine Aa (wpAny_load ho ?_)
           rw [hc, hd]
           show Bc M A (if (["enumerate", "zip", "dict_itemiterator", "dict_reverseitemiterator", "odict_iterator", "itertools.zip_longest", "itertools.pairwise"].contains n && vs[0]? == some (Ji _)) = true then _ else _) Q E s
           rw [Aa0 (by intro h; rw [hn, Kk] at h; cases h)]
           exact Ad hQ))
def Itl(K:Ac)(a:Addr):It:=
 #[λi H=>∃xs x,SqL K H a xs/\xs[i]? =some x,λi H x H'=>H'=H/\∀xs,SqL K H a xs->xs[i]? =some x,λi H=>∃xs,SqL K H a xs/\xs.length<=i]
def Itt(K:Ac)(a:Addr):It:=
 #[λi H=>∃xs x,SqT K H a xs/\xs[i]? =some x,λi H x H'=>H'=H/\∀xs,SqT K H a xs->xs[i]? =some x,λi H=>∃xs,SqT K H a xs/\xs.length<=i]
def Itr(lo:Int)(n:Nat):It:=#[λi _=>i<n,λi H x H'=>H'=H/\x=.int (lo+i),λi _=>n<=i]
def aNp{P:Aj}{w:Bd}{K:Ac}{tg:Bu}(a it:Addr):Turn P w K tg (Itl K a) [it] it (λi h=>h.IsListIter it a i) where
 mem:=by simp
 obj:=λi h st b hb=>by
  have e:b=it:=by simpa using hb
  subst e;obtain⟨o,e,c,d⟩:=st;exact#[o,e,λv z=>by rw[d]at z;cases z]
 keep:=λi h h' st k=>st.at λo e=>k it (by simp) o e
 item:=by
  intro X hP hw hK hc i aa s σ H E I hf st hg;subst hP hw hK;obtain⟨xs,x,hq,hx⟩:=hg;obtain⟨ae,rv,p,hz⟩:=I.list hq;obtain⟨u,hu,ru⟩:=rv.get hx;obtain⟨f0,f1,f2,f3,f4,f5⟩:=hf it (by simp);refine wpAny_pyNext_list_item st p.isList (x:=u) (by simpa using hu) λh' st' sb=>?_;have I1:Inv X aa σ H {s with heap:=h'}:=I.turned (t':=s.toks) (λb o hb e=>(sb.2 b hb).trans e) f0 f1 f3 f4 f5;obtain⟨o,e,c,d⟩:=id st';exact#[u,rfl,aK4 (s:={s with heap:=h'}) e c d ⋯ #[x,H,I1,ru,#[rfl,λys hy=>by rw[I.list_inj hy hq];exact hx],st',λb hb=>(hf b hb).1]]
 done:=by
  intro X hP hw hK hc i aa s σ H E I hf st hg;subst hP hw hK;obtain⟨xs,hq,hx⟩:=hg;obtain⟨ae,rv,p,hz⟩:=I.list hq;obtain⟨f0,f1,f2,f3,f4,f5⟩:=hf it (by simp);have hl:=rv.length;exact wpAny_pyNext_list_end (I.ok.hd hc) st p.isList (by simp;lia) λh' eb=>#[rfl,I.turned (t':=s.toks) (λb o hb e=>eb b o hb e) f0 f1 f3 f4 f5]
 self:=λ_ _ _ _ _ st h=>wpAny_pyIter_listiter st h
def aKd{P:Aj}{w:Bd}{K:Ac}{tg:Bu}(a it:Addr):Turn P w K tg (Itt K a) [it] it (λi h=>h.IsTupleIter it a i) where
 mem:=by simp
 obj:=λi h st b hb=>by
  have e:b=it:=by simpa using hb
  subst e;obtain⟨o,e,c,d⟩:=st;exact#[o,e,λv z=>by rw[d]at z;cases z]
 keep:=λi h h' st k=>st.at λo e=>k it (by simp) o e
 item:=by
  intro X hP hw hK hc i aa s σ H E I hf st hg;subst hP hw hK;obtain⟨xs,x,hq,hx⟩:=hg;obtain⟨ae,rv,p,hz⟩:=I.tuple hq;obtain⟨u,hu,ru⟩:=rv.get hx;obtain⟨f0,f1,f2,f3,f4,f5⟩:=hf it (by simp);refine wpAny_pyNext_tuple_item st (show s.heap.IsTuple a ae.toArray from p) (x:=u) (by simpa using hu) λh' st' sb=>?_;have I1:Inv X aa σ H {s with heap:=h'}:=I.turned (t':=s.toks) (λb o hb e=>(sb.2 b hb).trans e) f0 f1 f3 f4 f5;obtain⟨o,e,c,d⟩:=id st';exact#[u,rfl,aK4 (s:={s with heap:=h'}) e c d ⋯ #[x,H,I1,ru,#[rfl,λys hy=>by rw[I.tuple_inj hy hq];exact hx],st',λb hb=>(hf b hb).1]]
 done:=by
  intro X hP hw hK hc i aa s σ H E I hf st hg;subst hP hw hK;obtain⟨xs,hq,hx⟩:=hg;obtain⟨ae,rv,p,hz⟩:=I.tuple hq;obtain⟨f0,f1,f2,f3,f4,f5⟩:=hf it (by simp);have hl:=rv.length;exact wpAny_pyNext_tuple_end (I.ok.hd hc) st (show s.heap.IsTuple a ae.toArray from p) (by simp;lia) λh' eb=>#[rfl,I.turned (t':=s.toks) (λb o hb e=>eb b o hb e) f0 f1 f3 f4 f5]
 self:=λ_ _ _ _ _ st h=>wpAny_pyIter_tupleiter st h
def aKc{P:Aj}{w:Bd}{K:Ac}{tg:Bu}(it:Addr)(lo:Int)(n:Nat):Turn P w K tg (Itr lo n) [it] it (λi h=>IsRangeIter h it (lo+(i:Nat)*1) ((n:Int)-(i:Nat)) 1) where
 mem:=by simp
 obj:=λi h st b hb=>by
  have e:b=it:=by simpa using hb
  subst e;exact⟨_,st,λv z=>by
   have z':To _=Pg v:=z;cases z'⟩
 keep:=λi h h' st k=>k it (by simp) _ st
 item:=by
  intro X hP hw hK hc i aa s σ H E I hf st hg;subst hP hw hK;obtain⟨f0,f1,f2,f3,f4,f5⟩:=hf it (by simp);have W:=Walks.range (prog:=X.prog) (w:=X.w) (I.ok.hd hc) it lo 1 n;refine W.item i s _ _ hg st λv h' tk hv st' kk=>?_;obtain⟨t,rfl⟩:=hv;have I1:Inv X aa σ H {s with heap:=h',toks:=tk}:=I.turned (λb o hb e=>kk b o (by simpa using hb) e) f0 f1 f3 f4 f5;refine#[_,rfl,aK4 (s:={s with heap:=h',toks:=tk}) (n:="range_iterator") st' rfl rfl ⋯ #[.int (lo+i),H,I1,#[t,?_],#[rfl,rfl],st',λb hb=>(hf b hb).1]];rw[Pv]
 done:=by
  intro X hP hw hK hc i aa s σ H E I hf st hg;subst hP hw hK;obtain⟨f0,f1,f2,f3,f4,f5⟩:=hf it (by simp);exact wpAny_pyNext_range_end (I.ok.hd hc) st (by have:n<=i:=hg;lia) λh' eb=>#[rfl,I.turned (t':=s.toks) (λb o hb e=>eb b o hb e) f0 f1 f3 f4 f5]
 self:=λ_ _ _ _ _ st h=>wpAny_pyIter_rangeiter st h
variable {tg:Bu}
inductive aVi(K:Ac)(x:V)(H1:Hp)(R:It->Hp->Prop):Prop
 |mk (a:_) (q0_:x=.ref a) (q1_:(∃xs,SqL K H1 a xs)) (q2_:R (Itl K a) H1):aVi K x H1 R
def bC3(K:Ac)(x:V)(H1:Hp)(R:It->Hp->Prop):Prop:=aVi K x H1 R
def bAb(K:Ac)(tl:TE):TI:=λσ H R=>tl σ H λx H1=>bC3 K x H1 R
def bCx(K:Ac)(tl:TE):TI:=λσ H R=>tl σ H λx H1=>∃a,x=.ref a/\(∃xs,SqT K H1 a xs)/\R (Itt K a) H1
def aT5{l:Bu}{tl:TE}(hl:PE X l tl):PI X tg l (bAb X.K tl):=by
 intro aa s σ H R I h;refine thn (hl aa s σ H _ I h) λv s1 ⟨x,H1,I1,r1,q1⟩=>?_;obtain⟨a,e,⟨xs,hq⟩,q⟩:=q1;subst e;cases r1;obtain⟨ae,rv,p,hz⟩:=I1.list hq;refine Jj p.isList ?_;refine#[s1.heap.objs.size,[s1.heap.objs.size],_,_,H1,rfl,I1.kept (t':=s1.toks) λb o e=>Ae _ e,aNp a _,#[_,Ar _ rfl,rfl,rfl],λb hb=>?_,q];have e:b=s1.heap.objs.size:=by simpa using hb
 subst e;exact I1.fpOk (Am _) (I1.hok.fresh (Am _))
def aXv{l:Bu}{tl:TE}(hl:PE X l tl):PI X tg l (bCx X.K tl):=by
 intro aa s σ H R I h;refine thn (hl aa s σ H _ I h) λv s1 ⟨x,H1,I1,r1,q1⟩=>?_;obtain⟨a,e,⟨xs,hq⟩,q⟩:=q1;subst e;cases r1;obtain⟨ae,rv,p,hz⟩:=I1.tuple hq;refine Wr (show s1.heap.IsTuple a ae.toArray from p) ?_;refine#[s1.heap.objs.size,[s1.heap.objs.size],_,_,H1,rfl,I1.kept (t':=s1.toks) λb o e=>Ae _ e,aKd a _,#[_,Ar _ rfl,rfl,rfl],λb hb=>?_,q];have e:b=s1.heap.objs.size:=by simpa using hb
 subst e;exact I1.fpOk (Am _) (I1.hok.fresh (Am _))
def aHt{aa:#v[4]}{σ:St}{H:Hp}{s:Ai}{R:It->Hp->Prop}{E:#v[c]}{lo hi:Int}{t u v:Tok}{tk:Nat}(I:#v[3])(h1: -(2 ^ 62)<=lo)(h2:lo<2 ^ 62)(h3: -(2 ^ 62)<=hi)(h4:hi<2 ^ 62)
  (q:R (Itr lo (hi-lo).toNat) H):Bc #v[a] X.A (Wt (.ref #v[0])) (PIE X aa σ tg R) E {s with heap:=s.heap.push {cls:=.type "range",data:=.fields (List.toArray [.int lo t,.int hi u,.int 1 v])},toks:=tk}:=by
 refine wpAny_pyIter_range (IsRange.new ..) (small_one h1 h2 h3 h4) ?_;have I1:Inv X aa σ H {s with heap:=s.heap.push {cls:=.type "range",data:=.fields (List.toArray [.int lo t,.int hi u,.int 1 v])},toks:=tk}:=I.kept λb o e=>Ae _ e;refine⟨(s.heap.push {cls:=.type "range",data:=.fields (List.toArray [.int lo t,.int hi u,.int 1 v])}).objs.size,[(s.heap.push {cls:=.type "range",data:=.fields (List.toArray [.int lo t,.int hi u,.int 1 v])}).objs.size],_,_,H,rfl,
  I1.kept (t':=tk) λb o e=>Ae _ e,aKc _ lo (hi-lo).toNat,?_,λb hb=>?_,q⟩
 ·have e1:lo+((0:Nat):Int)*1=lo:=by simp
  have e2:(((hi-lo).toNat:Nat):Int)-((0:Nat):Int)=Yk lo hi 1:=by rw[rangeSize_one];split<;>lia
  show IsRangeIter _ _ (lo+((0:Nat):Int)*1) ((((hi-lo).toNat:Nat):Int)-((0:Nat):Int)) 1;rw[e1,e2];exact Ar _ rfl
 ·have e:b=(s.heap.push {cls:=.type "range",data:=.fields (List.toArray [.int lo t,.int hi u,.int 1 v])}).objs.size:=by simpa using hb
  subst e;exact I1.fpOk (Am _) (I1.hok.fresh (Am _))
inductive aVm(vs:List V)(H1:Hp)(R:It->Hp->Prop):Prop
 |mk (j:Int) (q0_:vs=[.int j]) (q1_: -(2 ^ 62)<=j) (q2_:j<2 ^ 62) (q3_:R (Itr 0 j.toNat) H1):aVm vs H1 R
def bC4(vs:List V)(H1:Hp)(R:It->Hp->Prop):Prop:=aVm vs H1 R
def bAc(ta:TA):TI:=λσ H R=>ta σ H λvs H1=>bC4 vs H1 R
def bAd(ta:TA):TI:=λσ H R=>ta σ H λvs H1=>∃i j:Int,vs=[.int i,.int j]/\(-(2 ^ 62)<=i/\i<2 ^ 62/\ -(2 ^ 62)<=j/\j<2 ^ 62)/\R (Itr i (j-i).toNat) H1
def aNc{a:Bu}{ta:TA}{p pos:Pos}(hg:Gl X "range")(hm:X.mg "range"=none)(ha:PA X [a] ta)(hs:Bz [a] X.env=[(false,eval a X.env)]:=by rfl):PI X tg (.Call (.Name "range" p) [a] [] pos) (bAc ta):=by
 intro aa s σ H R I h;refine Call_ (tR I hg hm boot_range (Fe (thn (ha pos aa s σ H _ I h) λus s1 ⟨vs,H1,I1,r1,q1⟩=>?_) hs rfl));obtain⟨j,e,q1,q2,q⟩:=q1;subst e;cases r1 with
 |cons r rr=>
  cases rr;obtain⟨t,rfl⟩:=r;exact call_range_1 (aHt I1 ∅ ∅ q1 q2 (by simpa using q))
def aNd{a b:Bu}{ta:TA}{p pos:Pos}(hg:Gl X "range")(hm:X.mg "range"=none)(ha:PA X [a,b] ta)(hs:Bz [a,b] X.env=[(false,eval a X.env),(false,eval b X.env)]:=by rfl)(hs2:Bz [b] X.env=[(false,eval b X.env)]:=by rfl):
  PI X tg (.Call (.Name "range" p) [a,b] [] pos) (bAd ta):=by
 intro aa s σ H R I h;refine Call_ (tR I hg hm boot_range (Fe (thn (ha pos aa s σ H _ I h) λus s1 ⟨vs,H1,I1,r1,q1⟩=>?_) (by rw[hs,hs2]) (by rw[hs2];rfl)));obtain⟨i,j,e,⟨q1,q2,q3,q4⟩,q⟩:=q1;subst e;cases r1 with
 |cons r rr=>
  cases rr with
  |cons r' rr=>
   cases rr;obtain⟨t,rfl⟩:=r;obtain⟨t',rfl⟩:=r';exact call_range_2 (aHt I1 q1 q2 q3 q4 q)
def bDa(wi:TI)(g:TG)(tb:TS):TS:=λD σ H=>wi σ H λJ H1=>∃W:Nat->Nat->St->Hp->Prop,(∃m,W 0 m σ H1)/\∀i m σ H,W i m σ H->
 (J.stop i H/\D.nx σ H)∨(J.go i H/\∃N:St->Hp->Prop,(∀σ' H',N σ' H'->∃m',m'<m/\W (i+1) m' σ' H')/\∀x H',J.yld i H x H'->g x σ H' λσ2 H2=>tb {D with nx:=N,ct:=N,bk:=D.nx} σ2 H2)
def aFy(fp:List Addr)(h:Heap):#v[4]:=fp.filterMap λb=>(h.get? b).map λo=>(b,o)
def kJ{h:Heap}{o:Obj}(hb:b∈fp)(e:h.get? b=some o):(b,o)∈aFy fp h:=Ud.mpr #[b,hb,by rw[e];rfl]
def aMt{h:Heap}(hp:p∈aFy fp h):p.1∈fp/\h.get? p.1=some p.2:=by
 obtain⟨b,hb,e⟩:=Ud.mp hp;cases q:h.get? b with
 |none=>rw[q]at e;cases e
 |some o=>
  rw[q]at e;have e':(b,o)=p:=Bj e;subst e';exact#[hb,q]
def Inv.pinned{aa:#v[4]}{σ:St}{H:Hp}{s:Ai}(I:#v[3])(hf:∀b∈fp,aE5 X aa H b)(ho:∀b∈fp,∃o,s.heap.get? b=some o/\∀v,o.data≠.cell v):Inv X (aa++aFy fp s.heap) σ H s:=
 I.pins_of λp hp=>(Cb.mp hp).elim (λz=>I.pin p (Az _ z)) λz=>by
  obtain⟨hb,e⟩:=aMt z;obtain⟨f0,f1,f2,_⟩:=hf p.1 hb;obtain⟨o,e',d⟩:=ho p.1 hb;rw[e]at e';cases e';exact#[e,f0,f1,f2,d]
def Inv.unpinned{aa pl:#v[4]}{σ:St}{H:Hp}{s:Ai}(I:Inv X (aa++pl) σ H s):#v[3]:=I.pins_of λp hp=>I.pin p (Az _ (Bq _ hp))
def aJ2{iter:Bu}{wi:TI}{g:TG}{tb:TS}{pos:Pos}(hp:Vb #v[a] X.A X.env X.xe)(hc:X.calm=true)(hi:PI X tg iter wi)(hg:PG X tg g)(hb:PSs X body tb)
  (hs:FS X iter:=by intro _;rfl):PS X (.For tg iter body [] pos) (bDa wi g tb):=by
 intro aa s σ H D I h;refine wpAny_For (thn (hi aa s σ H _ I h) λv s1 h1=>thn h1 λitv s2 h2=>?_) hs;obtain⟨it,fp,tn,J,H2,e,I2,T,st2,f2,W,⟨m0,w0⟩,turn⟩:=h2;subst e;have stat:∀{H':Hp},(∀b∈fp,H' b=none)->∀b∈fp,aE5 X aa H' b:=λhn b hb=>#[hn b hb,(f2 b hb).2];refine codeAny_forLoop_any (λn s'=>∃i σ' H',Inv X aa σ' H' s'/\tn i s'.heap/\(∀b∈fp,H' b=none)/\W i n σ' H') ?_ m0 #[0,σ,H2,I2,st2,λb hb=>(f2 b hb).1,w0];rintro n s3 ⟨i,σ3,H3,I3,st3,fr3,w3⟩;rcases turn i n σ3 H3 w3 with ⟨stop,qn⟩|⟨go,N,hN,step⟩
 ·refine Km hp (thn (T.done X rfl rfl rfl hc i aa s3 σ3 H3 X.xe I3 (stat fr3) st3 stop) λr s4 ⟨hr,I4⟩=>?_);subst hr;exact Rh #[σ3,H3,I4,qn]
 ·refine Km hp (thn (T.item X rfl rfl rfl hc i aa s3 σ3 H3 X.xe I3 (stat fr3) st3 go) λr s4 ⟨u,hr,h4⟩=>?_);subst hr;refine Km hp (thn h4 λ_ s5 ⟨x,H5,I5,r5,y5,st5,fr5⟩=>?_);have I5':=I5.pinned (stat fr5) (T.obj _ _ st5);refine Km hp (thn (hg _ s5 σ3 H5 x u _ I5' r5 (step x H5 y5)) λ_ s6 ⟨σ6,H6,I6,q6⟩=>?_);refine Km hp (thn (hb _ s6 σ6 H6 _ I6 q6) λf s7 q7=>?_);have again:∀{σ7:St}{H7:Hp},Inv X (aa++aFy fp s5.heap) σ7 H7 s7->N σ7 H7->∃m,m<n/\∃i σ' H',Inv X aa σ' H' s7/\tn i s7.heap/\(∀b∈fp,H' b=none)/\W i m σ' H':=λ{σ7 H7} I7 n7=>by
   obtain⟨m',hm,w7⟩:=hN σ7 H7 n7;refine#[m',hm,i+1,σ7,H7,I7.unpinned,T.keep _ _ _ st5 λb hb o e=>(I7.pin (b,o) (Az _ (Az _ (kJ hb e)))).1,λb hb=>?_,w7];obtain⟨o,e,d⟩:=T.obj _ _ st5 b hb;exact(I7.pin (b,o) (Az _ (Az _ (kJ hb e)))).2.1
  cases f with
  |next=>obtain⟨σ7,H7,I7,n7⟩:=q7;exact again I7 n7
  |cont=>obtain⟨σ7,H7,I7,n7⟩:=q7;exact again I7 n7
  |brk=>obtain⟨σ7,H7,I7,q7⟩:=q7;exact#[σ7,H7,I7.unpinned,q7]
  |ret v=>obtain⟨x7,σ7,H7,I7,r7,q7⟩:=q7;exact#[x7,σ7,H7,I7.unpinned,r7,q7]
abbrev R2:=V->V->Hp->VK->Prop
def OpR(X:Cx)(f:Value->Value->Sem Value)(r:R2):Prop:=
 ∀(aa:#v[4])(s:Ai)(σ:St)(H:Hp)(x y:V)(v u:Value)(Q:VK),#v[3]->RelV x v->RelV y u->r x y H Q->
  Bc #v[a] X.A (f v u) (EP X aa σ Q) X.xe s
def UnR(X:Cx)(f:Value->Sem Value)(r:V->Hp->VK->Prop):Prop:=
 ∀(aa:#v[4])(s:Ai)(σ:St)(H:Hp)(x:V)(v:Value)(Q:VK),#v[3]->RelV x v->r x H Q->
  Bc #v[a] X.A (f v) (EP X aa σ Q) X.xe s
def gQ(X:Cx)(f:Value)(r:List V->Hp->VK->Prop):Prop:=
 ∀(aa:#v[4])(s:Ai)(σ:St)(H:Hp)(xs:List V)(us:List Value)(Q:VK),#v[3]->Vals xs us->r xs H Q->
  Bc #v[a] X.A (call f us) (EP X aa σ Q) X.xe s
def tOp(r:R2)(ta tb:TE):TE:=λσ H Q=>ta σ H λx H1=>tb σ H1 λy H2=>r x y H2 Q
def tUn(r:V->Hp->VK->Prop)(ta:TE):TE:=λσ H Q=>ta σ H λx H1=>r x H1 Q
inductive IrI(C:Int->Int->Prop)(g:Int->Int->V)(x:V)(y:V)(H:Hp)(Q:VK):Prop
 |mk (i j:_) (q0_:x=.int i) (q1_:y=.int j) (q2_:C i j) (q3_:Q (g i j) H):IrI C g x y H Q
def rI(C:Int->Int->Prop)(g:Int->Int->V):R2:=λx y H Q=>IrI C g x y H Q
def rI0(g:Int->Int->V):R2:=λx y H Q=>∃i j,x=.int i/\y=.int j/\Q (g i j) H
inductive IrU(g:Int->V)(x:V)(H:Hp)(Q:VK):Prop
 |mk (i:_) (q0_:x=.int i) (q1_:Q (g i) H):IrU g x H Q
def rU(g:Int->V):V->Hp->VK->Prop:=λx H Q=>IrU g x H Q
section
variable {X:Cx}{a b c:Bu}{ta tb tc:TE}{pos:Pos}
def aWt(ha:PE X a ta)(hb:PE X b tb){aa:#v[4]}{s:Ai}{σ:St}{H:Hp}{R:V->V->Hp->Prop}(I:#v[3])
  (h:ta σ H λx H1=>tb σ H1 λy H2=>R x y H2) {Q:#v[c]} {f:Value->Value->Sem Value}
  (hf:∀v u s2 x y H2,Inv X aa σ H2 s2->RelV x v->RelV y u->R x y H2->Bc #v[a] X.A (f v u) Q X.xe s2):
  Bc #v[a] X.A (eval a X.env) (λv s₁=>Bc #v[a] X.A (eval b X.env) (λu s₂=>Bc #v[a] X.A (f v u) Q X.xe s₂) X.xe s₁) X.xe s:=by
 refine thn (ha aa s σ H _ I h) λv s1 ⟨x,H1,I1,r1,q1⟩=>?_;refine thn (hb aa s1 σ H1 _ I1 q1) λu s2 ⟨y,H2,I2,r2,q2⟩=>?_;exact hf v u s2 x y H2 I2 r1 r2 q2
def gW{op:Operator}{r:R2}(ho:OpR X (Gw op) r)(ha:PE X a ta)(hb:PE X b tb):PE X (.BinOp a op b pos) (tOp r ta tb):=by
 intro aa s σ H Q I h;exact wpAny_BinOp (aWt ha hb I h λv u s2 x y H2 I2 rx ry q=>ho aa s2 σ H2 x y v u Q I2 rx ry q)
def bAy{op:UnaryOp}{r:V->Hp->VK->Prop}(ho:UnR X (unaryOp op) r)(ha:PE X a ta):PE X (.UnaryOp op a pos) (tUn r ta):=by
 intro aa s σ H Q I h;exact UnaryOp_ (thn (ha aa s σ H _ I h) λv s1 ⟨x,H1,I1,r1,q1⟩=>ho aa s1 σ H1 x v Q I1 r1 q1)
def opI{f:Value->Value->Sem Value}{C:Int->Int->Prop}
  (rule:∀(i j:Int)(t u:Tok)(s:Ai)(Q:#v[c])(E:#v[c]),C i j->Q (.int (g i j) s.toks) {s with toks:=s.toks+1}->Bc #v[a] X.A (f (.int i t) (.int j u)) Q E s):
  OpR X f (rI C λi j=> .int (g i j)):=by
 intro aa s σ H x y v u Q I rx ry h;obtain⟨i,j,rfl,rfl,hc,q⟩:=h;obtain⟨t,rfl⟩:=rx;obtain⟨t',rfl⟩:=ry;exact rule i j t t' s _ _ hc #[.int (g i j),H,I.tok _,#[_,rfl],q]
def bAr{f:Value->Value->Sem Value}
  (rule:∀(i j:Int)(t u:Tok)(s:Ai)(Q:#v[c])(E:#v[c]),Q (.int (g i j) s.toks) {s with toks:=s.toks+1}->Bc #v[a] X.A (f (.int i t) (.int j u)) Q E s):
  OpR X f (rI0 λi j=> .int (g i j)):=by
 intro aa s σ H x y v u Q I rx ry h;obtain⟨i,j,rfl,rfl,q⟩:=h;obtain⟨t,rfl⟩:=rx;obtain⟨t',rfl⟩:=ry;exact rule i j t t' s _ _ #[.int (g i j),H,I.tok _,#[_,rfl],q]
def aTo{f:Value->Value->Sem Value}{g:Int->Int->Bool}
  (rule:∀(i j:Int)(t u:Tok)(s:Ai)(Q:#v[c])(E:#v[c]),Q (.bool (g i j)) s->Bc #v[a] X.A (f (.int i t) (.int j u)) Q E s):
  OpR X f (rI0 λi j=> .bl (g i j)):=by
 intro aa s σ H x y v u Q I rx ry h;obtain⟨i,j,rfl,rfl,q⟩:=h;obtain⟨t,rfl⟩:=rx;obtain⟨t',rfl⟩:=ry;exact rule i j t t' s _ _ #[.bl (g i j),H,I,rfl,q]
def bCl(i j:Int):Prop:=0<j/\j<1073741824
def bCm(i j:Int):Prop:=0<=j/\j<=1000000/\i.natAbs<2 ^ 64
def aWm(i j:Int):Prop:=(-(2 ^ 64)<i/\i<2 ^ 64)∨(-(2 ^ 64)<j/\j<2 ^ 64)
def aWm.ok{i j:Int}(h:aWm i j):IntMulOk i j:=by
 rcases h with ⟨h1,h2⟩|⟨h1,h2⟩
 ·exact .of_left (intBits_le_64 h1 h2)
 ·exact .of_right (intBits_le_64 h1 h2)
def vV:OpR X (Gw .Add) (rI0 λi j=> .int (i+j)):=bAr λ_ _ _ _ _ _ _ q=>add_int q
def fY:OpR X (Gw .Sub) (rI0 λi j=> .int (i-j)):=bAr λ_ _ _ _ _ _ _ q=>sub_int q
def jJ:OpR X (Gw .Mult) (rI aWm λi j=> .int (i*j)):=opI λ_ _ _ _ _ _ _ hc q=>mul_int q hc.ok
def aBd:OpR X (Gw .FloorDiv) (rI bCl λi j=> .int (i / j)):=opI λi j _ _ _ _ _ hc q=>by
 have h1:(0:Int)<j:=hc.1;have h2:j<1073741824:=hc.2;exact floordiv_int ∅ (by rw[Qh i ∅];exact q) (.inl (PyProof.noPylong_small ∅))
def nY:OpR X (Gw .Mod) (rI (λ_ j=>0<j) λi j=> .int (i % j)):=opI λi j _ _ _ _ _ hc q=>by
 have h1:(0:Int)<j:=hc;exact mod_int' ∅ (by rw[Int.fmod_eq_emod_of_nonneg i ∅];exact q)
def aCn:OpR X (Gw .Pow) (rI bCm λi j=> .int (i ^ j.toNat)):=opI λ_ _ _ _ _ _ _ hc q=>pow_int_small hc.1 hc.2.1 hc.2.2 q
def unI{f:Value->Sem Value}{g:Int->Int}
  (rule:∀(i:Int)(t:Tok)(s:Ai)(Q:#v[c])(E:#v[c]),Q (.int (g i) s.toks) {s with toks:=s.toks+1}->Bc #v[a] X.A (f (.int i t)) Q E s):
  UnR X f (rU λi=> .int (g i)):=by
 intro aa s σ H x v Q I rx h;obtain⟨i,rfl,q⟩:=h;obtain⟨t,rfl⟩:=rx;exact rule i t s _ _ #[.int (g i),H,I.tok _,#[_,rfl],q]
def aYl:UnR X (unaryOp .USub) (rU λi=> .int (-i)):=unI λ_ _ _ _ _ q=>neg_int q
end
section
variable {X:Cx}{a b c:Bu}{ta tb tc:TE}{pos:Pos}
def aLc:OpR X (Ee .Lt) (rI0 λi j=> .bl (decide (i<j))):=aTo λ_ _ _ _ _ _ _ q=>lt_int q
def aAe:OpR X (Ee .LtE) (rI0 λi j=> .bl (decide (i<=j))):=aTo λ_ _ _ _ _ _ _ q=>le_int q
def xM:OpR X (Ee .Gt) (rI0 λi j=> .bl (decide (j<i))):=aTo λ_ _ _ _ _ _ _ q=>gt_int q
def bAs:OpR X (Ee .GtE) (rI0 λi j=> .bl (decide (j<=i))):=aTo λ_ _ _ _ _ _ _ q=>ge_int q
def OpR.or(h:OpR X f r)(h':OpR X f r'):OpR X f (λx y H Q=>r x y H Q∨r' x y H Q):=by
 intro aa s σ H x y v u Q I rx ry q;rcases q with q|q
 ·exact h aa s σ H x y v u Q I rx ry q
 ·exact h' aa s σ H x y v u Q I rx ry q
def aCm(b:Bu)(h:op≠.In:=by decide)(h2:op≠.NotIn:=by decide):Gh op b=false:=by
 have e1:(op==CmpOp.In)=false:=by cases op<;>first|rfl|exact Aa2 rfl h
 have e2:(op==Yh)=false:=by cases op<;>first|rfl|exact Aa2 rfl h2
 cases b<;>simp[Gh,e1,e2]
def aTx{op:Rw}{r:R2}(ho:OpR X (Ee op) r)(ha:PE X a ta)(hb:PE X b tb)(hm:Gh op b=false):PE X (.Compare a [op] [b] pos) (tOp r ta tb):=by
 intro aa s σ H Q I h;exact wpAny_Compare1 (aWt ha hb I h λv u s2 x y H2 I2 rx ry q=>ho aa s2 σ H2 x y v u Q I2 rx ry q) hm
def aRy(t:TE):TT:=λσ H Q=>t σ H λx H1=>rBl x H1 Q
def aBg{op:Rw}{r:R2}(ho:OpR X (Ee op) r)(ha:PE X a ta)(hb:PE X b tb)(hm:Gh op b=false):PT X (.Compare a [op] [b] pos) (aRy (tOp r ta tb)):=by
 intro aa s σ H Q I h;refine Us (thn (ha aa s σ H _ I h) λv s1 ⟨x,H1,I1,r1,q1⟩=>thn (hb aa s1 σ H1 _ I1 q1) λu s2 ⟨y,H2,I2,r2,q2⟩=>
  thn (ho aa s2 σ H2 x y v u _ I2 r1 r2 q2) λc s3 ⟨z,H3,I3,r3,k,e,q3⟩=>?_) hm
 subst e;cases r3;exact Dn #[H3,I3,q3]
def aKa(r r':R2)(ta tb tc:TE):TE:=λσ H Q=>ta σ H λx H1=>tb σ H1 λy H2=>r x y H2 λz H3=>∃k,z=.bl k/\
 (if k=true then tc σ H3 λw' H4=>r' y w' H4 Q else Q (.bl false) H3)
def aQ2{op op':Rw}{r r':R2}(ho:OpR X (Ee op) r)(ho':OpR X (Ee op') r')(ha:PE X a ta)(hb:PE X b tb)(hc:PE X c tc)
  (hm:Ux [op,op'] [b,c]=false:=by with_unfolding_all rfl):PE X (.Compare a [op,op'] [b,c] pos) (aKa r r' ta tb tc):=by
 intro aa s σ H Q I h;refine Compare_chain (thn (ha aa s σ H _ I h) λv s1 ⟨x,H1,I1,r1,q1⟩=>chain_link (thn (hb aa s1 σ H1 _ I1 q1) λu s2 ⟨y,H2,I2,r2,q2⟩=>
  thn (ho aa s2 σ H2 x y v u _ I2 r1 r2 q2) λd s3 ⟨z,H3,I3,r3,k,e,q3⟩=>?_)) hm
 subst e;cases r3;refine Dn ?_;cases k with
 |false=>exact ite_ff #[.bl false,H3,I3,rfl,q3]
 |true=>exact ite_tt (chain_last (thn (hc aa s3 σ H3 _ I3 q3) λw' s4 ⟨z',H4,I4,r4,q4⟩=>ho' aa s4 σ H4 y z' u w' Q I4 r2 r4 q4))
def aRb{op op':Rw}{r r':R2}(ho:OpR X (Ee op) r)(ho':OpR X (Ee op') r')(ha:PE X a ta)(hb:PE X b tb)(hc:PE X c tc)
  (hm:Ux [op,op'] [b,c]=false:=by with_unfolding_all rfl):PT X (.Compare a [op,op'] [b,c] pos) (aRy (aKa r r' ta tb tc)):=by
 intro aa s σ H Q I h;refine isTrue_chain (thn (ha aa s σ H _ I h) λv s1 ⟨x,H1,I1,r1,q1⟩=>test_link (thn (hb aa s1 σ H1 _ I1 q1) λu s2 ⟨y,H2,I2,r2,q2⟩=>
  thn (ho aa s2 σ H2 x y v u _ I2 r1 r2 q2) λd s3 ⟨z,H3,I3,r3,k,e,q3⟩=>?_)) hm
 subst e;cases r3;refine Dn ?_;cases k with
 |false=>
  obtain⟨k',e',q'⟩:=q3;cases e';exact ite_ff #[H3,I3,q']
 |true=>
  refine ite_tt (test_last (thn (hc aa s3 σ H3 _ I3 q3) λw' s4 ⟨z',H4,I4,r4,q4⟩=>thn (ho' aa s4 σ H4 y z' u w' _ I4 r2 r4 q4) λd' s5 ⟨z2,H5,I5,r5,k2,e2,q5⟩=>?_));subst e2;cases r5;exact Dn #[H5,I5,q5]
def aCf:(sizeLine:Nat)<2 ^ 63:=by rw[Ez];decide
def aJu:OpR X (Gw .Add) (λx y H Q=>∃i j,x=.str i/\y=.str j/\i.length+j.length<=sizeLine/\Q (.str (i++j)) H):=by
 intro aa s σ H x y v u Q I rx ry h;obtain⟨i,j,rfl,rfl,hz,q⟩:=h;obtain⟨t,rfl⟩:=rx;obtain⟨t',rfl⟩:=ry;exact add_str (λt' tk=>#[.str (i++j),H,I.tok _,#[_,rfl],q]) hz
def vals1{x:V}(r:Vals [x] us):∃u,us=[u]/\RelV x u:=by
 cases r with
 |cons r1 r2=>cases r2;exact#[_,rfl,r1]
def vals2{x y:V}(r:Vals [x,y] us):∃u w',us=[u,w']/\RelV x u/\RelV y w':=by
 cases r with
 |cons r1 r2=>
  cases r2 with
  |cons r3 r4=>cases r4;exact#[_,_,rfl,r1,r3]
def aL5(hc:X.calm=true):gQ X (.builtin "max") (λxs H Q=>∃i j,xs=[.int i,.int j]/\Q (.int (if j>i then j else i)) H):=by
 intro aa s σ H xs us Q I r h;obtain⟨i,j,rfl,q⟩:=h;obtain⟨u,w',rfl,⟨t,rfl⟩,⟨t',rfl⟩⟩:=vals2 r;refine max_two_ints (I.ok.hd hc) λh' tk k=>#[_,H,I.kept k,?_,q];by_cases hj:j>i
 ·rw[Aa1 hj,Aa1 hj];exact#[_,rfl]
 ·rw[Aa0 hj,Aa0 hj];exact#[_,rfl]
def yL(hc:X.calm=true):gQ X (.builtin "min") (λxs H Q=>∃i j,xs=[.int i,.int j]/\Q (.int (if j<i then j else i)) H):=by
 intro aa s σ H xs us Q I r h;obtain⟨i,j,rfl,q⟩:=h;obtain⟨u,w',rfl,⟨t,rfl⟩,⟨t',rfl⟩⟩:=vals2 r;refine min_two_ints (I.ok.hd hc) λh' tk k=>#[_,H,I.kept k,?_,q];by_cases hj:j<i
 ·rw[Aa1 hj,Aa1 hj];exact#[_,rfl]
 ·rw[Aa0 hj,Aa0 hj];exact#[_,rfl]
def aEa:gQ X (.type "int") (λxs H Q=>(∃i,xs=[.int i]/\Q (.int i) H)∨∃k,xs=[.bl k]/\Q (.int (if k then 1 else 0)) H):=by
 intro aa s σ H xs us Q I r h;rcases h with ⟨i,rfl,q⟩|⟨k,rfl,q⟩
 ·obtain⟨u,rfl,t,rfl⟩:=vals1 r;exact call_int_int #[.int i,H,I,#[_,rfl],q]
 ·obtain⟨u,rfl,r1⟩:=vals1 r;cases r1;exact call_int_bool #[.int (if k then 1 else 0),H,I.tok _,#[_,rfl],q]
end
structure aIq(h:Heap)(x dx C:Addr)(mA:Str->#v[9]):Prop where
 obj:h.get? x=some (Gf C dx)
 ns:h.Ns1 dx mA
 ne:dx≠x
def aMo{h:Heap}{dx:Addr}(n:h.Ns1 dx mA):∃od,h.get? dx=some od/\∀name,Lz name od=some (mA name):=by
 obtain⟨o,es,ep,ho,hd,hk,_,hm⟩:=n;refine#[o,ho,λname=>?_];have e:=hm name;unfold nsFind findBy at e;rw[<-Array.find?_toList]at e;unfold Lz;rw[hd];dsimp only;split
 ·rename_i y q;rw[q]at e;exact Aa9 some e
 ·rename_i q;rw[q]at e;have a:es.toList.any (·.refKey)=false:=by
   rw[List.any_eq_false];intro y hy;obtain⟨z,t,hkey⟩:=hk y (Mo.mp hy);simp[DictEntry.refKey,hkey]
  have a':¬es.toList.any (·.refKey)=true:=by rw[a];exact Au
  rw[Aa0 a'];exact Aa9 some e
def aIq.look{h:Heap}{x dx C:Addr}(I:aIq h x dx C mA):∃od,PySem.W.InstAt h x (Gf C dx) C (some od)/\∀name,Lz name od=some (mA name):=
 let⟨od,ho,hl⟩:=aMo I.ns
 #[od,#[I.obj,rfl,rfl,ho],hl]
variable {prog:Aj}{A:Bp}{E:#v[c]}{K:Ac}{x dx C f:Addr}{mA:Str->#v[9]}{name:Str}{v:Value}
def aSz(X:K.In s.heap)(I:aIq s.heap x dx C mA)(hg:Kt K C name=true)(hh:Ni K C=true)
  (ha:Ea K (.ref C) name=some none) (hv:mA name=some v) (hv':Tf v=true) (h:Q v {s with toks:=s.toks+1}):
  Bc #v[b] A (getAttr (.ref x) name expr) Q E s:=by
 obtain⟨od,J,hl⟩:=I.look;exact PySem.W.get_value X J (Mj hg).1 (PySem.W.findObj_own hh ha rfl (by rw[hl,hv])) hv' h
def aPo(X:K.In s.heap)(I:aIq s.heap x dx C mA)(hg:Kt K C name=true)
  (hf:Ea K (.ref C) name=some (some (.ref f))) (ht:Qq K (.ref f)=true) (hv:mA name=none) (h:Q (.ref f,[.ref x]) s):
  Bc #v[b] A (Ls (.ref x) name pl) Q E s:=by
 obtain⟨od,J,hl⟩:=I.look;exact PySem.W.method_fn X J (Mj hg).1 (Mj hg).2 hf (beq_iff_eq.mp ht) (by show(Lz name od).map (·.isSome)=some false;rw[hl,hv];rfl) h
def aUj(X:K.In s.heap)(I:aIq s.heap x dx C mA)
  (hs:Ea K (.ref C) "__setattr__"=some (some (.builtin "object.__setattr__"))) (hp:Sn K C=true) (ht:Ob K C name=some none) (hh:Ni K C=true)
  (hw:Rq mA ns) (hsz:ns.length<=sizeLine)
  (h:∀h',aIq h' x dx C (λy=>if y=name then some v else mA y)->Em dx s.heap h'->Q () {s with heap:=h',toks:=s.toks+2}):
  Bc #v[b] A (setAttr (.ref x) name v) Q E s:=by
 obtain⟨od,J,hl⟩:=I.look;refine PySem.W.set_plain X J hs (PySem.W.osa_open (s:={s with toks:=s.toks+1}) (r:=none) X J hp ht λb=>?_);obtain⟨cd,hc,hd'⟩:=PySem.W.any_some hh;have hx:s.heap.get? x=some #[.ref C,some dx,.plain, (List.toArray [])]:=I.obj;refine Aa (Ad (Aa (Aa (wpAny_loadPart hx (Aa (Yb (s:={s with toks:=s.toks+1}) (PySem.W.looks_clsIn X hc) ?_))))));rw[hd'];refine Ad (a:=some dx) (Aa (Ad (Aa ?_)));refine wpAny_nsSet1 (s:={s with toks:=s.toks+1}) I.ns λh' hn2 hs2=>?_;obtain⟨oD,esD,epD,hoD,hdD,hcD⟩:=hn2.count (Yr name v hw);refine Aa (wpAny_lookBehind hoD (by rw[hdD];exact pastItsLine_dict (Bs hcD (by rw[An];lia))) ?_);exact Ad (h _ #[(hs2.2 _ (Cq I.ne)).trans I.obj,hn2,I.ne] hs2)
def aPy(X:K.In s.heap)(hm:Oc K C=true)
  (hi:Ea K (.ref C) "__init__"=some (some (.ref f))) (hf:PySem.W.typeIn K (.ref f)=some (.type "function"))
  (h:Ii #v[b] (A.under (.builtin "type.__call__" #[.ref C::vs,kw])) (.call (.ref f) #[.ref (#v[0]+1)::vs,kw]) (PySem.W.InitBack (#v[0]+1) R)
   {s with heap:=(s.heap.push Eo).push (Gf C #v[0])}):
  Ii #v[b] A (.call (.ref C) #[vs,kw]) R s:=by
 obtain⟨hh,g,d,t,os⟩:=s;exact PySem.W.make_core (PySem.W.makes_of X hm) (PySem.W.looks_findIn X hi) (λself=>PySem.W.bind_fn X self hf) (.inl rfl) h
def lJ(f:Str)(v:V):List (Str×V)->List (Str×V)
 | []=>[(f,v)]
 |(g,x)::r=>if g=f then(g,v)::r else(g,x)::lJ f v r
theorem aAc(f g:Str)(v:V):∀fs:List (Str×V),(lJ f v fs).lookup g=if g=f then some v else fs.lookup g
 | []=>by
  show Gm g [(f,v)]=_;by_cases h:g=f
  ·have hb:(g==f)=true:=beq_iff_eq.mpr h;simp only[Gm,hb,Aa1 h]
  ·have hb:(g==f)=false:=beq_eq_false_iff_ne.mpr h;simp only[Gm,hb,Aa0 h]
 |(k,x)::r=>by
  have ih:=aAc f g v r;rw[show lJ f v ((k,x)::r)=(if k=f then(k,v)::r else(k,x)::lJ f v r)from rfl];by_cases hk:k=f
  ·rw[Aa1 hk];by_cases h:g=k
   ·have hb:(g==k)=true:=beq_iff_eq.mpr h;simp only[Gm,hb,Aa1 (h.trans hk)]
   ·have hb:(g==k)=false:=beq_eq_false_iff_ne.mpr h;simp only[Gm,hb,Aa0 (λe:g=f=>h (e.trans hk.symm))]
  ·rw[Aa0 hk];by_cases h:g=k
   ·have hb:(g==k)=true:=beq_iff_eq.mpr h;simp only[Gm,hb,Aa0 (λe:g=f=>hk (h.symm.trans e))]
   ·have hb:(g==k)=false:=beq_eq_false_iff_ne.mpr h;simp only[Gm,hb];exact ih
theorem yU(f:Str)(v:V):∀fs:List (Str×V),f∈(lJ f v fs).map (·.1)/\∀g,g∈fs.map (·.1)->g∈(lJ f v fs).map (·.1)
 | []=>#[by simp[lJ],λg h=>by simp at h]
 |(k,x)::r=>by
  obtain⟨i1,i2⟩:=yU f v r;rw[show lJ f v ((k,x)::r)=(if k=f then(k,v)::r else(k,x)::lJ f v r)from rfl];by_cases hk:k=f
  ·rw[Aa1 hk];subst hk;exact#[by simp,λg h=>by simpa using h]
  ·rw[Aa0 hk];refine#[?_,λg h=>?_]
   ·rw[Br];exact Ah _ i1
   ·rw[Br]at h⊢;rcases Ax.mp h with e|e
    ·exact Ax.mpr (.inl e)
    ·exact Ah _ (i2 g e)
theorem aAb(f:Str)(v:V):∀fs:List (Str×V),(lJ f v fs).length<=fs.length+1
 | []=>by simp[lJ]
 |(k,x)::r=>by
  have ih:=aAb f v r;rw[show lJ f v ((k,x)::r)=(if k=f then(k,v)::r else(k,x)::lJ f v r)from rfl];by_cases hk:k=f
  ·rw[Aa1 hk,An,An];lia
  ·rw[Aa0 hk,An,An];lia
def uU.some_of{v:V}{o:#v[9]}(r:uU (some v) o):∃u,o=some u/\RelV v u:=by
 cases o with
 |none=>exact(show False from r).elim
 |some u=>exact#[u,rfl,r]
def uU.none_of{o:#v[9]}(r:uU none o):o=none:=by
 cases o with
 |none=>rfl
 |some u=>exact(show False from r).elim
def aMh{v:V}(r:RelV v u):Tf u=true:=by
 cases v with
 |non=>cases (show u=Cg from r);rfl
 |bl b=>cases (show u=Kq b from r);rfl
 |int i=>obtain⟨t,e⟩:=(show∃t,u=Dx i t from r);cases e;rfl
 |str x=>obtain⟨t,e⟩:=(show∃t,u=Ot x t from r);cases e;rfl
 |byt b=>obtain⟨t,e⟩:=(show∃t,u=Xz b t from r);cases e;rfl
 |flt b=>obtain⟨t,e⟩:=(show∃t,u=Sm b t from r);cases e;rfl
 |ref a=>cases (show u=Ao a from r);rfl
 |ty n=>cases (show u=Kp n from r);rfl
variable {fs fs':List (Str×V)}
def aA7(hok:HOk P w H h)(e:H a=some (.ins C dx fs)):∃mA,aIq h a dx C mA/\(∀f,uU (fs.lookup f) (mA f))/\Rq mA (fs.map (·.1))/\fs.length<=1000/\H dx=some (.own a):=by
 obtain⟨d,z,ne,ob,mA,n,r,q⟩:=(show bL P w H h a (.ins C dx fs)from hok a _ e);exact#[mA,#[ob,n,ne],r,q,z,d]
structure Cls(K:Ac)(C:Addr):Prop where
 pg:Kt K C Str.empty=true
 hd:Ni K C=true
 po:Sn K C=true
 sa:Ea K (.ref C) "__setattr__"=some (some (.builtin "object.__setattr__"))
def Cls.get{K:Ac}{C:Addr}(c:Cls K C)(f:Str):Kt K C f=true:=c.pg
def nG(K:Ac)(C:Addr)(f:Str):Prop:=Ea K (.ref C) f=some none
def nG.taker{K:Ac}{C:Addr}{f:Str}(n:nG K C f):Ob K C f=some none:=by
 unfold Ob;rw[show Ea K (.ref C) f=some none from n];rfl
structure Meth(K:Ac)(C:Addr)(m:Str)(f:Addr):Prop where
 at_:Ea K (.ref C) m=some (some (.ref f))
 fn:Qq K (.ref f)=true
 kp:Hi K (.ref f)=true
section
variable {X:Cx}{aa:#v[4]}{σ:St}{H:Hp}{s:Ai}{a C dx:Addr}{fs:List (Str×V)}{f:Str}{v:V}{A:Bp}{E:#v[c]}
def aJf{b:Bool}(I:#v[3])(e:H a=some (.ins C dx fs))(c:Cls X.K C)(n:nG X.K C f)(l:fs.lookup f=some v)
  (h:∀u s',Inv X aa σ H s'->RelV v u->Q u s'):Bc #v[a] A (getAttr (.ref a) f b) Q E s:=by
 obtain⟨mA,O,r,_,_,_⟩:=aA7 I.hok e;obtain⟨u,hu,ru⟩:=uU.some_of (v:=v) (o:=mA f) (by rw[<-l];exact r f);exact aSz I.kIn O (c.get f) c.hd n hu (aMh ru) (h u _ (I.tok _) ru)
def vR{g:Addr}(I:#v[3])(e:H a=some (.ins C dx fs))(c:Cls X.K C)(k:Meth X.K C m g)(l:fs.lookup m=none)
  (h:Q (.ref g,[.ref a]) s):Bc #v[a] A (Ls (.ref a) m pl) Q E s:=by
 obtain⟨mA,O,r,_,_,_⟩:=aA7 I.hok e;have hn:mA m=none:=uU.none_of (by rw[<-l];exact r m);exact aPo I.kIn O (c.get m) k.at_ k.fn hn h
def aJ6(I:#v[3])(e:H a=some (.ins C dx fs))(c:Cls X.K C)(n:nG X.K C f)(hl:fs.length<1000)(ry:RelV y u)
  (h:∀s',Inv X aa σ (upd H a (.ins C dx (lJ f y fs))) s'->Q () s'):Bc #v[a] A (setAttr (.ref a) f u) Q E s:=by
 obtain⟨mA,O,r,wi,_,ho⟩:=aA7 I.hok e;have hz:(fs.map (·.1)).length<=sizeLine:=by rw[Ab,Ez];lia
 refine aUj I.kIn O c.sa c.po n.taker c.hd wi hz λh' O' sb=>h _ ?_;have hd:∃o,h'.get? dx=some o:=let⟨o,_,_,e',_⟩:=O'.ns;#[o,e'];refine I.write (x:=a) (e:=dx) (by rw[e];exact Er) (.inr ho) (λb q hb z=>(sb.2 b hb).trans z) hd ?_;refine#[by rw[aJ O.ne];exact ho,?_,O.ne,O'.obj,_,O'.ns,λg=>?_,λg hg=>?_]
 ·have:=aAb f y fs;lia
 ·show uU ((lJ f y fs).lookup g) (if g=f then some u else mA g);rw[aAc];by_cases q:g=f
  ·rw[Aa1 q,Aa1 q];exact ry
  ·rw[Aa0 q,Aa0 q];exact r g
 ·by_cases q:g=f
  ·rw[q];exact(yU f y fs).1
  ·refine(yU f y fs).2 g (wi g λz=>hg ?_);show(if g=f then some u else mA g)=none;rw[Aa0 q];exact z
def Inv.made(I:#v[3]):Inv X aa σ (upd (upd H #v[0] (.own (#v[0]+1))) (#v[0]+1) (.ins C #v[0] []))
  {s with heap:=(s.heap.push Eo).push (Gf C #v[0])}:=by
 have e1:(s.heap.push Eo).get? #v[0]=some Eo:=Ar s.heap rfl;have e2:((s.heap.push Eo).push (Gf C #v[0])).get? (#v[0]+1)=some (Gf C #v[0]):=by
  have:=Ar (s.heap.push Eo) (o:=Gf C #v[0]) rfl
  rwa [Cw]at this
 have e3:(s.heap.push Eo).Ns #v[0] (λ_=>none):=#[Eo, (List.toArray []),_,e1,rfl,(λe he=>Aa2 he (by simp)),λ_=>rfl];have I1:=I.laid (a:=#v[0]) (o:=.own (#v[0]+1)) (h':=s.heap.push Eo) (t':=s.toks) (λb u q=>Ae _ q) (Am _) #[_,e1];refine I1.laid (a:=#v[0]+1) (o:=.ins C #v[0] []) (t':=s.toks) (λb u q=>Ae _ q) (Ss (Cw _ _)) ?_;have ne:#v[0]≠#v[0]+1:=Aw (Ge _);refine#[by rw[aJ ne,aL],Bt _,ne,e2,λ_=>none,(Heap.Ns1.of_empty e3).at λo q=>Ae _ q,λ_=>Er,λy hy=>Aa2 rfl hy]
def aSp{prog:Aj}{w:Bd}{e:Bu}{f:Str}{pos:Pos}{s:Ai}(hb:Gi e f env (eval e env)=eval e env)
  (h:Bc #v[b] A (eval e env) (λo s₁=>Bc #v[b] A (getAttr o f true) Q E s₁) E s):Bc #v[b] A (eval (.Attribute e f pos) env) Q E s:=
 Attribute_any_ h (by rw[arm_eval_Attribute,hb])
end
def bC9(K:Ac)(ta:TE)(f:Str):TE:=λσ H Q=>ta σ H λx H1=>∃a C dx fs v,x=.ref a/\H1 a=some (.ins C dx fs)/\Cls K C/\nG K C f/\fs.lookup f=some v/\Q v H1
def bC7(K:Ac)(ta tv:TE)(f:Str):TS:=λD σ H=>tv σ H λy H1=>ta σ H1 λx H2=>∃a C dx fs,x=.ref a/\H2 a=some (.ins C dx fs)/\Cls K C/\nG K C f/\fs.length<1000/\
 D.nx σ (upd H2 a (.ins C dx (lJ f y fs)))
section
variable {X:Cx}{o e value:Bu}{f:Str}{pos pos' tpos:Pos}{ta tv:TE}
def aXp(he:PE X e ta)(hb:Gi e f X.env (eval e X.env)=eval e X.env):PE X (.Attribute e f pos) (bC9 X.K ta f):=by
 intro aa s σ H Q I h;refine aSp hb (thn (he aa s σ H _ I h) λu s1 ⟨x,H1,I1,rx,a,C,dx,fs,v,ex,ea,c,n,l,q⟩=>?_);subst ex;obtain rfl:u=Ao a:=rx;exact aJf I1 ea c n l λu' s2 I2 ru=>#[v,H1,I2,ru,q]
def fG(ha:PE X o ta)(hv:PE X value tv)(hs:Ed value (some (.Attribute o f pos')) pos.line X.env=pure false):PS X (.Assign [.Attribute o f pos'] value pos) (bC7 X.K ta tv f):=by
 intro aa s σ H D I h;refine plainObj_wpAny_Assign_Attribute (thn (hv aa s σ H _ I h) λu s1 ⟨y,H1,I1,ry,q⟩=>thn (ha aa s1 σ H1 _ I1 q) λov s2 ⟨x,H2,I2,rx,a,C,dx,fs,ex,ea,c,n,l,q2⟩=>?_) hs;subst ex;obtain rfl:ov=Ao a:=rx;exact aJ6 I2 ea c n l ry λs3 I3=>#[σ,_,I3,q2]
end
section
variable {X:Cx}{aa:#v[4]}{σ:St}{H:Hp}{s:Ai}{A:Bp}{E:#v[c]}{Q:#v[c]}{c:Value}{b:Bool}
inductive wN(K:Ac)(H:Hp):V->Value->Prop where
 |non:wN K H .non (.type "NoneType")
 |bl (x:Bool):wN K H (.bl x) (.type "bool")
 |int (i:Int):wN K H (.int i) (.type "int")
 |str (x:Str):wN K H (.str x) (.type "str")
 |flt (x:UInt64):wN K H (.flt x) (.type "float")
 |lst {a:Addr} {xs:List V} (e:H a=some (.lst xs)):wN K H (.ref a) (.type "list")
 |frz {a:Addr} {o:Obj} {xs:List V} (e:H a=some (.frz o (.lst xs))):wN K H (.ref a) (.type "list")
 |tup {a:Addr} {xs:List V} (e:H a=some (.tup xs)):wN K H (.ref a) (.type "tuple")
 |dK {a:Addr} {ab:List (Key×V)} (e:H a=some (.dK ab)):wN K H (.ref a) (.type "dict")
 |dT {a:Addr} {ab:List (List Key×V)} (e:H a=some (.dT ab)):wN K H (.ref a) (.type "dict")
 |ins {a C dx:Addr} {fs:List (Str×V)} (e:H a=some (.ins C dx fs)) (cl:Cls K C) (ha:Ea K (.ref C) "__class__"=some (some (.builtin "object.__class__")))
   (hn:PySem.W.specialIn K (.builtin "object.__class__") "__get__"=some (some (.builtin "getset_descriptor.__get__"))) (htk:PySem.W.takesIn K (.builtin "object.__class__")=some true)
   (hm:PySem.W.mroIn K C (.type "object")=some true):wN K H (.ref a) (.ref C)
def aMj{x:V}{u t:Value}(I:#v[3])(rx:RelV x u)(ty:wN X.K H x t)(e:Ov X.K t c=some b)(h:∀tk,Q (.bool b) {s with toks:=tk}):
  Bc #v[a] A (call (.builtin "isinstance") [u,c]) Q E s:=by
 cases ty with
 |non=>cases (show u=Cg from rx);exact Ec PySem.W.kitx_none I.kIn Er e (λz=>nomatch z) h
 |bl y=>cases (show u=Kq y from rx);exact Ec PySem.W.kitx_bool I.kIn Er e (λz=>nomatch z) h
 |int i=>obtain⟨t,q⟩:=(show∃t,u=Dx i t from rx);cases q;exact Ec PySem.W.kitx_int I.kIn Er e (λz=>nomatch z) h
 |str y=>obtain⟨t,q⟩:=(show∃t,u=Ot y t from rx);cases q;exact Ec PySem.W.kitx_str I.kIn Er e (λz=>nomatch z) h
 |flt y=>obtain⟨t,q⟩:=(show∃t,u=Sm y t from rx);cases q;exact Ec PySem.W.kitx_float I.kIn Er e (λz=>nomatch z) h
 |@lst a xs ea=>
  cases (show u=Ao a from rx);obtain⟨_,_,n,_,h1⟩:=(show bL X.prog X.w H s.heap a (.lst xs)from I.hok a _ ea);exact Ec So I.kIn #[_,h1,rfl] e (λz=>nomatch z) h
 |@frz a ob xs ea=>
  cases (show u=Ao a from rx);obtain⟨_,_,_,n,_,h1⟩:=(show bL X.prog X.w H s.heap a (.frz ob (.lst xs))from I.hok a _ ea);exact Ec So I.kIn #[_,h1,rfl] e (λz=>nomatch z) h
 |@tup a xs ea=>
  cases (show u=Ao a from rx);obtain⟨_,_,_,p⟩:=(show bL X.prog X.w H s.heap a (.tup xs)from I.hok a _ ea);obtain⟨o,h1,h2,_⟩:=p;exact Ec PySem.W.kitx_tuple I.kIn #[o,h1,h2] e (λz=>nomatch z) h
 |@dK a ab ea=>
  cases (show u=Ao a from rx);obtain⟨_,_,vs,_,p⟩:=(show bL X.prog X.w H s.heap a (.dK ab)from I.hok a _ ea);obtain⟨o,es,ep,h1,h2,_⟩:=p;exact Ec Sq I.kIn #[o,h1,h2.1] e (λz=>nomatch z) h
 |@dT a ab ea=>
  cases (show u=Ao a from rx);obtain⟨_,_,xs,_,o,es,ep,h1,h2,_⟩:=(show bL X.prog X.w H s.heap a (.dT ab)from I.hok a _ ea);exact Ec Sq I.kIn #[o,h1,h2.1] e (λz=>nomatch z) h
 |@ins a C dx fs ea cl ha hn htk hm=>
  cases (show u=Ao a from rx);obtain⟨mA,O,_⟩:=aA7 I.hok ea;obtain⟨od,J,_⟩:=O.look;exact Ec (PySem.W.kitx_own (cl.get _) cl.hd ha hn htk hm) I.kIn J e (λz=>nomatch z) h
end
structure cV(k:Nat)(A:Bp):Prop where
 hd:A.handled=none
 dp:A.depth+3*k+5<recursionLimit
 un:A.units+16*k+200<cLine
def cV.mono{j k:Nat}{A:Bp}(r:cV k A)(h:j<=k):cV j A:=#[r.hd,by have:=r.dp;lia,by have:=r.un;lia]
def cV.deeper{A:Bp}(r:cV (k+1) A)(env:Env):cV k (A.deeper env):=
 #[r.hd,by have:=r.dp;show A.depth+1+3*k+5<_;lia,by have:=r.un;show A.units+3+16*k+200<_;lia]
def aJl{A:Bp}{C:Addr}:(A.under (.builtin "type.__call__" #[.ref C::us,kw])).depth=A.depth+1:=by
 first|rfl|simp[Rf,Code.weight,Code.isCreation,Code.isGuard,Code.isCaller,Ze,Sd,guardIds]
def aJm{A:Bp}{C:Addr}:(A.under (.builtin "type.__call__" #[.ref C::us,kw])).units=A.units+1:=by
 first|rfl|simp[Rf,Code.cUnits,Ze,Sd]
def cV.make{A:Bp}(r:cV (k+1) A)(C:Addr)(us:List Value)(kw:List (Str×Value)):cV k (A.under (.builtin "type.__call__" #[.ref C::us,kw])):=
 #[r.hd,by have:=r.dp;rw[aJl];lia,by have:=r.un;rw[aJm];lia]
def cV.depth{A:Bp}(r:cV k A):A.depth<recursionLimit:=by have:=r.dp;lia
def cV.units{A:Bp}(r:cV k A):A.units+64<cLine:=by have:=r.un;lia
def aUn:TA:=λ_ H Q=>Q [] H
def aRx(ta:TE)(tr:TA):TA:=λσ H Q=>ta σ H λx H1=>tr σ H1 λxs H2=>Q (x::xs) H2
section
variable {X:Cx}{e:Bu}{es:List Bu}{te:TE}{t:TA}{pos:Pos}
def iZ:PA X [] aUn:=λ_ _ _ _ H Q I h=>Uh #[[],H,I,.nil,h]
def dW(ha:PE X e te)(hr:PA X es t)(hs:SE X e es:=by rfl):PA X (e::es) (aRx te t):=by
 intro pos aa s σ H Q I h;rw[hs];show Bc _ _ (spliced ((false,eval e X.env)::Im pos (Bz es X.env))) _ _ s;refine Tp (thn (ha aa s σ H _ I h) λu s1 ⟨x,H1,I1,r1,q1⟩=>?_);exact thn (hr pos aa s1 σ H1 _ I1 q1) λus s2 ⟨xs,H2,I2,r2,q2⟩=>#[x::xs,H2,I2,.cons r1 r2,q2]
def bDg(t:TA):TE:=λσ H Q=>t σ H λxs H1=>xs.length<=sizeLine/\∀p,H1 p=none->Q (.ref p) (upd H1 p (.tup xs))
def bDc(t:TA):TE:=λσ H Q=>t σ H λxs H1=>xs.length<=sizeLine/\∀p,H1 p=none->Q (.ref p) (upd H1 p (.lst xs))
def aXu{x1}(h:PA X es t):PE X (.Tuple es x1 pos) (bDg t):=by
 intro aa s σ H Q I hq;refine wpAny_Tuple_spliced (thn (h pos aa s σ H _ I hq) λus s1 ⟨xs,H1,I1,r,z,q⟩=>#[by rw[<-r.length];exact z,?_]);have hf:H1 s1.heap.objs.size=none:=I1.hok.fresh (Am _);refine#[.ref s1.heap.objs.size,upd H1 s1.heap.objs.size (.tup xs),I1.laid (t':=s1.toks) (λb u e=>Ae _ e) (Am _) ?_,rfl,q _ hf];exact#[z,us,r,#[_,Ar _ rfl,rfl,_,rfl]]
def aXq(h:PA X es t):PE X (.List es pos) (bDc t):=by
 intro aa s σ H Q I hq;refine wpAny_List_spliced (thn (h pos aa s σ H _ I hq) λus s1 ⟨xs,H1,I1,r,z,q⟩=>#[by rw[<-r.length];exact z,?_]);have hf:H1 s1.heap.objs.size=none:=I1.hok.fresh (Am _);refine#[.ref s1.heap.objs.size,upd H1 s1.heap.objs.size (.lst xs),I1.laid (t':=s1.toks) (λb u e=>Ae _ e) (Am _) ?_,rfl,q _ hf];exact#[z,us,0,r,Ar _ rfl]
end
abbrev Sp:=List V->Hp->VK->XK->Prop
abbrev CXT:=List Env->Hp->Ai->XK->Value->Ai->Prop
structure aGj(P:Aj)(w:Bd)(K:Ac)(mg:Str->#v[9])(base:Heap)(A:Bp)(outer:List Env)(s:Ai)(H:Hp):Prop where
 frames:A.frames=some outer
 mod:Mod K mg base
 bs:∀b o,base.get? b=some o->s.heap.get? b=some o/\H b=none
 bsz:base.objs.size<=#v[0]
 funs:s.heap.FunFrames base outer
 frf:∀b∈frs outer,H b=none
 hok:HOk P w H s.heap
 bare:Og s.gens
def CE(outer:List Env)(P:Aj)(w:Bd)(H:Hp)(s:Ai)(Q:VK)(u:Value)(s':Ai):Prop:=
 ∃v H',s'.os=s.os/\Og s'.gens/\Un (frs outer) [] H H' s.heap s'.heap/\HOk P w H' s'.heap/\RelV v u/\Q v H'
def CR(CX:CXT)(outer:List Env)(P:Aj)(w:Bd)(H:Hp)(s:Ai)(Q:VK)(E:XK)(r:Ou)(s':Ai):Prop:=
 match r with
 |.ok (.ret u)=>CE outer P w H s Q u s'
 |.ok _=>False
 |.error e=>CX outer H s E e s'
structure aX(P:Aj)(w:Bd)(K:Ac)(mg:Str->#v[9])(base:Heap)(CX:CXT)(k:Nat)(f:Addr)(fd:FuncData)(ps:List Str)(sp:Sp):Prop where
 len:∀vs H Q E,sp vs H Q E->vs.length=ps.length
 run:∀(A:Bp)(outer:List Env)(s:Ai)(H:Hp)(args:Args)(us:List Value)(vs:List V)(Q:VK)(E:XK),cV k A->aGj P w K mg base A outer s H->Ui s fd args (ps.zip us)->Vals vs us->sp vs H Q E->
  Ii (model P w) A (.call (.ref f) args) (CR CX outer P w H s Q E) s
def aX.mono{P:Aj}{w:Bd}{K:Ac}{CX:CXT}{j k:Nat}{f:Addr}{fd:FuncData}{ps:List Str}{sp:Sp}(F:aX P w K mg base CX j f fd ps sp)(h:j<=k):
  aX P w K mg base CX k f fd ps sp:=#[F.len,λA outer s H args us vs Q E hr=>F.run A outer s H args us vs Q E (hr.mono h)]
def aGj.make{P:Aj}{w:Bd}{K:Ac}{A:Bp}{outer:List Env}{s:Ai}{H:Hp}(e:aGj P w K mg base A outer s H)(C:Addr)(us:List Value)(kw:List (Str×Value)):
  aGj P w K mg base (A.under (.builtin "type.__call__" #[.ref C::us,kw])) outer s H:=#[by first|exact e.frames|(simpa[Rf,Code.envs,Sd,pushEnvs]using e.frames),e.mod,e.bs,e.bsz,e.funs,e.frf,e.hok,e.bare]
section
variable {X:Cx}{aa:#v[4]}{σ:St}{H:Hp}{s s':Ai}
def Inv.env0(I:#v[3]):aGj X.prog X.w X.K X.mg X.base X.A X.stack s H:=
 #[I.ok.frames,I.ok.mod,I.bs,Bs I.ok.bsz I.sz,I.stack,I.stkFree,I.hok,I.bare]
def Inv.after(I:#v[3])(h:CE X.stack X.prog X.w H s Q u s'):EP X aa σ Q u s':=by
 obtain⟨v,H',os,bare,un,hok,r,q⟩:=h;obtain⟨hh,g,d,t,os'⟩:=s';obtain rfl:os'=s.os:=os;exact#[v,H',I.call (h':=hh) (g':=g) (d':=d) (t':=t) (ch:=[]) un hok bare (λb z=>Aa2 z (by simp)),r,q]
end
def aWe(sp:Sp)(dvs:List V)(E:XK)(t:TA):TE:=λσ H Q=>t σ H λvs H1=>sp (vs++dvs) H1 Q E
def bBk(C:Addr)(sp:Sp)(dvs:List V)(E:XK)(t:TA):TE:=λσ H Q=>t σ H λvs H1=>∀x dx,H1 x=none->H1 dx=none->dx≠x->
 sp (.ref x::(vs++dvs)) (upd (upd H1 dx (.own x)) x (.ins C dx [])) (λv H2=>v=.non/\Q (.ref x) H2) E
def Binds(K:Ac)(fd:FuncData)(ps:List Str)(ds:List Value):Prop:=
 ∀(s:Ai)(us:List Value),K.In s.heap->(us++ds).length=ps.length->Ui s fd #[us,[]] (ps.zip (us++ds))
def Binds.all{K:Ac}{fd:FuncData}{ps:List Str}(h:∀us:List Value,us.length=ps.length->Fd fd #[us,[]]=pure (ps.zip us)):Binds K fd ps []:=λs us _ hl=>by
 rw[Bi]at hl⊢;exact .of_eq (h us hl)
def tD(CX:CXT)(X:Cx)(E:XK):Prop:=∀(aa:#v[4])(σ:St)(H:Hp)(s:Ai)(e:Value)(s':Ai),#v[3]->CX X.stack H s E e s'->X.xe e s'
section
variable {X:Cx}{CX:CXT}{k:Nat}{f C:Addr}{fd:FuncData}{ps:List Str}{sp:Sp}{dvs:List V}{ds:List Value}{E:XK}{x m:Str}{p pos apos:Pos}{e o:Bu}{es:List Bu}{ta:TE}{t:TA}
def aF1{aa:#v[4]}{σ:St}{H:Hp}{s:Ai}(F:aX X.prog X.w X.K X.mg X.base CX k f fd ps sp)(hr:cV k X.A)(hb:Binds X.K fd ps ds)(hd:Vals dvs ds)(hx:tD CX X E)
  (I:#v[3]) (r:Vals vs us) (h:sp (vs++dvs) H Q E):Bc #v[a] X.A (call (.ref f) us) (EP X aa σ Q) X.xe s:=by
 have r2:Vals (vs++dvs) (us++ds):=r.append hd;have hl:(us++ds).length=ps.length:=by rw[<-r2.length];exact F.len _ _ _ _ h
 refine Pj (Jt (F.run X.A X.stack s H #[us,[]] (us++ds) (vs++dvs) Q E hr I.env0 (hb s us I.kIn hl) r2 h) λr s' hq=>?_);cases r with
 |error e=>exact hx aa σ H s e s' I hq
 |ok fl=>
  cases fl with
  |ret u=>exact I.after hq
  |next=>exact Eg hq
  |brk=>exact Eg hq
  |cont=>exact Eg hq
def aTw(F:aX X.prog X.w X.K X.mg X.base CX k f fd ps sp)(hr:cV k X.A)(hg:Gl X x)(hm:X.mg x=some (.ref f))(hk:Hi X.K (.ref f)=true)(hb:Binds X.K fd ps ds)(hd:Vals dvs ds)(hx:tD CX X E)
  (ha:PA X (e::es) t) (hdb:ND x:=by decide) (he:SE X e es:=by rfl) (hpl:BT X pos es:=by rfl):
  PE X (.Call (.Name x p) (e::es) [] pos) (aWe sp dvs E t):=by
 intro aa s σ H Q I h;refine Hf (aFu I hg hm ?_ hdb);refine Jv (h₀:=X.base) I.ok.mod.kin hk (thn (ha pos aa s σ H _ I h) λus s1 ⟨vs,H1,I1,r,q⟩=>#[I1.kIn,?_]) he hpl;exact aF1 F hr hb hd hx I1 r q
structure Mk(K:Ac)(C f:Addr):Prop where
 makes:Oc K C=true
 init:Ea K (.ref C) "__init__"=some (some (.ref f))
 fn:Qq K (.ref f)=true
 kp:Hi K (.ref C)=true
def aRr{aa:#v[4]}{σ:St}{H:Hp}{s:Ai}(M:Mk X.K C f)(F:aX X.prog X.w X.K X.mg X.base CX k f fd ps sp)(hr:cV (k+1) X.A)(hb:Binds X.K fd ps ds)(hd:Vals dvs ds)
  (hx:tD CX X E) (I:#v[3]) (r:Vals vs us)
  (h:∀x dx,H x=none->H dx=none->dx≠x->sp (.ref x::(vs++dvs)) (upd (upd H dx (.own x)) x (.ins C dx [])) (λv H2=>v=.non/\Q (.ref x) H2) E):
  Bc #v[a] X.A (call (.ref C) us) (EP X aa σ Q) X.xe s:=by
 have hq:=h (#v[0]+1) #v[0] (I.hok.fresh (Iy _)) (I.hok.fresh (Am _)) (Aw (Ge _));have I2:=Inv.made (C:=C) I;have r2:Vals (V.ref (#v[0]+1)::(vs++dvs)) (Ao (#v[0]+1)::(us++ds)):=.cons rfl (r.append hd);have hl:(Ao (#v[0]+1)::us++ds).length=ps.length:=by
  have e:=r2.length;rw[F.len _ _ _ _ hq]at e;exact e.symm
 refine Pj (aPy (f:=f) I.kIn M.makes M.init (beq_iff_eq.mp M.fn) (Jt (F.run _ X.stack _ _ #[Ao (#v[0]+1)::us,[]] (Ao (#v[0]+1)::(us++ds)) _ _ E (hr.make C us [])
  (I2.env0.make C us []) (hb _ (Ao (#v[0]+1)::us) I2.kIn hl) r2 hq) λr s' hq'=>?_))
 cases r with
 |error e=>exact hx aa σ _ _ e s' I2 hq'
 |ok fl=>
  cases fl with
  |ret u=>
   obtain⟨v,H',I3,rv,ev,q3⟩:=I2.after hq';subst ev;exact#[rv,#[V.ref (#v[0]+1),H',I3,rfl,q3]]
  |next=>exact Eg hq'
  |brk=>exact Eg hq'
  |cont=>exact Eg hq'
def aT2(M:Mk X.K C f)(F:aX X.prog X.w X.K X.mg X.base CX k f fd ps sp)(hr:cV (k+1) X.A)(hg:Gl X x)(hm:X.mg x=some (.ref C))(hb:Binds X.K fd ps ds)(hd:Vals dvs ds)(hx:tD CX X E)
  (ha:PA X (e::es) t) (hdb:ND x:=by decide) (he:SE X e es:=by rfl) (hpl:BT X pos es:=by rfl):
  PE X (.Call (.Name x p) (e::es) [] pos) (bBk C sp dvs E t):=by
 intro aa s σ H Q I h;refine Hf (aFu I hg hm ?_ hdb);refine Jv (h₀:=X.base) I.ok.mod.kin M.kp (thn (ha pos aa s σ H _ I h) λus s1 ⟨vs,H1,I1,r,q⟩=>#[I1.kIn,?_]) he hpl;exact aRr M F hr hb hd hx I1 r q
end
def PK(X:Cx)(kws:List Ij)(t:TA):Prop:=
 ∀(pos:Pos)(aa:#v[4])(s:Ai)(σ:St)(H:Hp)(Q:List V->Hp->Prop),#v[3]->t σ H Q->Bc #v[a] X.A (evalAll ((Ft pos (Cz kws X.env)).map (·.2))) (AP X aa σ Q) X.xe s
section
variable {X:Cx}{CX:CXT}{k:Nat}{f C:Addr}{fd:FuncData}{ps ks:List Str}{sp:Sp}{E:XK}{x m:Str}{p pos apos kpos:Pos}{e o:Bu}{es:List Bu}{kws:List Ij}{te ta:TE}{t tk:TA}{nm:Option Str}
def aXw:PK X [] aUn:=λ_ _ _ _ H Q I h=>wpAny_evalAll_nil #[[],H,I,.nil,h]
def aT7(ha:PE X e te)(hr:PK X kws t):PK X (#[nm,e,kpos]::kws) (aRx te t):=by
 intro pos aa s σ H Q I h;show Bc _ _ (evalAll ((do let v<-eval e X.env;Mg pos;pure v)::(Ft pos (Cz kws X.env)).map (·.2))) _ _ s;refine wpAny_evalAll_cons (Aa (thn (ha aa s σ H _ I h) λu s1 ⟨x,H1,I1,r1,q1⟩=>Aa (Md (Ad ?_))));exact thn (hr pos aa s1 σ H1 _ I1 q1) λus s2 ⟨xs,H2,I2,r2,q2⟩=>#[x::xs,H2,I2,.cons r1 r2,q2]
variable {g:List Value->List Value->List Value}{gV:List V->List V->List V}
end
structure aK(N P:List Str)(sc:Scope):Prop where
 kind:sc.kind=.function:=by rfl
 co:sc.isCoroutine=false:=by rfl
 gen:sc.isGenerator=false:=by rfl
 nd:N.Nodup:=by decide+kernel
 pre:N.take P.length=P:=by rfl
 par:∀x∈P,sc.names.lookup x=some .local∨sc.names.lookup x=some .cell:=by decide+kernel
 nofree:∀y∈sc.names,y.2≠.free:=by decide+kernel
theorem aD8{kindOf:Str->Option Iz}{x:Str}:∀{binds:List (Str×Value)}{m:Str->#v[9]},(∀v,(x,v)∉binds)->Xw kindOf binds m x=m x
 | [],_,_=>rfl
 |(n,v)::r,m,h=>by
  unfold Xw;rw[aD8 λw hw=>h w (Ah _ hw)];split
  ·have:x≠n:=by rintro rfl;exact h v Ag
   simp[this]
  ·rfl
theorem aD6{kindOf:Str->Option Iz}{x:Str}:∀{binds:List (Str×Value)}{m:Str->#v[9]},(∀v,(x,v)∉binds)->Xx kindOf binds m x=m x
 | [],_,_=>rfl
 |(n,v)::r,m,h=>by
  unfold Xx;rw[aD6 λw hw=>h w (Ah _ hw)];split
  ·rfl
  ·have:x≠n:=by rintro rfl;exact h v Ag
   simp[this]
theorem aD7{kindOf:Str->Option Iz}{x:Str}{v:Value}:∀{P:List Str}{vs:List Value}{i:Nat}{m:Str->#v[9]},P.Nodup->P[i]? =some x->vs[i]? =some v->kindOf x=some .local->
  Xw kindOf (P.zip vs) m x=some v
 | [],_,_,_,_,h,_,_=>by simp at h
 |_::_,[],_,_,_,_,h,_=>by simp at h
 |p::P,w::vs,0,m,nd,h1,h2,hk=>by
  simp at h1 h2;subst h1;subst h2;show Xw kindOf ((p,w)::P.zip vs) m p=_;unfold Xw;rw[aD8 λv hv=>(Ef.mp nd).1 (Hb hv).1,Aa1 hk];simp
 |p::P,w::vs,i+1,m,nd,h1,h2,hk=>by
  show Xw kindOf ((p,w)::P.zip vs) m x=_;unfold Xw;exact aD7 (i:=i) (Ef.mp nd).2 (by simpa using h1) (by simpa using h2) hk
theorem aD5{kindOf:Str->Option Iz}{x:Str}{v:Value}:∀{P:List Str}{vs:List Value}{i:Nat}{m:Str->#v[9]},P.Nodup->P[i]? =some x->vs[i]? =some v->kindOf x≠some .local->
  Xx kindOf (P.zip vs) m x=some v
 | [],_,_,_,_,h,_,_=>by simp at h
 |_::_,[],_,_,_,_,h,_=>by simp at h
 |p::P,w::vs,0,m,nd,h1,h2,hk=>by
  simp at h1 h2;subst h1;subst h2;show Xx kindOf ((p,w)::P.zip vs) m p=_;unfold Xx;rw[aD6 λv hv=>(Ef.mp nd).1 (Hb hv).1,Aa0 hk];simp
 |p::P,w::vs,i+1,m,nd,h1,h2,hk=>by
  show Xx kindOf ((p,w)::P.zip vs) m x=_;unfold Xx;exact aD5 (i:=i) (Ef.mp nd).2 (by simpa using h1) (by simpa using h2) hk
def start(N:List Str)(vs:List V):St:=vs.map some++Gs (N.length-vs.length) none
def aFm(CX:CXT)(P:Aj)(w:Bd)(K:Ac)(mg:Str->#v[9])(base:Heap)(N:List Str)(qual:Str)(scope:Scope)(f:Addr)(cd:Value)(A:Bp)(outer:List Env)(s:Ai)(H:Hp)(E:XK):Cx where
 prog:=P
 w:=w
 K:=K
 mg:=mg
 base:=base
 A:=A.deeper (Nv qual scope #v[0] f cd)
 N:=N
 s₀:=s
 H₀:=H
 env:=Nv qual scope #v[0] f cd
 outer:=outer
 stack:=Nv qual scope #v[0] f cd::outer
 ex:=[]
 calm:=true
 fn:=λ_=>true
 pn:=[]
 xe:=λe s'=>Bc (model P w) (A.deeper (Nv qual scope #v[0] f cd)) (leaving (Nv qual scope #v[0] f cd) e) (λ_ s''=>CX outer H s E e s'') (λe' s''=>CX outer H s E e' s'') s'
def bO{sc:Scope}{n:Nat}{x:Str}(h:sc.names.lookup x=some .cell):∃c,(En n sc.names []).lookup x=some c:=by
 have q:=Kx sc.names n [] (.inl h);exact Pu.mp q
def aMi{CX:CXT}{P:Aj}{w:Bd}{K:Ac}{qual:Str}{scope:Scope}{f:Addr}{cd:Value}{A:Bp}{outer:List Env}{s s1:Ai}{H:Hp}{E:XK}{vs:List V}
  (S:aK N ps scope) (hd:A.handled=none) (e0:aGj P w K mg base A outer s H) (hl:vs.length=ps.length) (r:Vals vs us)
  (x:InCallC s #v[0] (Xw (Nv qual scope #v[0] f cd).kindOf (ps.zip us) λ_=>none) (En (#v[0]+1) scope.names []) (Xx (Nv qual scope #v[0] f cd).kindOf (ps.zip us) λ_=>none) s1):
  Inv (aFm CX P w K mg base N qual scope f cd A outer s H E) [] (start N vs) H s1:=by
 have hpl:ps.length<=N.length:=by have:=Aa9 Jx S.pre;rw[Dk]at this;lia
 obtain⟨h1,tk,rfl,hk⟩:=x.done;have noA:∀b:Addr,b∉(aFm CX P w K mg base N qual scope f cd A outer s H E).ex:=λb z=>Aa2 (show b∈([]:List Addr)from z) (by simp);refine⟨#[e0.mod,S.kind,rfl,rfl,Am _,λy z c h1 h2=>?_,λy hy=>?_,λy c _ h=>?_,λ_=>hd,Rx e0.frames,.inr #[rfl,rfl],λb z=>Aa2 z (noA b),e0.bs,e0.bsz,λb _ _=>noA b,λb z=>Aa2 z (noA b),e0.funs,e0.frf],
  rfl,e0.bare,Un.kept hk,#[_,x.toInCall.ns,λi y v h1 h2 h3=>?_],λy c h=>#[_,x.cell y c h],e0.hok.fresh (Am _),λy c h=>?_,λp hp=>Aa2 (show p∈([]:#v[4])from hp) (by simp),e0.hok.kept hk,?_⟩
 ·exact name_of_addr x.apart (By h1) (By h2)
 ·have hy:scope.names.lookup y=some .cell∨scope.names.lookup y=some .free:=hy;rcases hy with hy|hy
  ·exact bO hy
  ·exact Aa2 rfl (S.nofree _ (By hy))
 ·exact Hy (x.above y c (By h))
 ·have hi:i<vs.length:=by
   unfold start at h2;by_cases hi:i<vs.length
   ·exact hi
   ·rw[Ga (by simpa using hi)]at h2;rw[Cu]at h2;split at h2<;>cases h2
  have ha:vs[i]? =some v:=by
   unfold start at h2;rw[Es (by simpa using hi),Ap]at h2;cases e:vs[i]? with
   |none=>rw[e]at h2;cases h2
   |some a=>rw[e]at h2;cases h2;rfl
  obtain⟨u,hu,rv⟩:=r.get ha;have hp:ps[i]? =some y:=by
   rw[<-S.pre,List.getElem?_take_of_lt ∅];exact h1
  have ndP:ps.Nodup:=by rw[<-S.pre];exact S.nd.sublist (Uq _ _)
  refine#[u,rv,?_];rcases S.par y (Bl hp)with k|k
  ·exact .inl #[k,aD7 ndP hp hu k]
  ·obtain⟨c,e⟩:=bO (n:=#v[0]+1) k;refine .inr #[.inl k,c,e,?_];have q:=x.cell y c e;rw[aD5 ndP hp hu (by show scope.names.lookup y≠_;rw[k];decide)]at q;exact q
 ·exact e0.hok.fresh (Hy (x.above y c (By h)))
 ·unfold start;show _=N.length;rw[Ak,Ab,Dz]
  lia
def aPk{CX:CXT}{P:Aj}{w:Bd}{K:Ac}{f:Addr}{name qual:Str}{params:Arguments}{scope:Scope}{dV kV doc pm af ct oc:Value}{an od:Option Addr}
  {osl:Array (#v[9])} {sp:Sp} (lk:K.lookup f=some #[oc,od,.func (Ca name qual params body scope dV kV doc pm an af ct),osl]) (hcd:Fj K af qual=true) (S:aK N ps scope)
  (len:∀vs H Q E,sp vs H Q E->vs.length=ps.length)
  (hbody:∀(A:Bp)(outer:List Env)(s:Ai)(H:Hp)(vs:List V)(Q:VK)(E:XK),cV k (A.deeper (Nv qual scope #v[0] f af))->sp vs H Q E->
   ∃t,PSs (aFm CX P w K mg base N qual scope f af A outer s H E) body t/\t {nx:=λ_ H'=>Q .non H',rt:=Q} (start N vs) H):
  aX P w K mg base CX (k+1) f (Ca name qual params body scope dV kV doc pm an af ct) ps sp:=by
 refine#[len,λA outer s H args us vs Q E hr e0 hb r hsp=>?_];have hl:=len _ _ _ _ hsp;have KX:K.In s.heap:=e0.mod.kin.keeps λb o e=>(e0.bs b o e).1;have lim:s.heap.NoLimit:=e0.mod.nolimit.keeps λb o e=>(e0.bs b o e).1;have hkind:∀y∈ps.zip us,scope.names.lookup y.1=some .local∨(scope.names.lookup y.1=some .cell/\((En (#v[0]+1) scope.names []).lookup y.1).isSome=true):=λ⟨n,v⟩ hy=>by
  rcases S.par n (Hb hy).1 with q|q
  ·exact .inl q
  ·exact .inr #[q,Kx _ _ _ (.inl q)]
 refine codeAny_call_function hr.depth (KX _ _ lk) rfl S.co S.gen rfl (PySem.W.codeRec_of KX hcd) (hb _ _ _ _ ?_);refine wpAny_newFunctionEnv_cells S.kind hkind λenv he s1 x=>?_;subst he;refine#[lim.keeps x.toInCall.keep,codeAny_func ?_];obtain⟨t,ht,hq⟩:=hbody A outer s H vs Q E (hr.deeper _) hsp;have I:Inv (aFm CX P w K mg base N qual scope f af A outer s H E) [] (start N vs) H s1:=aMi S hr.hd e0 hl r x;refine Ep (ht [] s1 (start N vs) H _ I hq) (λfl s' hs=>?_) λe s' hs=>hs;have fin:∀{σ':St}{H':Hp}{v:V}{u:Value},Inv (aFm CX P w K mg base N qual scope f af A outer s H E) [] σ' H' s'->RelV v u->Q v H'->CE outer P w H s Q u s':=
  λ{σ' H' v u} J rv q=>#[v,H',J.os,J.bare,J.base,J.hok,rv,q]
 cases fl with
 |ret u=>
  obtain⟨v,σ',H',J,rv,q⟩:=hs;exact fin J rv q
 |next=>
  obtain⟨σ',H',J,q⟩:=hs;exact fin (v:=V.non) (u:=Cg) J rfl q
 |brk=>
  obtain⟨_,_,_,q⟩:=hs;exact Eg q
 |cont=>
  obtain⟨_,_,_,q⟩:=hs;exact Eg q
section
variable {X:Cx}{x:Str}{p pos:Pos}{e:Bu}{es:List Bu}{t:TA}{id T:String}{r:List V->Hp->VK->Prop}
def tCB(r:List V->Hp->VK->Prop)(t:TA):TE:=λσ H Q=>t σ H λvs H1=>r vs H1 Q
def qJ(hc:gQ X (.builtin id) r)(hg:Gl X x)(hm:X.mg x=none)(hv:Fx x=some (.builtin id))(ha:PA X (e::es) t)(hn:x≠"__name__":=by decide)(hdb:ND x:=by decide)
  (he:SE X e es:=by rfl) (hpl:BT X pos es:=by rfl):PE X (.Call (.Name x p) (e::es) [] pos) (tCB r t):=by
 intro aa s σ H Q I h;refine Hf (tR I hg hm hv ?_ hn hdb);exact Yt (thn (ha pos aa s σ H _ I h) λus s1 ⟨vs,H1,I1,r1,q1⟩=>hc aa s1 σ H1 vs us Q I1 r1 q1) he hpl
def qK(hc:gQ X (.type T) r)(hg:Gl X x)(hm:X.mg x=none)(hv:Fx x=some (.type T))(ha:PA X (e::es) t)(hn:x≠"__name__":=by decide)(hdb:ND x:=by decide)
  (he:SE X e es:=by rfl) (hpl:BT X pos es:=by rfl):PE X (.Call (.Name x p) (e::es) [] pos) (tCB r t):=by
 intro aa s σ H Q I h;refine Hf (tR I hg hm hv ?_ hn hdb);exact Fe (thn (ha pos aa s σ H _ I h) λus s1 ⟨vs,H1,I1,r1,q1⟩=>hc aa s1 σ H1 vs us Q I1 r1 q1) he hpl
end
end L2
namespace HT
open PySem PyProof.Rows
section
open PySem.SeqAt
open PySem.AutoSeq1 (wpAny_loadPart')
open PySem.MeetsSeq PySem.MeetsSeq2 PySem.MeetsSeq3
end
variable {prog:Aj}{w:Bd}{A:Bp}{E:#v[c]}{s:Ai}
def aSu(ht:IsTup s.heap t vs.toArray)(hb:IsTup s.heap b ws.toArray)(hv:vs≠[])
  (h1:ws=[]->Q (.ref t) s) (h2:ws≠[]->Q (.ref #v[0]) {s with heap:=s.heap.push {cls:=.type "tuple",data:=.seq (vs++ws).toArray}})
  (hsz:vs.length+ws.length<=sizeLine):Bc #v[b] A (Gw .Add (.ref t) (.ref b)) Q E s:=by
 obtain⟨⟨cls,dd,data,sl⟩,ho,hc,n,hd⟩:=id ht;obtain⟨⟨cls2,dd2,data2,sl2⟩,ho2,hc2,n2,hd2⟩:=id hb;simp only at hc hd hc2 hd2;subst hc hd hc2 hd2;have e:vs.toArray++ws.toArray=(vs++ws).toArray:=by simp
 by_cases hw:ws=[]
 ·exact Va #[_,ho,rfl] #[_,ho2,rfl] Ql Tw Ky Ks (Kh _ _)
   (tuple_addW1 t b vs.toArray ws.toArray n n2 dd dd2 sl sl2 (by simpa using hv) (by simp[hw])) #[ho,ho2,h1 hw]
 ·refine Va #[_,ho,rfl] #[_,ho2,rfl] Ql Tw Ky Ks (Kh _ _)
   (tuple_addW2 t b vs.toArray ws.toArray n n2 dd dd2 sl sl2 (by simpa using hv) (by simpa using hw) (by rw[Al,Al];exact hsz)) #[ho,ho2,?_]
  rw[e];exact h2 hw
def sIx(n d:Nat):Option Int->Nat
 |none=>d
 |some v=>if v<0 then(v+(n:Int)).toNat else min v.toNat n
def aHv(n d:Nat):sIx n d none=d:=rfl
def aBi(n d k:Nat):sIx n d (some (k:Int))=min k n:=by
 show(if(k:Int)<0 then((k:Int)+(n:Int)).toNat else min (k:Int).toNat n)=min k n;rw[Aa0 ∅,Hl]
def aYb(n d:Nat)(hd:d<=n)(o:Option Int):sIx n d o<=n:=by
 cases o with
 |none=>exact hd
 |some v=>
  show(if v<0 then(v+(n:Int)).toNat else min v.toNat n)<=n;by_cases hv:v<0
  ·rw[Aa1 hv];lia
  ·rw[Aa0 hv];exact Nat.min_le_right _ _
def aKu(v:Int)(n d:Nat):(if v<0 then max (v+(n:Int)) 0 else min v (n:Int))=((sIx n d (some v):Nat):Int):=by
 show(if v<0 then max (v+(n:Int)) 0 else min v (n:Int))=(((if v<0 then(v+(n:Int)).toNat else min v.toNat n):Nat):Int);by_cases hv:v<0
 ·simp only[Aa1 hv];lia
 ·simp only[Aa0 hv];lia
def aIt(lo hi:Option Int)(n:Nat):Jg lo hi 1 (n:Int)=(((sIx n 0 lo:Nat):Int),((sIx n n hi:Nat):Int)):=by
 have h1:¬((1:Int)<0):=by lia
 unfold Jg;simp only[h1,Ab1];refine Qz ?_ ?_
 ·cases lo with
  |none=>rfl
  |some v=>exact aKu v n 0
 ·cases hi with
  |none=>rfl
  |some v=>exact aKu v n n
def aJz(i j:Nat):Gy (i:Int) (j:Int) 1=j-i:=by
 unfold Gy;have h1:(1:Int)>0:=by lia
 simp only[h1,Ab2,Int.ediv_one];split<;>lia
def aCu(p:Tn v o)(h:Q o s):Bc #v[b] A (Yi v) Q E s:=by
 cases p with
 |none=>exact slicePart_none h
 |int i t=>exact slicePart_int h
def zR{sl:Addr}{vl vu:Value}{lo hi:Option Int}{n:Nat}{Q:Int×Int×Nat->Ai->Prop}(hs:s.heap.IsSliceOf sl vl vu .none)(pl:Tn vl lo)(pu:Tn vu hi)
  (h:Q (((sIx n 0 lo:Nat):Int),1,sIx n n hi-sIx n 0 lo) s):Bc #v[b] A (Mz (.ref sl) (pure (n:Int))) Q E s:=by
 obtain⟨os,hos,hcs,hds⟩:=id hs;unfold Mz Yj;refine Aa (Aa (Ey hos hds (x:=vl) rfl (Aa (Ey hos hds (x:=vu) rfl (Aa (Ey hos hds (x:=.none) rfl (Ad ?_)))))));refine Aa (slicePart_none ?_);show Bc _ _ (if((1:Int)==0)=true then _ else _) _ _ s;rw[Aa0 ⋯];refine Aa (aCu pl (Aa (aCu pu (Aa (Ad ?_)))));show Bc _ _ (match Jg lo hi 1 (n:Int)with|(lo,hi)=>pure (lo,(1:Int),Gy lo hi 1)) _ _ s;rw[aIt lo hi n];show Bc _ _ (pure (((sIx n 0 lo:Nat):Int),(1:Int),Gy ((sIx n 0 lo:Nat):Int) ((sIx n n hi:Nat):Int) 1)) _ _ s;rw[aJz];exact Ad h
def aQ7(xs:Array Value)(i k:Nat):((Dl k).filterMap λ(m:Nat)=>xs[((i:Int)+(m:Int)*1).toNat]?).toArray=((xs.toList.drop i).take k).toArray:=by
 have e:(λ(m:Nat)=>xs[((i:Int)+(m:Int)*1).toNat]?)=λm=>xs[i+m]? :=by
  funext m;have:((i:Int)+(m:Int)*1).toNat=i+m:=by lia
  rw[this]
 rw[e];have:=pick_run xs i k;rw[List.filterMap_map]at this;have e2:((λx=>xs[x]?)∘λx=>i+x)=λm=>xs[i+m]? :=rfl;rw[e2]at this;rw[this]
def wY{t sl:Addr}{items:Array Value}{vl vu:Value}{lo hi:Option Int}{Q:#v[c]}(ht:IsTup s.heap t items)(hs:s.heap.IsSliceOf sl vl vu .none)(pl:Tn vl lo)(pu:Tn vu hi)
  (hw:¬(sIx items.size 0 lo=0/\sIx items.size items.size hi=items.size))
  (h:Q (.ref #v[0]) {s with heap:=s.heap.push {cls:=.type "tuple",data:=.seq ((items.toList.drop (sIx items.size 0 lo)).take (sIx items.size items.size hi-sIx items.size 0 lo)).toArray}})
  (hsz:items.size<=sizeLine):Bc #v[b] A (Pm (.ref t) (.ref sl)) Q E s:=by
 have htake:sizeOk (.seq ((items.toList.drop (sIx items.size 0 lo)).take (sIx items.size items.size hi-sIx items.size 0 lo)).toArray):=by
  show((items.toList.drop (sIx items.size 0 lo)).take (sIx items.size items.size hi-sIx items.size 0 lo)).toArray.size<=sizeLine;rw[Al,Dk,Gb,Bg]
  lia
 have hj:sIx items.size items.size hi<=items.size:=aYb _ _ (Am _) hi;obtain⟨os,hos,hcs,hds⟩:=id hs;have hTs:s.TypeIs (.ref sl) "slice":=#[os,hos,hcs];unfold Pm
 try with_reducible refine Ci ?_
 first|refine Aa (Ad ?_)|skip
 refine Aa (wpAny_sequenceKey ht.typeIs ⋯ ?_);refine Aa (Do (name:=Fs "__getitem__") ht.typeIs Ht
  (Co Ht ht.typeIs entry_tuple_getitem ?_ (args_tuple_getitem _ _)))
 show Bc _ _ (My (.ref t)>>=_) _ _ s;refine Aa (tupleItemsOf_ ht ?_);refine Aa (Jq hTs ?_);rw[Aa1 ⋯];refine Aa (zR hs pl pu ?_);have hno:¬((((sIx items.size 0 lo:Nat):Int)==0 && (1:Int)==1 && (sIx items.size items.size hi-sIx items.size 0 lo)==items.size)=true):=by
  intro q;rw[Hs,Hs]at q;have q1:((sIx items.size 0 lo:Nat):Int)=0:=Aa8 q.1.1;have q2:sIx items.size items.size hi-sIx items.size 0 lo=items.size:=Aa8 q.2;exact hw #[∅,∅]
 show Bc _ _ (if(((sIx items.size 0 lo:Nat):Int)==0 && (1:Int)==1 && (sIx items.size items.size hi-sIx items.size 0 lo)==items.size)=true then _ else _) _ _ s;rw[Aa0 hno,aQ7];first
  |exact Aa (m:=He _) (Ck (Ad ⟨_,rfl,Ad h⟩) htake)
  |exact Aa (m:=He _) (Ck (Aa (Ad (Ad ⟨_,rfl,Ad h⟩))) htake)
  |exact Aa (Aa (m:=He _) (Ck (Ad (Ad ⟨_,rfl,Ad h⟩)) htake))
  |exact Aa (Aa (m:=He _) (Ck (Ad ⟨_,rfl,Ad h⟩) htake))
end HT
namespace L2
variable {aa:#v[4]}{ae its':List Value}{n:Nat}
open PySem PySem.Spec PyProof.Rows
abbrev TO:=St->Hp->(Option Int->Hp->Prop)->Prop
def PO(X:Cx)(e:Option Bu)(t:TO):Prop:=
 ∀(aa:#v[4])(s:Ai)(σ:St)(H:Hp)(Q:Option Int->Hp->Prop),#v[3]->t σ H Q->
  Bc #v[a] X.A (evalPart e X.env) (λu s'=>∃o H',Inv X aa σ H' s'/\Tn u o/\Q o H') X.xe s
def aUo:TO:=λ_ H Q=>Q none H
def bBn(t:TE):TO:=λσ H Q=>t σ H λx H1=>∃i,x=.int i/\Q (some i) H1
def intsAre_of:∀{us:List Value},Vals (ns.map V.int) us->Nj us ns:=by
 induction ns with
 |nil=>intro us r;rw[Fq]at r;cases r;exact .nil
 |cons n ns ih=>
  intro us r;rw[Br]at r;cases r with
  |cons r1 r2=>
   obtain⟨t,e⟩:=r1;subst e;exact .cons n t (ih r2)
variable {X:Cx}{e:Bu}{te:TE}{lo hi:Option Bu}{tl th:TO}{pos p2:Pos}
def aT8:PO X none aUo:=by
 intro aa s σ H Q I h;rw[evalPart_none];exact Ad #[none,H,I,.none,h]
def aT9(h:PE X e te):PO X (some e) (bBn te):=by
 intro aa s σ H Q I hw;rw[evalPart_some];refine thn (h aa s σ H _ I hw) λu s1 ⟨x,H1,I1,r1,q1⟩=>?_;obtain⟨i,rfl,q⟩:=q1;obtain⟨t,rfl⟩:=r1;exact#[some i,H1,I1,.int i t,q]
def SlR(X:Cx)(r:V->Option Int->Option Int->Hp->VK->Prop):Prop:=
 ∀(aa:#v[4])(s:Ai)(σ:St)(H:Hp)(x:V)(v vl vu:Value)(lo hi:Option Int)(sl:Addr)(Q:VK),#v[3]->RelV x v->s.heap.IsSliceOf sl vl vu .none->Tn vl lo->Tn vu hi->r x lo hi H Q->
  ∃T id,Sy (.type T) "__getitem__"=pure (some (.builtin id))/\s.TypeIs v T/\Bc #v[a] X.A (Pm v (.ref sl)) (EP X aa σ Q) X.xe s
def SlR.or(h:SlR X r)(h':SlR X r'):SlR X (λx lo hi H Q=>r x lo hi H Q∨r' x lo hi H Q):=by
 intro aa s σ H x v vl vu lo hi sl Q I rx hs pl pu q;rcases q with q|q
 ·exact h aa s σ H x v vl vu lo hi sl Q I rx hs pl pu q
 ·exact h' aa s σ H x v vl vu lo hi sl Q I rx hs pl pu q
def tSl(r:V->Option Int->Option Int->Hp->VK->Prop)(te:TE)(tl th:TO):TE:=λσ H Q=>te σ H λx H1=>tl σ H1 λl H2=>th σ H2 λu H3=>r x l u H3 Q
def aQ6{r:V->Option Int->Option Int->Hp->VK->Prop}(hr:SlR X r)(he:PE X e te)(hl:PO X lo tl)(hu:PO X hi th):PE X (.Subscript e (.Slice lo hi none p2) pos) (tSl r te tl th):=by
 intro aa s σ H Q I h;refine Ya (thn (he aa s σ H _ I h) λv s1 ⟨x,H1,I1,r1,q1⟩=>?_);refine wpAny_Slice (thn (hl aa s1 σ H1 _ I1 q1) λvl s2 ⟨l,H2,I2,pl,q2⟩=>thn (hu aa s2 σ H2 _ I2 q2) λvu s3 ⟨u,H3,I3,pu,q3⟩=>?_);rw[evalPart_none];refine Ad ?_;have I4:Inv X aa σ H3 {s3 with heap:=s3.heap.push {cls:=.type "slice",data:=.fields (List.toArray [vl,vu,.none])}}:=I3.kept (t':=s3.toks) λb ob q=>Ae _ q;obtain⟨T,id,hT,ht,hg⟩:=hr aa {s3 with heap:=s3.heap.push {cls:=.type "slice",data:=.fields (List.toArray [vl,vu,.none])}} σ H3 x v vl vu l u s3.heap.objs.size Q I4 r1 (Xi ..) pl pu q3;show Bc #v[a] X.A (Tv e (.Slice lo hi none p2) v (.ref s3.heap.objs.size)) (EP X aa σ Q) X.xe {s3 with heap:=s3.heap.push {cls:=.type "slice",data:=.fields (List.toArray [vl,vu,.none])}};exact tail_any (ops:=[.ref s3.heap.objs.size,v]) ht hT hg (by with_unfolding_all rfl)
def aDj(xs:List V)(lo hi:Option Int):List V:=(xs.drop (HT.sIx xs.length 0 lo)).take (HT.sIx xs.length xs.length hi-HT.sIx xs.length 0 lo)
def aAa(xs:List V)(lo hi:Option Int):(aDj xs lo hi).length<=xs.length:=by
 unfold aDj;rw[Dk,Gb]
 lia
inductive aVo(K:Ac)(x:V)(lo:Option Int)(hi:Option Int)(H:Hp)(Q:VK):Prop
 |mk (a xs:_) (q0_:x=.ref a) (q1_:SqT K H a xs) (q2_:¬(HT.sIx xs.length 0 lo=0/\HT.sIx xs.length xs.length hi=xs.length)) (q3_:∀p,H p=none->Q (.ref p) (upd H p (.tup (aDj xs lo hi)))):aVo K x lo hi H Q
def bC6(K:Ac):V->Option Int->Option Int->Hp->VK->Prop:=λx lo hi H Q=>aVo K x lo hi H Q
def aYc:SlR X (bC6 X.K):=by
 intro aa s σ H x v vl vu lo hi sl Q I rx hs pl pu h;obtain⟨a,xs,rfl,hx,hw,q⟩:=h;cases rx;obtain⟨ae,r,ht,hz⟩:=I.tuple hx;have hlen:ae.toArray.size=xs.length:=by rw[Al];exact r.length.symm
 refine#["tuple",_,Ht.lookup,ht.typeIs,?_];refine HT.wY ht hs pl pu (by rw[hlen];exact hw) ?_ (by rw[hlen];exact hz);rw[hlen];refine#[.ref #v[0],_,I.laid (t':=s.toks) (o:=.tup (aDj xs lo hi)) (λb ob q=>Ae _ q) (Am _) ?_,rfl,q _ (I.hok.fresh (Am _))];exact#[Bs (aAa xs lo hi) hz,_,(r.drop (HT.sIx xs.length 0 lo)).take (HT.sIx xs.length xs.length hi-HT.sIx xs.length 0 lo),Vj _ _]
inductive aN3(K:Ac)(x:V)(y:V)(H:Hp)(Q:VK):Prop
 |mk (a b xs ys:_) (q0_:x=.ref a) (q1_:y=.ref b) (q2_:SqT K H a xs) (q3_:SqT K H b ys) (q4_:xs≠[]) (q5_:xs.length+ys.length<=sizeLine) (q6_:(ys=[]->Q (.ref a) H)) (q7_:(ys≠[]->∀p,H p=none->Q (.ref p) (upd H p (.tup (xs++ys))))):aN3 K x y H Q
def aWb(K:Ac):R2:=λx y H Q=>aN3 K x y H Q
def Vals.nil_iff(r:Vals xs us):us=[]↔xs=[]:=by
 cases r with
 |nil=>simp
 |cons _ _=>simp
def aTp:OpR X (Gw .Add) (aWb X.K):=by
 intro aa s σ H x y v u Q I rx ry h;obtain⟨a,b,xs,ys,rfl,rfl,ha,hb,hx,hz,q1,q2⟩:=h;cases rx;cases ry;obtain⟨ae,r1,p1,_⟩:=I.tuple ha;obtain⟨its2,r2,p2,_⟩:=I.tuple hb;refine HT.aSu p1 p2 (λz=>hx (r1.nil_iff.mp z)) (λz=>#[.ref a,H,I,rfl,q1 (r2.nil_iff.mp z)]) (λz=>?_) (by rw[<-r1.length, <-r2.length];exact hz);refine#[.ref #v[0],_,I.laid (t':=s.toks) (o:=.tup (xs++ys)) (λb ob q=>Ae _ q) (Am _) ?_,rfl,q2 (λw=>z (r2.nil_iff.mpr w)) _ (I.hok.fresh (Am _))];exact#[by rw[Ak];exact hz,_,r1.append r2,Vj _ _]
def ixN(n:Nat)(i:Int):Option Nat:=if 0<=i then(if i<n then some i.toNat else none)else if-(n:Int)<=i then some (i+n).toNat else none
def atI{α:Type}(xs:List α)(i:Int):Option α:=(ixN xs.length i).bind λj=>xs[j]?
def aK5(h:ixN n i=some j):seqIndex? i n=some j/\j<n/\ -(n:Int)<=i/\i<n:=by
 unfold ixN at h;by_cases h0:0<=i
 ·rw[Aa1 h0]at h;by_cases h1:i<n
  ·rw[Aa1 h1]at h;have e:i.toNat=j:=Bj h;exact#[by rw[Wa h0 h1,e],∅,∅,h1]
  ·rw[Aa0 h1]at h;cases h
 ·rw[Aa0 h0]at h;by_cases h1: -(n:Int)<=i
  ·rw[Aa1 h1]at h;have e:(i+n).toNat=j:=Bj h;exact#[by rw[Uv ∅ h1,e],∅,h1,∅]
  ·rw[Aa0 h1]at h;cases h
def aFc{α:Type}{xs:List α}{i:Int}{v:α}(h:atI xs i=some v):∃j,seqIndex? i xs.length=some j/\xs[j]? =some v/\j<xs.length/\ -(xs.length:Int)<=i/\i<xs.length:=by
 unfold atI at h;cases e:ixN xs.length i with
 |none=>rw[e]at h;cases h
 |some j=>
  rw[e]at h;obtain⟨h1,h2,h3,h4⟩:=aK5 e;exact#[j,h1,h,h2,h3,h4]
def iQ{α:Type}{xs:List α}{j:Nat}{v:α}(h:xs[j]? =some v):atI xs (j:Int)=some v:=by
 have hj:j<xs.length:=(Be.mp h).1;have e:ixN xs.length (j:Int)=some j:=by
  unfold ixN;rw[Aa1 ∅,Aa1 ∅];simp
 unfold atI;rw[e];exact h
def aKp(b:Bu):Prop:=∀o i,subscripted b false o i=operate [o,i] (Pm o i)
def IxR(X:Cx)(r:R2):Prop:=
 ∀(value slice:Bu)(aa:#v[4])(s:Ai)(σ:St)(H:Hp)(x y:V)(v u:Value)(Q:VK),#v[3]->RelV x v->RelV y u->r x y H Q->
  subscripted slice false v u=operate [v,u] (Pm v u)->Bc #v[a] X.A (Tv value slice v u) (EP X aa σ Q) X.xe s
def MtR(X:Cx)(id:String)(r:V->List V->Hp->VK->Prop):Prop:=
 ∀(aa:#v[4])(s:Ai)(σ:St)(H:Hp)(x:V)(xs:List V)(v:Value)(us:List Value)(Q:VK),#v[3]->RelV x v->Vals xs us->r x xs H Q->
  Bc #v[a] X.A (call (.builtin id) (v::us)) (EP X aa σ Q) X.xe s
def bA5(K:Ac):List V->Hp->VK->Prop:=λxs H Q=>∃p ys,xs=[.ref p]/\(SqL K H p ys∨SqT K H p ys)/\Q (.int ys.length) H
def bA6(K:Ac):List V->Hp->VK->Prop:=λxs H Q=>∃p ys,xs=[.ref p]/\(SqL K H p ys∨SqT K H p ys)/\∀l,H l=none->Q (.ref l) (upd H l (.lst ys))
section
variable {X:Cx}{a b:Bu}{ta tb:TE}{pos:Pos}
def IxR.or(h:IxR X r)(h':IxR X r'):IxR X (λx y H Q=>r x y H Q∨r' x y H Q):=by
 intro value slice aa s σ H x y v u Q I rx ry q hs;rcases q with q|q
 ·exact h value slice aa s σ H x y v u Q I rx ry q hs
 ·exact h' value slice aa s σ H x y v u Q I rx ry q hs
def aAf{r:R2}(hr:IxR X r)(ha:PE X a ta)(hb:PE X b tb)(hs:aKp b):PE X (.Subscript a b pos) (tOp r ta tb):=by
 intro aa s σ H Q I h;exact Ya (aWt ha hb I h λv u s2 x y H2 I2 rx ry q=>hr a b aa s2 σ H2 x y v u Q I2 rx ry q (hs _ _))
inductive aVj(K:Ac)(x:V)(y:V)(H:Hp)(Q:VK):Prop
 |mk (p xs i v:_) (q0_:x=.ref p) (q1_:y=.int i) (q2_:SqL K H p xs) (q3_:atI xs i=some v) (q4_:Q v H):aVj K x y H Q
def aX5(K:Ac):R2:=λx y H Q=>aVj K x y H Q
inductive aVl(K:Ac)(x:V)(y:V)(H:Hp)(Q:VK):Prop
 |mk (p xs i v:_) (q0_:x=.ref p) (q1_:y=.int i) (q2_:SqT K H p xs) (q3_:atI xs i=some v) (q4_:Q v H):aVl K x y H Q
def aX6(K:Ac):R2:=λx y H Q=>aVl K x y H Q
inductive aVk(x:V)(y:V)(H:Hp)(Q:VK):Prop
 |mk (z i c:_) (q0_:x=.str z) (q1_:y=.int i) (q2_:z.length<=sizeLine) (q3_:atI z.cps.toList i=some c) (q4_:Q (.str ⟨(List.toArray [c])⟩) H):aVk x y H Q
def bA4:R2:=λx y H Q=>aVk x y H Q
def oW:IxR X (aX5 X.K):=by
 intro value slice aa s σ H x y v u Q I rx ry h hs;obtain⟨p,xs,i,z,rfl,rfl,hq,he,q⟩:=h;cases rx;obtain⟨t,rfl⟩:=ry;obtain⟨ae,r,pl,hz⟩:=I.list hq;obtain⟨j,h1,h2,h3,h4,h5⟩:=aFc he;obtain⟨w,ew,rw'⟩:=r.get h2;have hl:=r.length;have hn:=aCf;have fin:EP X aa σ Q w s:=#[z,H,I,rw',q];by_cases h0:0<=i
 ·have hj:i.toNat=j:=by
   rw[Wa h0 h5]at h1;exact Bj h1
  exact item_listR pl.isList h0 ∅ (by rw[hj];simpa using ew) fin hs
 ·have hj:(i+(ae.toArray.size:Int)).toNat=j:=by
   rw[Uv ∅ h4]at h1;rw[Al, <-hl];exact Bj h1
  exact Uk (x:=w) pl.isList.typeIs slot_list_getitem.lookup
   (wpAny_getItem_list_neg (Q:=λr s'=>r=w/\EP X aa σ Q r s') pl.isList ∅ (by rw[Al]<;>lia) ∅ (by rw[hj];simpa using ew) #[rfl,fin]) hs
def aW4:IxR X (aX6 X.K):=by
 intro value slice aa s σ H x y v u Q I rx ry h hs;obtain⟨p,xs,i,z,rfl,rfl,hq,he,q⟩:=h;cases rx;obtain⟨t,rfl⟩:=ry;obtain⟨ae,r,pl,hz⟩:=I.tuple hq;obtain⟨j,h1,h2,h3,h4,h5⟩:=aFc he;obtain⟨w,ew,rw'⟩:=r.get h2;have hl:=r.length;have hn:=aCf;have fin:EP X aa σ Q w s:=#[z,H,I,rw',q];exact Uk (x:=w) pl.typeIs slot_tuple_getitem.lookup
  (getItem_tuple (j:=j) (Q:=λr s'=>r=w/\EP X aa σ Q r s') pl ∅ ∅ (by rw[Al, <-hl];exact h1) (by simpa using ew) #[rfl,fin]) hs
def aW3:IxR X bA4:=by
 intro value slice aa s σ H x y v u Q I rx ry h hs;obtain⟨z,i,c,rfl,rfl,hz,he,q⟩:=h;obtain⟨t,rfl⟩:=rx;obtain⟨t',rfl⟩:=ry;obtain⟨j,h1,h2,h3,h4,h5⟩:=aFc he;have hl:z.cps.toList.length=z.length:=by simp[Str.length]
 rw[hl]at h1 h4 h5;have hn:=aCf;exact tail_any (typeIs_str s z t) slot_str_getitem.lookup (getItem_str (c:=c) (by
  have e1:decide (i< -(2 ^ 63:Int))=false:=Aa6 ∅;have e2:decide (i≥2 ^ 63)=false:=Aa6 ∅;rw[e1,e2,Bool.or_false]) (by rw[h1];simpa using h2) #[.str #[(List.toArray [c])],H,I.tok _,#[_,rfl],q]) hs
def rIx(K:Ac):R2:=λx y H Q=>aX5 K x y H Q∨aX6 K x y H Q∨bA4 x y H Q
def aQ:IxR X (rIx X.K):=oW.or (aW4.or aW3)
def aJn(ae:List Value)(n j:Nat)(u:Value):Ff (·.setIfInBounds j u) {cls:=.type "list",data:=.seq ae.toArray n}={cls:=.type "list",data:=.seq (ae.set j u).toArray n}:=by
 simp[Ff]
def Inv.lst{aa:#v[4]}{σ:St}{H:Hp}{s:Ai}{p:Addr}{xs:List V}(I:#v[3])(h:H p=some (.lst xs)):
  ∃(ae:List Value)(n:Nat),Vals xs ae/\s.heap.get? p=some {cls:=.type "list",data:=.seq ae.toArray n}/\xs.length<=sizeLine:=by
 obtain⟨z,ae,n,r,e⟩:=I.hok p _ h;exact#[ae,n,r,e,z]
def Inv.lstUpd{σ:St}{H:Hp}{s:Ai}{p:Addr}{xs ys:List V}{n n':Nat}{f:Obj->Obj}(I:#v[3])(h:H p=some (.lst xs))
  (ho:s.heap.get? p=some {cls:=.type "list",data:=.seq ae.toArray n}) (hf:f {cls:=.type "list",data:=.seq ae.toArray n}={cls:=.type "list",data:=.seq its'.toArray n'}) (r:Vals ys its') (hz:ys.length<=sizeLine) (t:Nat):
  Inv X aa σ (upd H p (.lst ys)) {s with heap:=s.heap.update p f,toks:=t}:=by
 have e:(s.heap.update p f).get? p=some {cls:=.type "list",data:=.seq its'.toArray n'}:=by
  rw[Cv f ho (by rw[hf]<;>rfl),hf]
 refine I.write (x:=p) (e:=p) (by rw[h];trivial) (.inl rfl) (λb u hb q=>(Dt _ _ (Cq hb)).trans q) #[_,e] ?_;exact#[hz,its',n',r,e]
inductive aN5(o:V)(i:V)(v:V)(H:Hp)(Q:(Hp->Prop)):Prop
 |mk (p xs k j:_) (q0_:o=.ref p) (q1_:i=.int k) (q2_:H p=some (.lst xs)) (q3_:ixN xs.length k=some j) (q4_:Q (upd H p (.lst (xs.set j v)))):aN5 o i v H Q
def bA8:V->V->V->Hp->(Hp->Prop)->Prop:=λo i v H Q=>aN5 o i v H Q
def set_list:aZq X bA8:=by
 intro aa s σ H o i v ov iv u Q I ro ri rv h;obtain⟨p,xs,k,j,rfl,rfl,hp,hj,q⟩:=h;cases ro;obtain⟨t,rfl⟩:=ri;obtain⟨ae,n,r,ho,hz⟩:=I.lst hp;obtain⟨h1,h2,h3,h4⟩:=aK5 hj;have hl:=r.length;have hn:=aCf;have I':Inv X aa σ (upd H p (.lst (xs.set j v))) {s with heap:=s.heap.update p (Ff (·.setIfInBounds j u))}:=
  I.lstUpd hp ho (aJn ae n j u) (r.set rv j) (by rw[Bn];exact hz) s.toks
 by_cases h0:0<=k
 ·have hk:k.toNat=j:=by
   rw[Wa h0 h4]at h1;exact Bj h1
  exact PySem.W.ki_setAt ho h0 ∅ (by rw[Al, <-hl];exact h4) (by rw[hk];exact#[_,I',q])
 ·have hk:(k+(ae.toArray.size:Int)).toNat=j:=by
   rw[Uv ∅ h3]at h1;rw[Al, <-hl];exact Bj h1
  exact PySem.W.ki_setBack ho ∅ (by rw[Al, <-hl];exact h3) ∅ (by rw[hk];exact#[_,I',q])
def aF4(lo hi:Option Int)(n:Nat):(Kn lo hi none n).1=((HT.sIx n 0 lo:Nat):Int)/\(Kn lo hi none n).2.1=((HT.sIx n n hi:Nat):Int)/\(Kn lo hi none n).2.2=1:=by
 refine#[?_,?_,rfl]
 ·cases lo with
  |none=>simp[Kn,HT.sIx]
  |some i=>
   simp only[Kn,HT.sIx,Ub,show(1:Int)>0 by decide,Ab2];by_cases h:i<0
   ·simp only[h,Ab2]<;>lia
   ·simp only[h,Ab1]<;>lia
 ·cases hi with
  |none=>simp[Kn,HT.sIx]
  |some i=>
   simp only[Kn,HT.sIx,Ub,show(1:Int)>0 by decide,Ab2];by_cases h:i<0
   ·simp only[h,Ab2]<;>lia
   ·simp only[h,Ab1]<;>lia
def aDt(ae:List Value)(lo hi:Option Int):slicePick ae.toArray lo hi none=((ae.drop (HT.sIx ae.length 0 lo)).take (HT.sIx ae.length ae.length hi-HT.sIx ae.length 0 lo)).toArray:=by
 obtain⟨h1,h2,h3⟩:=aF4 lo hi ae.toArray.size;unfold slicePick;rw[h1,h2,h3];simp only[sliceRange_one,pick_run,Al]<;>rfl
inductive aVn(K:Ac)(x:V)(lo:Option Int)(hi:Option Int)(H:Hp)(Q:VK):Prop
 |mk (a xs:_) (q0_:x=.ref a) (q1_:SqL K H a xs) (q2_:∀p,H p=none->Q (.ref p) (upd H p (.lst (aDj xs lo hi)))):aVn K x lo hi H Q
def bC5(K:Ac):V->Option Int->Option Int->Hp->VK->Prop:=λx lo hi H Q=>aVn K x lo hi H Q
def aUk:SlR X (bC5 X.K):=by
 intro aa s σ H x v vl vu lo hi sl Q I rx hs pl pu h;obtain⟨a,xs,rfl,hx,q⟩:=h;cases rx;obtain⟨ae,r,ht,hz⟩:=I.list hx;have hlen:=r.length;refine#["list",_,slot_list_getitem.lookup,ht.isList.typeIs,?_];refine wpAny_getItem_list_slice ht.isList hs pl pu .none (by simp) ?_ (by rw[Al]<;>lia);rw[aDt, <-hlen];refine#[.ref #v[0],_,I.laid (t':=s.toks) (o:=.lst (aDj xs lo hi)) (λb ob q=>Ae _ q) (Am _) ?_,rfl,q _ (I.hok.fresh (Am _))];exact#[Bs (aAa xs lo hi) hz,_,0,(r.drop (HT.sIx xs.length 0 lo)).take (HT.sIx xs.length xs.length hi-HT.sIx xs.length 0 lo),Ar _ rfl]
def sO:V->Bool
 |.non=>true
 |.bl _=>true
 |.int _=>true
 |.str _=>true
 |_=>false
def eqV:V->V->Bool
 |.non,.non=>true
 |.bl a,.bl b=>a==b
 |.bl a,.int b=>(if a then 1 else 0)==b
 |.int a,.bl b=>a==(if b then 1 else 0)
 |.int a,.int b=>a==b
 |.str a,.str b=>a==b
 |_,_=>false
def aWy(ry:RelV y u)(rx:RelV x v)(fy:sO y=true)(fx:sO x=true):Kr A s u v (eqV y x):=by
 cases y with
 |non=>
  cases ry;cases x with
  |non=>cases rx;exact Nl _
  |bl b=>cases rx;exact SeqAt.EqAt.none_bool b
  |int b=>obtain⟨t,rfl⟩:=rx;exact SeqAt.EqAt.none_int b t
  |str b=>obtain⟨t,rfl⟩:=rx;exact SeqAt.EqAt.none_str b t
  |_=>exact(Au fx).elim
 |bl a=>
  cases ry;cases x with
  |non=>cases rx;exact SeqAt.EqAt.bool_none a
  |bl b=>cases rx;exact SeqAt.EqAt.bool_bool a b
  |int b=>obtain⟨t,rfl⟩:=rx;exact SeqAt.EqAt.bool_int a b t
  |str b=>obtain⟨t,rfl⟩:=rx;exact SeqAt.EqAt.bool_str a b t
  |_=>exact(Au fx).elim
 |int a=>
  obtain⟨t',rfl⟩:=ry;cases x with
  |non=>cases rx;exact SeqAt.EqAt.int_none a t'
  |bl b=>cases rx;exact SeqAt.EqAt.int_bool a t' b
  |int b=>obtain⟨t,rfl⟩:=rx;exact SeqAt.EqAt.int_int a t' b t
  |str b=>obtain⟨t,rfl⟩:=rx;exact Qo a t' b t
  |_=>exact(Au fx).elim
 |str a=>
  obtain⟨t',rfl⟩:=ry;cases x with
  |non=>cases rx;exact SeqAt.EqAt.str_none a t'
  |bl b=>cases rx;exact SeqAt.EqAt.str_bool a t' b
  |int b=>obtain⟨t,rfl⟩:=rx;exact Qm a t' b t
  |str b=>obtain⟨t,rfl⟩:=rx;exact SeqAt.EqAt.str_str a t' b t
  |_=>exact(Au fx).elim
 |_=>exact(Au fy).elim
def bF:gQ X (.builtin "len") (bA5 X.K):=by
 intro aa s σ H xs us Q I r h;obtain⟨p,ys,rfl,hq,q⟩:=h;obtain⟨u,rfl,rx⟩:=vals1 r;cases rx;have hn:=aCf;rcases hq with hq|hq
 ·obtain⟨ae,r',pl,hz⟩:=I.list hq;have hlen:=r'.length;exact Calls.call_len_list pl.isList (by simp only[Al]<;>lia) #[.int ys.length,H,I.tok _,#[s.toks+1,by rw[Al,hlen]],q]
 ·obtain⟨ae,r',pl,hz⟩:=I.tuple hq;have hlen:=r'.length;exact len_tuple pl (by simp only[Al]<;>lia) #[.int ys.length,H,I.tok _,#[s.toks+1,by rw[Al,hlen]],q]
def aFh:gQ X (.type "list") (bA6 X.K):=by
 intro aa s σ H xs us Q I r h;obtain⟨p,ys,rfl,hq,q⟩:=h;obtain⟨u,rfl,rx⟩:=vals1 r;cases rx;have fin:∀(ae:List Value),Vals ys ae->ys.length<=sizeLine->∀(h':Heap)(c':Nat),(∀b o',s.heap.get? b=some o'->h'.get? b=some o')->
   h'.get? #v[0]=some {cls:=.type "list",dict:=none,data:=.seq ae.toArray c',slots:= (List.toArray [])}->EP X aa σ Q (.ref #v[0]) {s with heap:=h'}:=λae r' hz h' c' kp e=>
  #[.ref #v[0],_,I.laid (t':=s.toks) kp (Am _) (show bL X.prog X.w _ h' _ (.lst ys)from#[hz,ae,c',r',e]),rfl,q _ (I.hok.fresh (Am _))]
 rcases hq with hq|hq
 ·obtain⟨ae,r',pl,hz⟩:=I.list hq;have hlen:=r'.length;obtain⟨o,ho,hc,n,hd⟩:=pl.isList;exact call_list_seq p (.inl rfl) ho hc hd (λh' c' kp e=>fin ae r' hz h' c' kp e) (by simp only[Al]<;>lia)
 ·obtain⟨ae,r',pl,hz⟩:=I.tuple hq;have hlen:=r'.length;obtain⟨o,ho,hc,n,hd⟩:=pl;exact call_list_seq p (.inr rfl) ho hc hd (λh' c' kp e=>fin ae r' hz h' c' kp e) (by simp only[Al]<;>lia)
def aDf:gQ X (.type "tuple") (λxs H Q=>∃p ys,xs=[.ref p]/\((SqL X.K H p ys/\∀l,H l=none->Q (.ref l) (upd H l (.tup ys)))∨(SqT X.K H p ys/\Q (.ref p) H))):=by
 intro aa s σ H xs us Q I r h;obtain⟨p,ys,rfl,h⟩:=h;obtain⟨u,rfl,rx⟩:=vals1 r;cases rx;rcases h with ⟨hq,q⟩|⟨hq,q⟩
 ·obtain⟨ae,r',pl,hz⟩:=I.list hq;have hlen:=r'.length;refine call_tuple_list pl.isList (λh' kp=>?_) (by simp only[Al]<;>lia);have I1:Inv X aa σ H {s with heap:=h'}:=I.kept (t':=s.toks) kp;have I2:Inv X aa σ (upd H h'.objs.size (.tup ys)) {s with heap:=h'.push {cls:=.type "tuple",data:=.seq ae.toArray}}:=
   I1.laid (t':=s.toks) (λb o e=>Ae _ e) (Am _) (show bL X.prog X.w _ _ _ (.tup ys)from#[hz,ae,r',Vj _ _])
  exact#[.ref h'.objs.size,_,I2,rfl,q _ (I1.hok.fresh (Am _))]
 ·obtain⟨ae,r',pl,hz⟩:=I.tuple hq;exact call_tuple_same pl #[.ref p,H,I,rfl,q]
def tyV(K:Ac)(T:String)(x:V)(H:Hp):Prop:=match x with
 |.str _=>T="str"
 |.int _=>T="int"
 |.ref p=>(T="list"/\∃xs,SqL K H p xs)∨(T="tuple"/\∃o,K.lookup p=some o/\o.cls=.type "tuple"/\o.dict=none)∨
   (T="dict"/\((∃ab,H p=some (.dK ab))∨∃ab,H p=some (.dT ab)))∨(T="set"/\∃S n,H p=some (.set S n))
 |_=>False
def aYk(I:#v[3])(r:RelV x v)(ty:tyV X.K T x H):
  s.TypeIs v T/\∀a,v=.ref a->∃ob,s.heap.get? a=some ob/\ob.dict=none:=by
 cases x with
 |str z=>
  obtain⟨t,rfl⟩:=r;cases (show T="str" from ty);exact#[typeIs_str s z t,λ_ e=>nomatch e]
 |int i=>
  obtain⟨t,rfl⟩:=r;cases (show T="int" from ty);exact#[typeIs_int s i t,λ_ e=>nomatch e]
 |ref p=>
  cases r;rcases ty with ⟨rfl,xs,hq⟩|⟨rfl,o,hk,hc,hd⟩|⟨rfl,hk⟩|⟨rfl,S,n,hk⟩
  ·obtain⟨ae,_,pl,_⟩:=I.list hq;refine#[pl.isList.typeIs,λa e=>?_];cases e;obtain⟨o,n,e,c,hd,_⟩:=pl;exact#[o,e,hd]
  ·refine#[#[o,I.kIn p o hk,hc],λa e=>?_];cases e;exact#[o,I.kIn _ o hk,hd]
  ·have z:∃o,s.heap.get? p=some o/\o.ExactDict:=by
    rcases hk with ⟨ab,hk⟩|⟨ab,hk⟩
    ·obtain⟨_,_,_,_,o,_,_,e,ex,_⟩:=I.hok p _ hk;exact#[o,e,ex]
    ·obtain⟨_,_,_,_,o,_,_,e,ex,_⟩:=I.hok p _ hk;exact#[o,e,ex]
   obtain⟨o,e,ex⟩:=z;refine#[#[o,e,ex.1],λa e2=>?_];cases e2;exact#[o,e,ex.2.1]
  ·obtain⟨o,_,_,_,e,ex,_⟩:=I.hok p _ hk;refine#[#[o,e,ex.1],λa e2=>?_];cases e2;exact#[o,e,ex.2.1]
 |_=>exact Eg ty
def tBM(K:Ac)(T:String)(r:V->List V->Hp->VK->Prop)(to:TE)(t:TA):TE:=λσ H Q=>to σ H λx H1=>tyV K T x H1/\t σ H1 λxs H2=>r x xs H2 Q
variable {o e:Bu}{es:List Bu}{to:TE}{t:TA}{name:Str}{apos cpos:Pos}{T id:String}{r:V->List V->Hp->VK->Prop}
def aLe(pa:PlainAttrs T)(slot:Slot T name id)(hty:typeOf (.builtin id)=pure (.type "method_descriptor"))(hm:MtR X id r)(ho:PE X o to)(ha:PA X (e::es) t)
  (hbase:Gi o name X.env (eval o X.env)=eval o X.env:=by rfl)
  (hfew:((Im cpos (Bz (e::es) X.env)).all (λx=> !x.1) && (Ft cpos (Cz [] X.env)).all (λx=>x.1.isSome)
   && decide ((e::es).length+([]:List Ij).length+(if([]:List Ij).isEmpty then 0 else 1)<30))=true:=by rfl)
  (hline:EL apos cpos:=by rfl) (hs:SE X e es:=by rfl) (hplain:BT X cpos es:=by rfl):
  PE X (.Call (.Attribute o name apos) (e::es) [] cpos) (tBM X.K T r to t):=by
 intro aa s σ H Q I h;refine wpAny_Call_method_late hbase hfew hline rfl (thn (ho aa s σ H _ I h) λv s1 ⟨x,H1,I1,r1,ty,q1⟩=>?_);obtain⟨h1,h2⟩:=aYk I1 r1 ty;refine#[T,id,pa,slot,hty,h1,h2,?_];have hA:=ha cpos aa s1 σ H1 _ I1 q1;rw[hs]at hA⊢;refine Rc (by show(false || (Im cpos (Bz es X.env)).any (·.1))=false;rw[hplain]<;>rfl) (Se ?_);exact thn hA λus s2 ⟨vs,H2,I2,r2,q2⟩=>hm aa s2 σ H2 x vs v us Q I2 r1 r2 q2
end
def MtM(X:Cx)(id:String)(r:V->List V->Hp->VK->Prop):Prop:=
 ∀(aa:#v[4])(s:Ai)(σ:St)(H:Hp)(x:V)(xs:List V)(v:Value)(us:List Value)(Q:VK),#v[3]->RelV x v->Vals xs us->r x xs H Q->
  Bc #v[a] X.A (call (.builtin id) (v::us)) (EP X aa σ Q) X.xe s
def Vals.one:∀{x:V}{us:List Value},Vals [x] us->∃u,us=[u]/\RelV x u
 |_,_,.cons r .nil=>#[_,rfl,r]
variable {aa:#v[4]}{σ:St}{H:Hp}{s:Ai}{l b:Addr}{xs ys zs:List V}
def Inv.lset{f:Array Value->Array Value}{t':Nat}(I:#v[3])(hH:H l=some (.lst xs))
  (e:s.heap.get? l=some {cls:=.type "list",data:=.seq ae.toArray n}) (hf:f ae.toArray=its'.toArray) (hv:Vals ys its') (hz:ys.length<=sizeLine):
  Inv X aa σ (upd H l (.lst ys)) {s with heap:=s.heap.update l (Ff f),toks:=t'}:=by
 have q:=PySem.IsL.update e f;rw[hf]at q;refine I.write (x:=l) (e:=l) (by rw[hH];exact trivial) (.inl rfl) (λb' u hb hu=>(Dt s.heap (Ff f) (Cq hb)).trans hu) #[_,q] ?_;exact#[hz,its',_,hv,q]
def Inv.lnew{ae:List Value}(I:#v[3])(hv:Vals ys ae)(hz:ys.length<=sizeLine):
  Inv X aa σ (upd H #v[0] (.lst ys)) {s with heap:=s.heap.push {cls:=.type "list",data:=.seq ae.toArray},toks:=t'}:=
 I.laid (λ_ _ q=>Ae _ q) (Am _) #[hz,ae,0,hv,Ar _ rfl]
def Inv.fresh(I:#v[3]):H #v[0]=none:=I.hok.fresh (Am _)
def Inv.lstM(I:#v[3])(hH:H l=some (.lst xs)):xs.length<=sizeLine/\∃(ae:List Value)(n:Nat),Vals xs ae/\xs.length=ae.length/\s.heap.get? l=some {cls:=.type "list",data:=.seq ae.toArray n}:=by
 obtain⟨z,ae,n,r,e⟩:=I.hok l _ hH;exact#[z,ae,n,r,r.length,e]
def aP3(h:n<=sizeLine):Jo n=false:=by
 unfold Jo;exact Aa6 ∅
inductive aGl(x:V)(vs:List V)(H:Hp)(Q:VK):Prop
 |mk (l xs y:_) (q0_:x=.ref l) (q1_:vs=[y]) (q2_:H l=some (.lst xs)) (q3_:xs.length<sizeLine) (q4_:Q .non (upd H l (.lst (xs++[y])))):aGl x vs H Q
def aUd:V->List V->Hp->VK->Prop:=λx vs H Q=>aGl x vs H Q
def yV:MtM X "list.append" aUd:=by
 intro aa s σ H x vs v us Q I rx rv h;obtain⟨l,xs,y,rfl,rfl,hH,hz,q⟩:=h;cases rx;obtain⟨u,rfl,ru⟩:=rv.one;obtain⟨z,ae,n,r,hl,e⟩:=I.lstM hH;refine Te F.slot_list_append #[_,e,rfl] F.entry_list_append (F.args_list_append_2 _ _) (PySem.list_append l ae.toArray n u (by rw[Al];lia)) #[e,?_];refine#[.non,_,I.lset (its':=ae++[u]) hH e (by simp) (r.append (.cons ru .nil)) ?_,rfl,q];rw[Ak,Je]
 lia
inductive aGm(x:V)(vs:List V)(H:Hp)(Q:VK):Prop
 |mk (l b xs zs:_) (q0_:x=.ref l) (q1_:vs=[.ref b]) (q2_:H l=some (.lst xs)) (q3_:H b=some (.lst zs)) (q4_:xs.length+zs.length<=sizeLine) (q5_:Q .non (upd H l (.lst (xs++zs)))):aGm x vs H Q
def aUe:V->List V->Hp->VK->Prop:=λx vs H Q=>aGm x vs H Q
def aMq:MtM X "list.extend" aUe:=by
 intro aa s σ H x vs v us Q I rx rv h;obtain⟨l,b,xs,zs,rfl,rfl,hH,hB,hz,q⟩:=h;cases rx;obtain⟨u,rfl,ru⟩:=rv.one;cases ru;obtain⟨z,ae,n,r,hl,e⟩:=I.lstM hH;obtain⟨z2,its2,n2,r2,hl2,e2⟩:=I.lstM hB;have hsz:ae.toArray.size+its2.toArray.size<=sizeLine:=by rw[Al,Al];lia
 have hlong:¬(!ae.toArray.isEmpty && Jo (ae.toArray.size+its2.toArray.size))=true:=by
  rw[aP3 hsz,Ja];exact Au
 refine Te F.slot_list_extend #[_,e,rfl] F.entry_list_extend (F.args_list_extend_2 _ _)
  (AutoSeq1.list_extend_list_list_0 l ae.toArray n b its2.toArray n2 hlong (by rw[Al];lia) ∅) #[e,e2,?_]
 refine#[.non,_,I.lset (its':=ae++its2) hH e (by simp) (r.append r2) ?_,rfl,q];rw[Ak]
 lia
inductive aVf(x:V)(y:V)(H:Hp)(Q:VK):Prop
 |mk (l b xs zs:_) (q0_:x=.ref l) (q1_:y=.ref b) (q2_:H l=some (.lst xs)) (q3_:H b=some (.lst zs)) (q4_:xs.length+zs.length<=sizeLine) (q5_:∀p,H p=none->Q (.ref p) (upd H p (.lst (xs++zs)))):aVf x y H Q
def bA3:R2:=λx y H Q=>aVf x y H Q
def aXi:OpR X (Gw .Add) bA3:=by
 intro aa s σ H x y v u Q I rx ry h;obtain⟨l,b,xs,zs,rfl,rfl,hH,hB,hz,q⟩:=h;cases rx;cases ry;obtain⟨z,ae,n,r,hl,e⟩:=I.lstM hH;obtain⟨z2,its2,n2,r2,hl2,e2⟩:=I.lstM hB;refine PySem.P.add_list e e2 ?_ (by rw[Al,Al];lia);have ea:ae.toArray++its2.toArray=(ae++its2).toArray:=by simp
 rw[ea];exact#[.ref _,_,I.lnew (t':=s.toks) (r.append r2) (by rw[Ak];lia),rfl,q _ I.fresh]
variable {prog:Aj}{w:Bd}{A:Bp}{E:#v[c]}
end L2
namespace Att
open PySem PySem.W PySem.Calls PyProof.Rows
def aAs:∀(ns:List Int)(vs:List Value),WellAll P h vs (ns.map Zn)->Nj vs ns:=by
 intro ns;induction ns with
 |nil=>
  intro vs w;rw[Fq]at w;cases w;exact .nil
 |cons n ns ih=>
  intro vs w;rw[Br]at w;cases w with
  |cons a b=>
   cases a;exact .cons _ _ (ih _ b)
def aNh{l:OpenLaw}{n:Nat}(hn:l.most=some n){P:Params}{h:Heap}{args:List WData}{vals:List Value}
  (hpre:l.row.toRowW.claim.pre args=true) (hwl:WellAll P h vals args):
  ∃a vs ns,vals=[Ao a]/\args=[WData.list (ns.map Zn)]/\h.get? a=some {cls:=.type "list",data:=.seq vs.toArray}/\Nj vs ns/\ns.length<=n:=by
 have hsh:WShape.hasAll [] args [.list .int]=true:=(pre_splitW hpre).1;have hc:l.pre.holds [] {args:=args}=true:=(pre_splitW hpre).2;obtain⟨d,r,rfl,h1,h2⟩:=hasAllW_cons hsh;obtain rfl:=hasAllW_nil h2;obtain⟨xs,rfl,h3⟩:=hasW_list h1;obtain⟨ns,rfl⟩:=items_int h3;have hlen:ns.length<=n:=by
  unfold OpenLaw.pre at hc;have h4:(WTm.not (.lt (.lit (.int (n:Int))) (.len (.arg 0)))).holds [] {args:=[.list (ns.map .int)]}=true:=by
   have h4:=(holds_andW hc).1;rw[hn]at h4;exact h4
  have h5:=condW_of h4 (w_not (w_lt w_lit (w_len_list (w_arg rfl))));rw[Ab]at h5;refine Nat.le_of_not_lt λq=>?_;have q':(n:Int)<((ns.length:Nat):Int):=by lia
  first
   |(rw[Aa5 q']at h5;exact Aa2 h5 ⋯)
   |(simp at h5;lia)
 cases hwl with
 |cons w1 w2=>
  cases w2;cases w1 with
  |list ho hall=>exact#[_,_,ns,rfl,rfl,ho,aAs ns _ hall,hlen]
def aNe(l:OpenLaw)(args:List WData):l.row.toRowW.claim.post args (.bool true) args=true:=
 postW_of (r:=l.row.toRowW) (X:=(true==true))
  (show Xy [] (.bool true) .bool=true by first|rfl|decide|simp[Xy,WShape.arms,WShape.armsAll])
  (show(WTm.eq .res (.lit (.bool true))).value [] {args:=args,res:=some (.bool true),after:=args}=some (.bool (true==true))from w_eq_bool (w_res rfl) w_lit) rfl
def aGs{l:OpenLaw}{n:Nat}{q:Aj}{loose:List Str}{XP:(Str->#v[9])->Heap->Prop}{YP:Bd->Heap->Prop}{d:DefRec}
  (hn:l.most=some n) (hdf:d.params.defaults=[])
  (call:∀(w:Bd)(s₀ s₁:Ai)(mg mb:Str->#v[9])(fa:Addr)(o:Obj)(pm cd doc:Value)(a:Addr)(vs:List Value)(ns:List Int),
   Ground q loose [] XP w s₀ mg mb s₁.heap->YP w s₁.heap->
   s₁.heap.get? fa=some o->o.data=.func (docDef d.name d.params d.body d.scope pm cd doc)->s₁.heap.CodeRec cd d.name->mg d.name=some (.ref fa)->
   s₁.heap.get? a=some {cls:=.type "list",data:=.seq vs.toArray}->Nj vs ns->ns.length<=n->s₁.gens= (List.toArray [])->
   Ii (model l.prog w) Ro (.call (.ref fa) #[[.ref a],[]]) (λr s'=>r=.ok (.ret (.bool true))/\OldK s₁.heap s'.heap/\s'.os=s₁.os/\Og s'.gens) s₁):
  WalkO q loose XP YP l.row.toRowW d [] (λf vs=>Tz f vs):=by
 intro w s₀ s₁ mg mb G Y fa o pm cd doc dV kV ho hd hcd hD hmg hg args vals as hpre hlay hrd hwl hlo;obtain rfl:dV=.none:=Dflts.none hD hdf;obtain rfl:kV=.none:=Dflts.noKw hD;obtain⟨a,vs,ns,rfl,rfl,hobj,hints,hlen⟩:=aNh hn hpre hwl;refine enter_call (Jt (call w s₀ s₁ mg mb fa o pm cd doc a vs ns G Y ho (fd_plain hd) hcd hmg hobj hints hlen hg) λr s' hq=>?_);obtain⟨rfl,h2,h3,h4⟩:=hq;exact#[.inl #[.bool true,.bool true,[],rfl,λ_=>rfl,.bool true,aNe l _,λ_=>#[Ly,λ_ hm=>(nomatch hm)]],h2,h3,h4]
variable {prog:Aj}{w:Bd}{A:Bp}{E:#v[c]}{s:Ai}{K:Frag}
end Att
namespace L2
variable {x qual:Str}{f:Addr}
open PySem PySem.Spec PyProof.Rows
theorem aEz:∀{vs:List Value}{ns:List Int},Nj vs ns->Vals (ns.map V.int) vs
 |_,_,.nil=> .nil
 |_,_,.cons n t h=> .cons #[t,rfl] (aEz h)
def inClass(s:Stmt)(j:Nat):Stmt:=match s with
 |.ClassDef _ _ _ body _ _ _ _ _ _ _=>body.getD j (.Pass #[0,0,0,0])
 |_=> .Pass #[0,0,0,0]
def bQ(s:Stmt):Arguments:=match s with
 |.FunctionDef _ a _ _ _ _ _ _ _ _=>a
 |_=>{posonlyargs:=[],args:=[],vararg:=none,kwonlyargs:=[],kw_defaults:=[],kwarg:=none,defaults:=[]}
def bG(s:Stmt):List Stmt:=match s with
 |.FunctionDef _ _ b _ _ _ _ _ _ _=>b
 |_=>[]
def aC(s:Stmt):Scope:=match s with
 |.FunctionDef _ _ _ _ _ _ sc _ _ _=>sc
 |_=>{kind:=.function,names:=[],isGenerator:=false,isCoroutine:=false}
abbrev CX0:CXT:=λ_ _ _ _ _ _=>False
abbrev E0:XK:=λ_ _ _=>False
def aCo:tD CX0 X E0:=λ_ _ _ _ _ _ _ h=>h.elim
structure Fun(K:Ac)(x qual:Str)(st:Stmt)(f:Addr)(fd:FuncData):Prop where
 ex:∃(oc:Value)(od:Option Addr)(kV doc pm:Value)(an:Option Addr)(af ct:Value)(osl:Array (#v[9])),
  fd=Ca x qual (bQ st) (bG st) (aC st) .none kV doc pm an af ct/\K.lookup f=some #[oc,od,.func fd,osl]/\Fj K af qual=true
 kp:Hi K (.ref f)=true
variable {P:Aj}{w:Bd}{K:Ac}{mg:Str->#v[9]}{base:Heap}
def Fun.ok{st:Stmt}{fd:FuncData}{N ps:List Str}{k:Nat}{sp:Sp}(F:Fun K x qual st f fd)(S:aK N ps (aC st))(len:∀vs H Q E,sp vs H Q E->vs.length=ps.length)
  (hbody:∀(af:Value)(A:Bp)(outer:List Env)(s:Ai)(H:Hp)(vs:List V)(Q:VK)(E:XK),cV k (A.deeper (Nv qual (aC st) #v[0] f af))->sp vs H Q E->
   ∃t,PSs (aFm CX0 P w K mg base N qual (aC st) f af A outer s H E).nox (bG st) t/\t {nx:=λ_ H'=>Q .non H',rt:=Q} (start N vs) H):↥(k+1) f fd ps sp:=by
 obtain⟨oc,od,kV,doc,pm,an,af,ct,osl,rfl,lk,hcd⟩:=F.ex;refine aPk lk hcd S len λA outer s H vs Q E hr hsp=>?_;obtain⟨t,h,q⟩:=hbody af A outer s H vs Q E hr hsp;exact#[t,h.nox,q]
def Fun.binds{st:Stmt}{fd:FuncData}{ps:List Str}(F:Fun K x qual st f fd)
  (h:∀(kV doc pm:Value)(an:Option Addr)(af ct:Value)(us:List Value),us.length=ps.length->Fd (Ca x qual (bQ st) (bG st) (aC st) .none kV doc pm an af ct) #[us,[]]=pure (ps.zip us)):Binds K fd ps []:=by
 obtain⟨oc,od,kV,doc,pm,an,af,ct,osl,rfl,lk,hcd⟩:=F.ex;exact .all (h kV doc pm an af ct)
def yP{st:Stmt}{oc:Value}{od an:Option Addr}{osl:Array (#v[9])}{kV doc pm af ct:Value}(l:K.lookup f=some #[oc,od,.func (Ca x qual (bQ st) (bG st) (aC st) .none kV doc pm an af ct),osl])
  (c:Fj K af qual=true) (k:Hi K (.ref f)=true):Fun K x qual st f (Ca x qual (bQ st) (bG st) (aC st) .none kV doc pm an af ct):=#[#[oc,od,kV,doc,pm,an,af,ct,osl,rfl,l,c],k]
def sV(hr:cV k A):A.units+1<cLine:=Gz (Nat.add_le_add_left (by decide:1<=64) _) hr.units
variable {X:Cx}
def pv(i:Nat){x:Str}(hN:X.N[i]? =some x:=by rfl)(hv:Vis X.env.scope x:=by trivial)(hd:ND x:=by decide)
  (hcd:NC x:=by decide):PE X (.Name x pos) (bBo i):=fZ hN hv hd hcd
def aCc{A B:Prop}(h:B):if false=true then A else B:=by
 rw[Aa0 Au];exact h
def aMk{A B:Prop}(h:A):if true=true then A else B:=by
 rw[Aa1 rfl];exact h
def bCz{c A B:Prop} [Decidable c](h1:c->A)(h2:¬c->B):if c then A else B:=by
 by_cases h:c
 ·rw[Aa1 h];exact h1 h
 ·rw[Aa0 h];exact h2 h
def aOc(H H':Hp):Prop:=∀b o,H b=some o->H' b=some o
end L2
set_option maxHeartbeats 4000000
namespace L2
variable {ab:List (List Key×V)}{xs:List (List Key×Addr×Value)}{u:Value}{trs:List (TE×TE)}{y:V}
open PySem PySem.Spec PyProof.Rows
section
variable {κ:Type} [DecidableEq κ]
def uK(ab:List (κ×V))(k:κ):Option V:=(ab.find? λkv=>decide (kv.1=k)).map (·.2)
def putK(ab:List (κ×V))(k:κ)(v:V):List (κ×V):=
 if(ab.any λkv=>decide (kv.1=k))=true then ab.map (λkv=>if kv.1=k then(kv.1,v)else kv)else ab++[(k,v)]
def uM{p:κ×V}{r:List (κ×V)}{k:κ}(e:p.1=k):uK (p::r) k=some p.2:=by simp[uK,Ex,e]
def uL{p:κ×V}{r:List (κ×V)}{k:κ}(e:¬p.1=k):uK (p::r) k=uK r k:=by simp[uK,Ex,e]
theorem aH9(k:κ):∀ab:List (κ×V),(ab.any λkv=>decide (kv.1=k))=(uK ab k).isSome
 | []=>rfl
 |p::r=>by
  rw[Ig];by_cases e:p.1=k
  ·simp only[uM e,Aa5 e,Bool.true_or,Sr]
  ·rw[uL e,Aa6 e,Bool.false_or];exact aH9 k r
def tU(ab:List (κ×V))(k:κ)(v:V):(putK ab k v).length<=ab.length+1:=by
 unfold putK;split
 ·rw[Ab];lia
 ·rw[Ak,An,Jw];lia
def uU.isSome_eq{u:#v[9]}(r:uU o u):o.isSome=u.isSome:=by
 cases o with
 |none=>cases u with
  |none=>rfl
  |some _=>exact(show False from r).elim
 |some _=>cases u with
  |none=>exact(show False from r).elim
  |some _=>rfl
def KV.val{ab:List (κ×V)}{vs:List (κ×Value)}(r:KV ab vs)(k:κ):uU (uK ab k) (Rj vs k):=by
 unfold KV at r;induction r with
 |nil=>exact Er
 |@cons p q ps qs h t ih=>
  obtain⟨h1,h2⟩:=h;by_cases e:p.1=k
  ·have e':q.1=k:=h1.symm.trans e;have b:Rj (q::qs) k=some q.2:=by simp[Rj,Ex,e']
   rw[uM e,b];exact h2
  ·have e':¬q.1=k:=λz=>e (h1.trans z);have b:Rj (q::qs) k=Rj qs k:=by simp[Rj,Ex,e']
   rw[uL e,b];exact ih
def KV.any{ab:List (κ×V)}(r:KV ab vs)(k:κ):(ab.any λkv=>decide (kv.1=k))=vs.any λkv=>decide (kv.1=k):=by
 unfold KV at r;induction r with
 |nil=>rfl
 |cons h t ih=>rw[Ig,Ig,ih,h.1]
def KV.repl{ab:List (κ×V)}(r:KV ab vs)(k:κ)(ry:RelV y u):
  KV (ab.map λkv=>if kv.1=k then(kv.1,y)else kv) (vs.map λkv=>if kv.1=k then(kv.1,u)else kv):=by
 unfold KV at r⊢;induction r with
 |nil=>exact .nil
 |@cons p q ps qs h t ih=>
  rw[Br,Br];refine .cons ?_ ih;obtain⟨h1,h2⟩:=h;by_cases e:p.1=k
  ·rw[Aa1 e,Aa1 (h1.symm.trans e)];exact#[h1,ry]
  ·rw[Aa0 e,Aa0 (λz=>e (h1.trans z))];exact#[h1,h2]
def KV.put{ab:List (κ×V)}(r:KV ab vs)(k:κ)(ry:RelV y u):KV (putK ab k y) (stored vs k u):=by
 unfold putK stored;rw[r.any k];by_cases e:(vs.any λkv=>decide (kv.1=k))=true
 ·rw[Aa1 e,Aa1 e];exact r.repl k ry
 ·rw[Aa0 e,Aa0 e];exact Xc r #[rfl,ry]
def KV.length{ab:List (κ×V)}(r:KV ab vs):ab.length=vs.length:=Qd r
end
def aK6(r:RelV (kV k) u):(eG P w).is k u=true:=by
 cases k with
 |inl i=>obtain⟨t,e⟩:=(show∃t,u=Dx i t from r);subst e;exact aHi P w i t
 |inr x=>obtain⟨t,e⟩:=(show∃t,u=Ot x t from r);subst e;exact aHj P w x t
theorem aEj:∀{ks:List Key}{us:List Value},Vals (ks.map kV) us->ItemsAre (eG P w) ks us
 | [],_,r=>by rw[Fq]at r;cases r;exact .nil
 |k::ks,_,r=>by
  rw[Br]at r;cases r with
  |cons h t=>exact .cons (aK6 h) (aEj t)
abbrev KT(H:Hp):List (List Key×V)->List (List Key×Addr×Value)->Prop:=Vc λp q=>p.1=q.1/\H q.2.1=some (.tup (p.1.map kV))/\RelV p.2 q.2.2
def KT.val{H:Hp}(r:KT H ab xs)(k:List Key):uU (uK ab k) ((Kg xs k).map (·.2)):=by
 induction r with
 |nil=>exact Er
 |@cons p q ps qs h t ih=>
  obtain⟨h1,_,h2⟩:=h;by_cases e:p.1=k
  ·have e':q.1=k:=h1.symm.trans e;have b:Kg (q::qs) k=some q.2:=by simp[Kg,Ex,e']
   rw[uM e,b];exact h2
  ·have e':¬q.1=k:=λz=>e (h1.trans z);have b:Kg (q::qs) k=Kg qs k:=by simp[Kg,Ex,e']
   rw[uL e,b];exact ih
def KT.repl(r:KT H ab xs)(k:List Key)(ry:RelV y u):
  KT H (ab.map λkv=>if kv.1=k then(kv.1,y)else kv) (xs.map (putAt k u)):=by
 induction r with
 |nil=>exact .nil
 |@cons p q ps qs h t ih=>
  rw[Br,Br];refine .cons ?_ ih;obtain⟨h1,h2,h3⟩:=h;unfold putAt;by_cases e:p.1=k
  ·rw[Aa1 e,Aa1 (h1.symm.trans e)];exact#[h1,h2,ry]
  ·rw[Aa0 e,Aa0 (λz=>e (h1.trans z))];exact#[h1,h2,h3]
def KT.put(r:KT H ab xs)(k:List Key)(hb:H b=some (.tup (k.map kV)))(ry:RelV y u):
  KT H (putK ab k y) (Iw xs k b u):=by
 have e:(ab.any λkv=>decide (kv.1=k))=(Kg xs k).isSome:=by
  rw[aH9,(r.val k).isSome_eq,Option.isSome_map]
 unfold putK Iw;rw[e];by_cases q:(Kg xs k).isSome=true
 ·rw[Aa1 q,Aa1 q];exact r.repl k ry
 ·rw[Aa0 q,Aa0 q];exact Xc r #[rfl,hb,ry]
def KT.keeps(r:KT H ab xs)(ht:∀b ys,H b=some (.tup ys)->H' b=some (.tup ys)):KT H' ab xs:=
 Paired.mapP r λ_ _ z=>#[z.1,ht _ _ z.2.1,z.2.2]
variable {P:Aj}{w:Bd}{H:Hp}{h:Heap}{a:Addr}
def aWc{u:HO}(ok:HOk P w H h)(e:Rd H a u):bL P w H h a u:=e.ok ok
def aG2{ab:List (Key×V)}(ok:HOk P w H h)(e:Rd H a (.dK ab)):ab.length<=sizeLine/\(a==Fz)=false/\∃vs,KV ab vs/\h.DictOf (eG P w) a vs:=
 show bL P w H h a (.dK ab)from aWc ok e
def aKv{ab:List (Key×V)}(ok:HOk P w H h)(e:H a=some (.dK ab)):ab.length<=sizeLine/\(a==Fz)=false/\∃vs,KV ab vs/\h.DictOf (eG P w) a vs:=aG2 ok (.inl e)
def aJh(ok:HOk P w H h)(e:H a=some (.tup (ks.map kV))):(Iv (eG P w)).is h ks a:=by
 obtain⟨_,ae,r,o,h1,h2,n,h3⟩:=(show bL P w H h a (.tup (ks.map kV))from ok a _ e);exact#[o,ae.toArray,n,h1,h2,h3,by simpa using aEj r]
def aKx(ok:HOk P w H h)(e:Rd H a (.dT ab)):ab.length<=sizeLine/\(a==Fz)=false/\
  ∃xs,KT H ab xs/\h.DictOfH (Iv (eG P w)) a xs:=by
 obtain⟨z,y,xs,r,o,es,ep,h1,h2,h3,h4,h5⟩:=(show bL P w H h a (.dT ab)from aWc ok e);refine#[z,y,xs,r,o,es,ep,h1,h2,h3,h4,λx hx=>?_,h5];have all:∀{l:List (List Key×V)}{m:List (List Key×Addr×Value)},KT H l m->∀x∈m,(Iv (eG P w)).is h x.1 x.2.1:=by
  intro l m q;induction q with
  |nil=>intro x hx;exact nomatch hx
  |@cons p q ps qs hq t ih=>
   intro x hx;rcases Ax.mp hx with e|hx
   ·subst e;exact aJh ok (by rw[<-hq.1];exact hq.2.1)
   ·exact ih x hx
 exact all r x hx
def aZv(ok:HOk P w H h)(e:H a=some (.dT ab)):ab.length<=sizeLine/\(a==Fz)=false/\
  ∃xs,KT H ab xs/\h.DictOfH (Iv (eG P w)) a xs:=aKx ok (.inl e)
def aBp(H:Hp)(a:Addr)(y:V)(r:Option V):Prop:=
 (∃ab k,Rd H a (.dK ab)/\y=kV k/\r=uK ab k)∨∃ab k b,Rd H a (.dT ab)/\y=.ref b/\H b=some (.tup (k.map kV))/\r=uK ab k
def aL0(H:Hp)(a:Addr)(y v:V)(H':Hp):Prop:=
 (∃ab k,H a=some (.dK ab)/\y=kV k/\ab.length<sizeLine/\H'=upd H a (.dK (putK ab k v)))∨
 ∃ab k b,H a=some (.dT ab)/\y=.ref b/\H b=some (.tup (k.map kV))/\ab.length<sizeLine/\H'=upd H a (.dT (putK ab k v))
theorem aBp.k{H:Hp}{a:Addr}{ab:List (Key×V)}{k:Key}(e:H a=some (.dK ab)):aBp H a (kV k) (uK ab k):=.inl #[ab,k,.inl e,rfl,rfl]
theorem aL0.k{H:Hp}{a:Addr}{ab:List (Key×V)}{k:Key}{v:V}(e:H a=some (.dK ab))(hl:ab.length<sizeLine):aL0 H a (kV k) v (upd H a (.dK (putK ab k v))):=.inl #[ab,k,e,rfl,hl,rfl]
variable {X:Cx}{aa:#v[4]}{σ:St}{s:Ai}{y v:V}{u r:Value}{o:Option V}{A:Bp}{E:#v[c]}
def Inv.big(I:#v[3]):Fz<#v[0]:=by
 have h:mainGlobals<#v[0]:=(I.mod.glob.keeps I.bk).lt;exact Hx ⋯ h
def aMd(hu:A.units+1<cLine)(I:#v[3])(g:aBp H a y (some v))(ry:RelV y u)(h:∀w' s',Inv X aa σ H s'->RelV v w'->Q w' s'):
  Bc #v[a] A (Pm (.ref a) u) Q E s:=by
 rcases g with ⟨ab,k,e,ey,l⟩|⟨ab,k,b,e,ey,eb,l⟩
 ·subst ey;obtain⟨z,hd,vs,rel,dd⟩:=aG2 I.hok e;obtain⟨w',hw,rw'⟩:=uU.some_of (v:=v) (o:=Rj vs k) (by rw[l];exact rel.val k);exact wpAny_getItem_of (aK6 ry) dd.mapOf hw (h w' _ (I.tok _) rw')
 ·subst ey;cases (show u=Ao b from ry);obtain⟨z,hd,xs,rel,dd⟩:=aKx I.hok e;obtain⟨w',hw,rw'⟩:=uU.some_of (v:=v) (o:=(Kg xs k).map (·.2)) (by rw[l];exact rel.val k);obtain⟨p,hp,hp2⟩:=Dp.mp hw;refine Lc (Ws hu) (aJh I.hok eb) dd hp ?_;rw[hp2];exact h w' _ (I.tok _) rw'
def wV(I:#v[3])(mu:Mut (H a))(hs:Em a s.heap h')(he:∃q,h'.get? a=some q)(new:bL X.prog X.w (upd H a ob) h' a ob):
  Inv X aa σ (upd H a ob) {s with heap:=h',toks:=t'}:=
 I.write (x:=a) (e:=a) mu (.inl rfl) (λb q hb z=>(hs.2 b hb).trans z) he new
def aFn{P:Aj}{w:Bd}{ab:List (Key×V)}(z:ab.length<=sizeLine)(hd:(a==Fz)=false)(rel:KV ab vs)(dd:h'.DictOf (eG P w) a vs):
  bL P w H' h' a (.dK ab):=#[z,hd,vs,rel,dd]
def aMe(hu:A.units+1<cLine)(I:#v[3])(g:aL0 H a y v H')(ry:RelV y u)(rv:RelV v r)(h:∀s',Inv X aa σ H' s'->Q () s'):
  Bc #v[a] A (Zk (.ref a) u r) Q E s:=by
 rcases g with ⟨ab,k,e,ey,l,eH⟩|⟨ab,k,b,e,ey,eb,l,eH⟩
 ·subst ey eH;obtain⟨z,hd,vs,rel,dd⟩:=aKv I.hok e;have hz:vs.length<=sizeLine:=by rw[<-rel.length];exact z
  have hl:(putK ab k v).length<=sizeLine:=by have:=tU ab k v;lia
  refine wpAny_setItem_pairs (hsz:=hz) (aK6 ry) dd λh' dd' hs=>h _ ?_;have he:∃q,h'.get? a=some q:=let⟨q,_,_,hq,_⟩:=dd';#[q,hq];exact wV I (by rw[e];exact Er) hs he (aFn hl hd (rel.put k rv) dd')
 ·subst ey eH;cases (show u=Ao b from ry);obtain⟨z,hd,xs,rel,dd⟩:=aZv I.hok e;have hz:xs.length<=sizeLine:=by rw[<-Qd rel];exact z
  have hl:(putK ab k v).length<=sizeLine:=by have:=tU ab k v;lia
  refine Wq (hsz:=hz) (Ws hu) (aJh I.hok eb) dd λh' dd' hs=>h _ ?_;obtain⟨q,es,ep,hq,h2,h3,h4,_,h5⟩:=dd';refine wV I (by rw[e];exact Er) hs #[q,hq] #[hl,hd,_,(rel.put k eb rv).keeps λc ys ec=>?_,q,es,ep,hq,h2,h3,h4,h5];rw[aJ (bAk ec e (λz=>nomatch z))];exact ec
variable {ab:List (Key×V)}{k:Key}
def aFa(i:Bu):Prop:=∀ov iv,subscripted i false ov iv=operate [ov,iv] (Pm ov iv)
def aBj{prog:Aj}{w:Bd}{A:Bp}{E:#v[c]}{s:Ai}{env:Env}{value slice:Bu}{pos:Pos}{T id:String}{Q:#v[c]}
  (hl:Sy (.type T) "__getitem__"=pure (some (.builtin id))) (hs:aFa slice)
  (h:Bc #v[b] A (eval value env) (λo s₁=>Bc #v[b] A (eval slice env) (λi s₂=>s₂.TypeIs o T/\Bc #v[b] A (Pm o i) Q E s₂) E s₁) E s):
  Bc #v[b] A (eval (.Subscript value slice pos) env) Q E s:=by
 refine Ya (Ep h (λo s₁ h₁=>Ep h₁ (λi s₂ h₂=>?_) λ_ _ x=>x) λ_ _ x=>x);obtain⟨hT,h₂⟩:=h₂;unfold Tv;refine Aa ?_;rw[getitemInPython_of_ne hT.not_modules];refine Aa (Gp hT hl ?_);have fin:Bc #v[b] A (subscripted slice false o i) (λr s₃=>Bc #v[b] A (letTemporaryGo value o r>>=λ_=>pure r) Q E s₃) E s₂:=by
  rw[hs o i];exact wpAny_operating (Ep h₂ (λr s₃ h₃=>Aa (wpAny_letTemporaryGo (Ad h₃))) λ_ _ x=>x)
 first
  |exact Ad (Aa fin)
  |exact Aa (Ad (Aa fin))
  |exact Aa fin
def aG1{X:Cx}{aa:#v[4]}{σ:St}{H:Hp}{s:Ai}{a:Addr}{y:V}{o:Option V}(I:#v[3])(g:aBp H a y o):s.TypeIs (.ref a) "dict":=by
 rcases g with ⟨ab,k,e,_,_⟩|⟨ab,k,b,e,_,_,_⟩
 ·obtain⟨_,_,vs,_,dd⟩:=aG2 I.hok e;exact dd.typeIs
 ·obtain⟨_,_,xs,_,dd⟩:=aKx I.hok e;exact dd.typeIs
def bBd(td ty:TE):TE:=λσ H Q=>td σ H λx H1=>ty σ H1 λy H2=>∃a v,x=.ref a/\aBp H2 a y (some v)/\Q v H2
def bBb(td ty tv:TE):TS:=λD σ H=>tv σ H λv H1=>td σ H1 λx H2=>ty σ H2 λy H3=>∃a H4,x=.ref a/\aL0 H3 a y v H4/\D.nx σ H4
section
variable {X:Cx}{o i e value:Bu}{pos pos' tpos:Pos}{td ty tv:TE}
def aBe(hu:X.A.units+1<cLine)(ho:PE X o td)(hi:PE X i ty)(hs:aFa i):PE X (.Subscript o i pos) (bBd td ty):=by
 intro aa s σ H Q I h;refine aBj Hj.lookup hs (thn (ho aa s σ H _ I h) λu s1 ⟨x,H1,I1,rx,q1⟩=>thn (hi aa s1 σ H1 _ I1 q1) λiv s2 ⟨y,H2,I2,ry,a,v,ex,g,q2⟩=>?_);subst ex;obtain rfl:u=Ao a:=rx;exact#[aG1 I2 g,aMd hu I2 g ry λw' s3 I3 rw'=>#[v,H2,I3,rw',q2]]
def aLg(hu:X.A.units+1<cLine)(ho:PE X o td)(hi:PE X i ty)(hv:PE X value tv)(hs:Ed value (some (.Subscript o i pos')) pos.line X.env=pure false):
  PS X (.Assign [.Subscript o i pos'] value pos) (bBb td ty tv):=by
 intro aa s σ H D I h;refine Uj (thn (hv aa s σ H _ I h) λr s1 ⟨v,H1,I1,rv,q1⟩=>thn (ho aa s1 σ H1 _ I1 q1) λu s2 ⟨x,H2,I2,rx,q2⟩=>thn (hi aa s2 σ H2 _ I2 q2) λiv s3 ⟨y,H3,I3,ry,a,H4,ex,g,q3⟩=>?_) hs;subst ex;obtain rfl:u=Ao a:=rx;exact aMe hu I3 g ry rv λs4 I4=>#[σ,H4,I4,q3]
end
def aOw{P:Aj}{w:Bd}{H:Hp}(h:Heap)(hb:Fz<h.objs.size):bL P w H (h.push #v[6]) h.objs.size (.dK []):=
 #[Bt _,beq_eq_false_iff_ne.mpr (Cq (Aw hb)),[],.nil,Zw h]
variable {pos:Pos}
def aF8:List (TE×TE)->St->Hp->(List (V×V)->Hp->Prop)->Prop
 | [],_,H,Q=>Q [] H
 |(tk,tv)::r,σ,H,Q=>tk σ H λx H1=>tv σ H1 λy H2=>aF8 r σ H2 λps H3=>Q ((x,y)::ps) H3
abbrev VV:List (V×V)->List (Value×Value)->Prop:=Vc λp q=>RelV p.1 q.1/\RelV p.2 q.2
def PPs(X:Cx)(pos:Pos)(keys:List (Option Bu))(values:List Bu)(trs:List (TE×TE)):Prop:=
 ∀(aa:#v[4])(s:Ai)(σ:St)(H:Hp)(Q:List (V×V)->Hp->Prop),#v[3]->aF8 trs σ H Q->
  Bc #v[a] X.A (evalPairs (pairTrees keys values X.env pos)) (λvs s'=>∃ps H',Inv X aa σ H' s'/\VV ps vs/\Q ps H') X.xe s
def aUa{X:Cx}{pos:Pos}:PPs X pos [] [] []:=λaa s σ H Q I h=>pairTrees_nil_walk #[[],H,I,.nil,h]
def aQ9{X:Cx}{pos:Pos}{k v:Bu}(hk:PE X k tk)(hv:PE X v tv)(hr:PPs X pos ks vs trs):
  PPs X pos (some k::ks) (v::vs) ((tk,tv)::trs):=λaa s σ H Q I h=>
 pairTrees_cons_walk (thn (hk aa s σ H _ I h) λu s1 ⟨x,H1,I1,rx,q1⟩=>thn (hv aa s1 σ H1 _ I1 q1) λw2 s2 ⟨y,H2,I2,ry,q2⟩=>
  thn (hr aa s2 σ H2 _ I2 q2) λws s3 ⟨ps,H3,I3,rel,q3⟩=>#[(x,y)::ps,H3,I3,.cons #[rx,ry] rel,q3])
def rB(ab more:List (Key×V)):List (Key×V):=more.foldl (λag kv=>putK ag kv.1 kv.2) ab
def KV.merge:∀{more:List (Key×V)}{rs:List (Key×Value)}{ab:List (Key×V)}{vs:List (Key×Value)},KV more rs->KV ab vs->KV (rB ab more) (merged vs rs):=by
 intro more rs ab vs r;unfold KV at r;induction r generalizing ab vs with
 |nil=>intro q;exact q
 |@cons p q ps qs h t ih=>
  intro r0;have e:KV (putK ab p.1 p.2) (stored vs q.1 q.2):=by
   have:=r0.put p.1 h.2;rw[<-h.1];exact this
  exact ih e
theorem pN:∀(more ab:List (Key×V)),(rB ab more).length<=ab.length+more.length
 | [],ab=>by show ab.length<=ab.length+0;lia
 |p::r,ab=>by
  have h1:=pN r (putK ab p.1 p.2);have h2:=tU ab p.1 p.2;show(rB (putK ab p.1 p.2) r).length<=_;rw[An];lia
theorem aB3{P:Aj}{w:Bd}:∀{ab:List (Key×V)}{ws:List (Value×Value)},VV (ab.map λkv=>(kV kv.1,kv.2)) ws->∃rs,Carries (eG P w) ws rs/\KV ab rs
 | [],_,r=>by rw[Fq]at r;cases r;exact#[[],Er,.nil]
 |p::ab,_,r=>by
  rw[Br]at r;cases r with
  |@cons a b as bs h t=>
   obtain⟨rs,c,q⟩:=aB3 (P:=P) (w:=w) t;obtain⟨b1,b2⟩:=b;exact#[(p.1,b2)::rs,#[aK6 h.1,rfl,c],.cons #[rfl,h.2] q]
def bBf(trs:List (TE×TE)):TE:=λσ H Q=>∀p,H p=none->aF8 trs σ (upd H p (.dK [])) λps H2=>H2 p=some (.dK [])/\∃ab:List (Key×V),ps=ab.map (λkv=>(kV kv.1,kv.2))/\ab.length<=15/\Q (.ref p) (upd H2 p (.dK (rB [] ab)))
def aTy{X:Cx}{pos:Pos}(h:PPs X pos keys values trs)(hall:keys.all (·.isSome)=true)(hl:keys.length=values.length)(h0:keys≠[])
  (h15:keys.length<=15):PE X (.Dict keys values pos) (bBf trs):=by
 intro aa s σ H Q I q;have hn:=I.hok.fresh (Am #v[0]);have I1:=I.laid (a:=#v[0]) (o:=.dK []) (h':=s.heap.push #v[6]) (t':=s.toks) (λ_ _ q=>Ae _ q) (Am _) (aOw s.heap I.big);refine wpAny_Dict_walk (knd:=eG X.prog X.w) hall hl h0 h15 (thn (h aa _ σ _ _ I1 (q _ hn)) λws s2 ⟨ps,H2,I2,rel,e,ab,ep,lk,q2⟩=>?_);subst ep;obtain⟨rs,c,rk⟩:=aB3 (P:=X.prog) (w:=X.w) rel;obtain⟨z,hd,vs0,r0,dd⟩:=aKv I2.hok e;cases r0;refine#[rs,c,dd,λh' dd' hs=>#[.ref #v[0],_,?_,rfl,q2]];have hz:(rB [] ab).length<=sizeLine:=by
  have h1:=pN ab [];rw[Jw]at h1;rw[Ez];lia
 have he:∃q,h'.get? #v[0]=some q:=let⟨q,_,_,hq,_⟩:=dd';#[q,hq];exact wV I2 (by rw[e];exact Er) hs he (aFn hz hd (rk.merge .nil) dd')
structure M1(X:Cx)(o:Bu)(m:Str)(apos:Pos)(e:Bu)(cpos:Pos):Prop where
 base:Gi o m X.env (eval o X.env)=eval o X.env
 few:((Im cpos (Bz [e] X.env)).all (λx=> !x.1) && (Ft cpos (Cz [] X.env)).all (λx=>x.1.isSome)
  && decide (([e]:List Bu).length+([]:List Ij).length+(if([]:List Ij).isEmpty then 0 else 1)<30))=true
 line:EL apos cpos
 trees:Im cpos (Bz [e] X.env)=[(false,eval e X.env)]
def IsD(H:Hp)(a:Addr):Prop:=(∃ab,Rd H a (.dK ab))∨∃ab,Rd H a (.dT ab)
def aW2{X:Cx}{aa:#v[4]}{σ:St}{H:Hp}{s:Ai}{a:Addr}(I:#v[3])(d:IsD H a):
  s.TypeIs (.ref a) "dict"/\(∀b,Ao a=.ref b->∃ob,s.heap.get? b=some ob/\ob.dict=none)/\(a==Fz)=false:=by
 rcases d with ⟨ab,e⟩|⟨ab,e⟩
 ·obtain⟨_,hd,vs,_,dd⟩:=aG2 I.hok e;refine#[dd.typeIs,λb q=>?_,hd];cases q;obtain⟨ob,_,_,h1,h2,_⟩:=dd;exact#[ob,h1,h2.2.1]
 ·obtain⟨_,hd,xs,_,dd⟩:=aKx I.hok e;refine#[dd.typeIs,λb q=>?_,hd];cases q;obtain⟨ob,_,_,h1,h2,_⟩:=dd;exact#[ob,h1,h2.2.1]
variable {y d:V}
section
variable {X:Cx}{o e f:Bu}{apos cpos:Pos}{td ty tx:TE}
end
def aOv(I:#v[3])(e:Rd H a (.dK ab))(h:∀p s',H p=none->Inv X aa σ (upd H p (.dK ab)) s'->Q (.ref p) s'):Bc #v[a] A (call (.type "dict") [.ref a]) Q E s:=by
 obtain⟨z,hd,vs,rel,dd⟩:=aG2 I.hok e;refine kt_call_dict hd dd (by rw[<-rel.length];exact z) λh' dd' hs=>?_;refine h _ _ (I.hok.fresh (Am _)) (I.laid (a:=#v[0]) (o:=.dK ab) (t':=s.toks) (λb q hq=>?_) (Am _) (aFn z (beq_eq_false_iff_ne.mpr (Cq (Aw I.big))) rel dd'));exact(hs.2 b (Aw (As hq))).trans (Ae _ hq)
section
variable {κ:Type} [DecidableEq κ]
end
end L2
namespace PySem
variable {xs:Array Nat}{a:Addr}{j:Nat}{h h':Heap}{α:Type}{items:Array Value}{i:Nat}{n:Nat}{e:Nat}{N:Nat}
open AutoSeq1 (wpAny_loadPart')
open Sem (wp)
variable {prog:Aj}{w:Bd}{A:Bp}{E:#v[c]}{s:Ai}
def xH(hit:s.heap.IsTupleIter it t i)(ht:s.heap.IsTuple t items)(hx:items[i]? =some x)
  (hQ:∀h',h'.IsTupleIter it t (i+1)->Em it s.heap h'->Q x {s with heap:=h'}):Bc #v[b] A (Df (.ref it)) Q E s:=by
 obtain⟨o,ho,hc,hd⟩:=id hit;obtain⟨ol,hol,_,nl,hdl⟩:=ht;unfold Df;refine Aa (Do (name:=Fs "__next__") hit.typeIs Hn
  (Co Hn hit.typeIs Qs ?_ (Qj _)))
 show Bc _ _ (field (.ref it) 0>>=_) _ _ s;refine Aa (Ey ho hd (x:=.ref t) rfl ?_);show Bc _ _ (if(Ao t==Cg)=true then _ else _) _ _ s;rw[Aa0 (show¬((Ao t==Cg)=true)from Au)];show Bc _ _ (field (.ref it) 1>>=_) _ _ s;refine Aa (Ey ho hd (x:=.int i 0) rfl ?_);show Bc _ _ (Oq (.ref t)>>=_) _ _ s;refine Aa (Cy hol hdl ?_);simp only[Hl,hx];refine Aa (Hz ho hd (by simp) (Ad #[x,rfl,Ad (hQ _ ?_ (Cp ..))]));exact⟨_,Cv _ ho (Jf (Fg hd _)),(Kz ..).trans hc,by
  rw[Fg hd];simp[Ji]⟩
def yW(hh:A.handled=none)(hit:s.heap.IsTupleIter it t i)(ht:s.heap.IsTuple t items)(hx:items[i]? =none)
  (hE:∀h' e,Pe it s.heap h'->(∃o,h'.get? e=some o/\o.cls=.type "StopIteration")->E (.ref e) {s with heap:=h'}):Bc #v[b] A (Df (.ref it)) Q E s:=by
 obtain⟨o,ho,hc,hd⟩:=id hit
 obtain⟨ol,hol,_,nl,hdl⟩:=ht
 unfold Df
 refine Aa (Do (name:=Fs "__next__") hit.typeIs Hn
  (Co Hn hit.typeIs Qs ?_ (Qj _)))
 show Bc _ _ (field (.ref it) 0>>=_) _ _ s
 refine Aa (Ey ho hd (x:=.ref t) rfl ?_)
 show Bc _ _ (if(Ao t==Cg)=true then _ else _) _ _ s
 rw[Aa0 (show¬((Ao t==Cg)=true)from Au)]
 show Bc _ _ (field (.ref it) 1>>=_) _ _ s
 refine Aa (Ey ho hd (x:=.int i 0) rfl ?_)
 show Bc _ _ (Oq (.ref t)>>=_) _ _ s
 refine Aa (Cy hol hdl ?_)
 simp only[Hl,hx]
 refine Aa (Il (Aa (Hz ho hd (by simp) ?_)))
 show Bc _ _ (Wu (.type "StopIteration") []>>=_) _ _ _
 refine Aa ?_
 simp only[Wu,newTuple]
 refine Aa (Ck ?_ (by size_fits))
 refine Aa (m:=Jm _ _) (Nz (a:=Cg) (by first|rfl|(simp only[Jm];rfl)) ?_)
 refine Ck ?_ (by size_fits)
 simp only[raiseNew]
 refine Aa (Tu ?_)
 first|rw[show A.in1.handled=none from hh]|rw[hh]
 refine Aa (Ad (Vy ?_))
 exact hE _ _ (((Cp ..).extBut.push _).push _) #[_,Ar _ rfl,rfl]
structure aSl(h:Heap)(z TI TO i1 i2 t l:Addr)(k:Nat)(f0:Value):Prop where
 z:Wm h z TI TO f0
 ti:IsPair h TI (.ref i1) (.ref i2)
 to:∃a b,IsPair h TO a b
 h1:h.IsTupleIter i1 t k
 h2:h.IsListIter i2 l k
def aNx{xs ys:Array Value}(D:Qv z TI TO i1 i2 t l)(S:aSl s.heap z TI TO i1 i2 t l k .none)
  (hl1:s.heap.IsTuple t xs) (hl2:s.heap.IsList l ys) (hx:xs[k]? =some x) (hy:ys[k]? =some y)
  (hQ:∀h',aSl h' z TI TO i1 i2 t l (k+1) (Ji #v[0])->IsPair h' #v[0] x y->h'.objs.size=#v[0]+1->
   (∀c o,c≠z->c≠TO->c≠i1->c≠i2->s.heap.get? c=some o->h'.get? c=some o)->Q (some (.ref #v[0])) {s with heap:=h'}):
  Bc #v[b] A (Ia (.ref z)) Q E s:=by
 obtain⟨hz,hTI,⟨a,b,hTO⟩,h1,h2⟩:=S;have hT:s.TypeIs (.ref z) "zip":=#[_,hz,rfl];unfold Ia;refine Aa (Mf (Do (name:=Fs "__next__") hT Mu (Co Mu hT Xk ?_ (Wp _))));show Bc _ _ (field (.ref z) 2>>=_) _ _ _;refine Aa (Ey hz rfl (x:=.bool false) rfl ?_);show Bc _ _ (field (.ref z) 3>>=_) _ _ _;refine Aa (Ey hz rfl (x:=.ref TI) rfl ?_);refine Aa (Cy hTI rfl ?_);show Bc _ _ (Et (.ref z)>>=_) _ _ _;refine Aa ?_;unfold Et;refine Aa (Ey hz rfl (x:=.none) rfl (Ad ?_));simp only[Ab2];refine Aa (Il ?_);refine Aa (Ey hz rfl (x:=.ref TO) rfl ?_);refine Aa (Iu hz (by simp) λh₁ hz₁ hs₁=>?_)
 replace hz₁:Wm h₁ z TI TO .ellipsis:=hz₁
 refine Aa ?_;simp only[Ve,Vu,Jy,Mr];refine Aa (Aa (Tq ?_));show Bc _ _ (Df (.ref i1)>>=_) _ _ _;refine Aa (xH (h1.extBut hs₁.extBut D.i1z) (hl1.extBut hs₁.extBut D.l1z) hx λh₂ h1₂ hs₂=>Ad ?_);have hTO₂:IsPair h₂ TO a b:=hs₂.extBut _ _ D.TOi1 (hs₁.extBut _ _ D.TOz hTO);refine Aa (Cy hTO₂ rfl ?_);refine Aa (Vp hTO₂ λh₃ hTO₃ hs₃=>?_)
 replace hTO₃:IsPair h₃ TO x b:=hTO₃
 refine Aa (Me (Ad ?_));refine Aa (Aa (Tq ?_));show Bc _ _ (Df (.ref i2)>>=_) _ _ _;refine Aa (wpAny_nextOf_list_item (((h2.extBut hs₁.extBut D.i2z).extBut hs₂.extBut D.i12.symm).extBut hs₃.extBut D.TOi2.symm)
  (((hl2.extBut hs₁.extBut D.l2z).extBut hs₂.extBut D.l2i1).extBut hs₃.extBut D.l2TO) hy λh₄ h2₄ hs₄=>Ad ?_)
 have hTO₄:IsPair h₄ TO x b:=hs₄.extBut _ _ D.TOi2 hTO₃;refine Aa (Cy hTO₄ rfl ?_);refine Aa (Vp hTO₄ λh₅ hTO₅ hs₅=>?_)
 replace hTO₅:IsPair h₅ TO x y:=hTO₅
 refine Aa (Me (Ad (Ad ?_)));refine Aa (Cy hTO₅ rfl ?_);refine Aa (wpAny_newTuple ?_);have hsz:h₅.objs.size=#v[0]:=by rw[hs₅.1,hs₄.1,hs₃.1,hs₂.1,hs₁.1]
 have hz₅:Wm h₅ z TI TO .ellipsis:=hs₅.extBut _ _ D.TOz.symm (hs₄.extBut _ _ D.i2z.symm (hs₃.extBut _ _ D.TOz.symm (hs₂.extBut _ _ D.i1z.symm hz₁)));have hk₅:∀c o,c≠z->c≠TO->c≠i1->c≠i2->s.heap.get? c=some o->h₅.get? c=some o:=λc o c1 c2 c3 c4 e=>
  hs₅.extBut _ _ c2 (hs₄.extBut _ _ c4 (hs₃.extBut _ _ c2 (hs₂.extBut _ _ c3 (hs₁.extBut _ _ c1 e))))
 have h1₅:h₅.IsTupleIter i1 t (k+1):=((h1₂.extBut hs₃.extBut D.TOi1.symm).extBut hs₄.extBut D.i12).extBut hs₅.extBut D.TOi1.symm;have h2₅:h₅.IsListIter i2 l (k+1):=h2₄.extBut hs₅.extBut D.TOi2.symm;have hzlt:z<h₅.objs.size:=As hz₅;show Bc _ _ (Kd (.ref z) (.ref h₅.objs.size)>>=_) _ _ _;refine Aa ?_;unfold Kd;have hz₆:Wm (h₅.push {cls:=.type "tuple",data:=.seq (List.toArray [x,y])}) z TI TO .ellipsis:=Ae _ hz₅;refine Aa (Iu hz₆ (by simp) λh₇ hz₇ hs₇=>?_)
 replace hz₇:Wm h₇ z TI TO (Ji h₅.objs.size):=hz₇
 refine Iu hz₇ (by simp) λh₈ hz₈ hs₈=>?_
 replace hz₈:Wm h₈ z TI TO (Ji h₅.objs.size):=hz₈
 have up:∀c o,c≠z->h₅.get? c=some o->h₈.get? c=some o:=λc o c1 e=>hs₈.extBut _ _ c1 (hs₇.extBut _ _ c1 (Ae _ e));have hT₈:IsPair h₈ h₅.objs.size x y:=hs₈.extBut _ _ (Hw hzlt) (hs₇.extBut _ _ (Hw hzlt) (Ar _ rfl));have hz8:h₈.objs.size=h₅.objs.size+1:=by rw[hs₈.1,hs₇.1,Cw]
 rw[hsz]at hz₈ hT₈ hz8;refine Ad #[_,rfl,Ad ?_];show Q (some (.ref h₅.objs.size)) _;rw[hsz];exact hQ h₈ #[hz₈,up _ _ D.TIz (hk₅ _ _ D.TIz D.TITO D.TIi1 D.TIi2 hTI),#[_,_,up _ _ D.TOz hTO₅],h1₅.at λo e=>up _ o D.i1z e,h2₅.at λo e=>up _ o D.i2z e] hT₈ hz8 λc o c1 c2 c3 c4 e=>up c o c1 (hk₅ c o c1 c2 c3 c4 e)
def aSk{xs:Array Value}(hh:A.handled=none)(D:Qv z TI TO i1 i2 t l)(S:aSl s.heap z TI TO i1 i2 t l k .none)
  (hl1:s.heap.IsTuple t xs) (hx:xs[k]? =none)
  (hQ:∀h',(∀c o,c≠z->c≠TO->c≠i1->c≠i2->s.heap.get? c=some o->h'.get? c=some o)->Q none {s with heap:=h'}):Bc #v[b] A (Ia (.ref z)) Q E s:=by
 obtain⟨hz,hTI,⟨a,b,hTO⟩,h1,h2⟩:=S;have hT:s.TypeIs (.ref z) "zip":=#[_,hz,rfl];unfold Ia;refine Aa (Mf (Do (name:=Fs "__next__") hT Mu (Co Mu hT Xk ?_ (Wp _))));show Bc _ _ (field (.ref z) 2>>=_) _ _ _;refine Aa (Ey hz rfl (x:=.bool false) rfl ?_);show Bc _ _ (field (.ref z) 3>>=_) _ _ _;refine Aa (Ey hz rfl (x:=.ref TI) rfl ?_);refine Aa (Cy hTI rfl ?_);show Bc _ _ (Et (.ref z)>>=_) _ _ _;refine Aa ?_;unfold Et;refine Aa (Ey hz rfl (x:=.none) rfl (Ad ?_));simp only[Ab2];refine Aa (Il ?_);refine Aa (Ey hz rfl (x:=.ref TO) rfl ?_);refine Aa (Iu hz (by simp) λh₁ hz₁ hs₁=>?_)
 replace hz₁:Wm h₁ z TI TO .ellipsis:=hz₁
 refine Aa ?_;simp only[Ve,Vu,Jy,Mr];refine Aa (Aa (Tq ?_));show Bc _ _ (Df (.ref i1)>>=_) _ _ _;refine Aa (yW hh (h1.extBut hs₁.extBut D.i1z) (hl1.extBut hs₁.extBut D.l1z) hx λh₂ e hs₂ he=>?_);obtain⟨oe,hoe,hce⟩:=he;have hz₂:Wm h₂ z TI TO .ellipsis:=hs₂ _ _ D.i1z.symm hz₁;have hez:e≠z:=λx=>by subst x;rw[hz₂]at hoe;cases hoe;simp at hce
 refine Iu hz₂ (by simp) λh₃ _ hs₃=>?_;refine Aa (Gg (T:="StopIteration") (b:=true) #[oe,hs₃.extBut _ _ hez hoe,hce] Sh ?_);exact Ad (hQ _ λc o c1 _ c3 _ x=>hs₃.extBut _ _ c1 (hs₂ _ _ c3 (hs₁.extBut _ _ c1 x)))
abbrev zT1(h:Heap)(t:Addr):Heap:=h.push {cls:=.type "tuple_iterator",data:=.fields (List.toArray [.ref t,.int 0 0])}
abbrev zT2(h:Heap)(t l:Addr):Heap:=(zT1 h t).push {cls:=.type "list_iterator",data:=.fields (List.toArray [.ref l,.int 0 0])}
abbrev zT3(h:Heap)(t l:Addr):Heap:=(zT2 h t l).push {cls:=.type "tuple",data:=.seq (List.toArray [.ref h.objs.size,.ref (zT1 h t).objs.size])}
abbrev zT4(h:Heap)(t l:Addr):Heap:=(zT3 h t l).push {cls:=.type "tuple",data:=.seq (List.toArray [.none,.none])}
abbrev zT5(h:Heap)(t l:Addr):Heap:=(zT4 h t l).push {cls:=.type "zip",data:=.fields (List.toArray [.none,.bool false,.bool false,.ref (zT2 h t l).objs.size,.ref (zT3 h t l).objs.size])}
def aCi(t l:Addr)(xs ys:Array Value):
  Meets (Builtin.«zip.__new__» #[[.type "zip",.ref t,.ref l],[]]) (λ_ R s=>s.heap.IsTuple t xs/\s.heap.IsList l ys/\
   R (.ok (.ret (.ref (zT4 s.heap t l).objs.size))) {s with heap:=zT5 s.heap t l}):=
 .of_wp λprog w A R s h=>by
  obtain⟨hp,g,d,tk,os⟩:=s;obtain⟨hl1,hl2,h⟩:=h;have hsub:=sub_zip;have hL1:Heap.IsTuple (Xa #[hp,g,d,tk,os]) t xs:=hl1;have hL2:Heap.IsList (Xa #[hp.push {cls:=.type "tuple_iterator",data:=.fields (List.toArray [.ref t,.int 0 0])},g,d,tk,os]) l ys:=Zv hl2 _
  wp_walk using Wr hL1,Jj hL2
  exact#[_,rfl,h]
def aL9{prog:Aj}{w:Bd}{A:Bp}{E:#v[c]}{s:Ai}{xs ys:Array Value}(hl1:s.heap.IsTuple t xs)(hl2:s.heap.IsList l ys)
  (h:∀h',aSl h' (#v[0]+4) (#v[0]+2) (#v[0]+3) #v[0] (#v[0]+1) t l 0 .none->(∀c o,s.heap.get? c=some o->h'.get? c=some o)->Q (.ref (#v[0]+4)) {s with heap:=h'}):
  Bc #v[b] A (call (.type "zip") [.ref t,.ref l]) Q E s:=by
 refine callType_new F.called_zip ⋯ (F.typeCall_zip_2 _ _) (F.newCall_zip_2 _ _) (λobj=>F.args_object_init_3 obj _ _) F.entry_zip_new (aCi t l xs ys) #[hl1,hl2,?_];have z1:(zT1 s.heap t).objs.size=#v[0]+1:=Cw ..;have z2:(zT2 s.heap t l).objs.size=#v[0]+2:=by rw[Cw,z1]
 have z3:(zT3 s.heap t l).objs.size=#v[0]+3:=by rw[Cw,z2]
 have z4:(zT4 s.heap t l).objs.size=#v[0]+4:=by rw[Cw,z3]
 have g5:(zT5 s.heap t l).get? (zT4 s.heap t l).objs.size=some _:=Ar _ rfl;have g4:(zT5 s.heap t l).get? (zT3 s.heap t l).objs.size=some _:=Ae _ (Ar _ rfl);have g3:(zT5 s.heap t l).get? (zT2 s.heap t l).objs.size=some _:=Ae _ (Ae _ (Ar _ rfl));have g2:(zT5 s.heap t l).get? (zT1 s.heap t).objs.size=some _:=Ae _ (Ae _ (Ae _ (Ar _ rfl)));have g1:(zT5 s.heap t l).get? #v[0]=some _:=Ae _ (Ae _ (Ae _ (Ae _ (Ar _ rfl))));show _/\_;rw[z2,z3,z4]at g5;rw[z1,z2]at g3;rw[z3]at g4;rw[z1]at g2;rw[z4];exact⟨#[_,g5,rfl],h _ #[g5,g3,#[_,_,g4],#[_,g1,rfl,rfl],#[_,g2,rfl,rfl]] λc o x=>
  Ae _ (Ae _ (Ae _ (Ae _ (Ae _ x))))⟩
section
variable {prog:Aj}{w:Bd}{K:Type} [DecidableEq K](knd:KeyKind prog w K)
def bK(h:Heap)(x:K×List K)(a:Addr):Prop:=∃o v b n,h.get? a=some o/\o.cls=.type "tuple"/\o.data=.seq (List.toArray [v,.ref b]) n/\knd.is x.1 v=true/\Jl knd h x.2 b
def tX(x:K×List K):Int:=reduceHash (El [knd.hash x.1,Jr knd x.2])
variable {knd}
def bK.typeIs{s:Ai}{x:K×List K}(h:bK knd s.heap x a):s.TypeIs (.ref a) "tuple":=let⟨o,_,_,_,ho,hc,_⟩:=h;#[o,ho,hc]
def bK.inj{h:Heap}(hx:bK knd h x a)(hy:bK knd h y a):x=y:=by
 obtain⟨o,v,b,n,ho,_,hd,h1,h2⟩:=hx;obtain⟨o',v',b',n',ho',_,hd',h1',h2'⟩:=hy;obtain rfl:o=o':=Bj (ho.symm.trans ho');rw[hd]at hd';injection hd' with e _
 have e1:v=v'/\b=b':=by simpa using e
 obtain⟨rfl,rfl⟩:=e1;exact Qz (knd.inj _ _ _ h1 h1') (h2.inj h2')
def bK.keeps{a d:Addr}{es ep}(hx:bK knd h x a)(ho:h.get? d=some o)(hd:o.data=.dict es ep)(hs:Em d h h'):bK knd h' x a:=by
 obtain⟨o',v,b,n,ho',hc,hd',h1,h2⟩:=hx;have hne:a≠d:=by
  rintro rfl;obtain rfl:o'=o:=Bj (ho'.symm.trans ho);rw[hd]at hd';exact nomatch hd'
 exact#[o',v,b,n,(hs.2 a hne).trans ho',hc,hd',h1,h2.keeps ho hd hs]
variable {A:Bp}{E:#v[c]}{s:Ai}
def yF{x:K×List K}{Q:Int->Ai->Prop}(hu:A.units+1<cLine)(hk:bK knd s.heap x a)(h:Q (tX knd x) {s with toks:=s.toks+(x.2.length+3)}):
  Bc #v[b] A (pyHash (.ref a)) Q E s:=by
 have hT:=hk.typeIs
 obtain⟨o,v,b,n,ho,_,hd,h1,h2⟩:=hk
 unfold pyHash
 first|unfold pyHashByItsType|skip
 first|refine Aa (wpAny_cRoomFor_or (.inr ∅) ?_)|skip
 refine Aa (Gp hT F.slot_tuple_hash.lookup ?_)
 show Bc _ _ (if(some (Wg "tuple.__hash__")==some Cg)=true then _ else _) Q E s
 rw[Aa0 (by rw[beq_builtin_none];exact Au)]
 refine Aa (Gp hT F.slot_tuple_hash.lookup ?_)
 show Bc _ _ (callSpecialIfBoundUnlessNone? (.ref a) "__hash__" _>>=_) Q E s
 refine Aa (wpAny_callSpecialIfBoundUnlessNone?_slot hT Wn (Co Wn hT F.entry_tuple_hash ?_ (F.args_tuple_hash_1 _)))
 show Bc _ _ (My (.ref a)>>=_) _ _ s
 refine Aa (Ir ho hd ?_)
 refine Aa ?_
 rw[<-Gd]
 refine Fm _
  (λrest(r:Array Int) s'=>(rest=[v,.ref b]/\r= (List.toArray [])/\s'=s)∨(rest=[.ref b]/\r= (List.toArray [knd.hash x.1])/\s'={s with toks:=s.toks+1})∨(rest=[]/\r= (List.toArray [knd.hash x.1,Jr knd x.2])/\s'={s with toks:=s.toks+1+(x.2.length+1)}))
  _ ?_ ?_ _ _ (.inl #[rfl,rfl,rfl])
 ·rintro y rest r s' (⟨e,rfl,rfl⟩|⟨e,rfl,rfl⟩|⟨e,_,_⟩)
  ·obtain⟨rfl,rfl⟩:=Dq e
   refine Aa (knd.pyHash h1 ?_)
   exact Ad (.inr (.inl #[rfl,rfl,rfl]))
  ·obtain⟨rfl,rfl⟩:=Dq e
   refine Aa (wpAny_pyHash_tuple (show A.in1.units<cLine from hu) h2 ?_)
   exact Ad (.inr (.inr #[rfl,rfl,rfl]))
  ·cases e
 ·rintro r s' (⟨e,_,_⟩|⟨e,_,_⟩|⟨_,rfl,rfl⟩)
  ·cases e
  ·cases e
  ·show Bc _ _ (retInt (El [knd.hash x.1,Jr knd x.2])) _ _ _
   refine wpAny_ret_mkInt ?_
   show Bc _ _ (if(decide (-(2:Int) ^ 63<=El [knd.hash x.1,Jr knd x.2]) && decide (El [knd.hash x.1,Jr knd x.2]<2 ^ 63))=true then _ else _) Q E _
   have et:s.toks+1+(x.2.length+1)+1=s.toks+(x.2.length+3):=by lia
   unfold tX reduceHash at h
   by_cases hr:(decide (-(2:Int) ^ 63<=El [knd.hash x.1,Jr knd x.2]) && decide (El [knd.hash x.1,Jr knd x.2]<2 ^ 63))=true
   ·rw[Aa1 hr]
    rw[Aa1 hr, <-et]at h
    exact Ad h
   ·rw[Aa0 hr]
    rw[Aa0 hr, <-et]at h
    exact Aa (Il (Ad h))
def aFw{x y:K×List K}{a b:Addr}{P:Fin->Ai->Prop}(hu:A.units<cLine)(hx:bK knd s.heap x a)(hy:bK knd s.heap y b)(h:P (.done (.ret (.bool (decide (x=y))))) s):
  Bc #v[b] A (Builtin.«tuple.__eq__» #[[.ref a,.ref b],[]]) P E s:=by
 have hTb:=hy.typeIs;obtain⟨oa,va,ba,na,hoa,_,hda,h1,h2⟩:=hx;obtain⟨ob,vb,bb,nb,hob,_,hdb,h1',h2'⟩:=hy;show Bc _ _ (Tc (.ref b) (.type "tuple")>>=_) _ _ s;refine Aa (Gg hTb Js ?_)
 ac_rfl
 refine Aa (Ir hoa hda ?_);refine Aa (Ir hob hdb ?_);refine Aa ?_;refine Fm _
  (λrest r s'=>r.1=none/\s'=s/\((rest=[(va,vb),(.ref ba,.ref bb)])∨(rest=[(.ref ba,.ref bb)]/\x.1=y.1)∨(rest=[]/\x=y)))
  _ ?_ ?_ _ _ #[rfl,rfl,.inl rfl]
 ·rintro⟨u,v⟩ rest r s' ⟨hr,rfl,(e|⟨e,e1⟩|⟨e,_⟩)⟩
  ·obtain⟨e2,rfl⟩:=Dq e;cases e2;refine Aa (knd.eqBool (a:=x.1) (b:=y.1) h1 h1' ?_);by_cases hk:x.1=y.1
   ·rw[Aa5 hk]
    ac_rfl
    exact Ad #[by first|rfl|trivial,by first|rfl|trivial,by first|exact .inr (.inl #[rfl,hk])|simp[hk]]
   ·rw[Aa6 hk];simp only[Kj,Ab2];have hf:decide (x=y)=false:=Aa6 λz=>hk (by rw[z]);rw[hf]at h;exact Aa (Ad (Ad (Ad h)))
  ·obtain⟨e2,rfl⟩:=Dq e;cases e2;refine Aa (wpAny_eqBool_tuple hu h2 h2' ?_);by_cases hk:x.2=y.2
   ·rw[Aa5 hk]
    ac_rfl
    exact Ad #[by first|rfl|trivial,by first|rfl|trivial,by first|exact .inr (.inr #[rfl,Qz e1 hk])|simp[e1,hk,Prod.ext_iff]]
   ·rw[Aa6 hk];simp only[Kj,Ab2];have hf:decide (x=y)=false:=Aa6 λz=>hk (by rw[z]);rw[hf]at h;exact Aa (Ad (Ad (Ad h)))
  ·cases e
 ·rintro⟨r1,r2⟩ s' ⟨hr,rfl,(e|⟨e,_⟩|⟨_,e⟩)⟩
  ·cases e
  ·cases e
  ·simp only at hr;subst hr;refine Ad ?_;rw[Aa5 e]at h;exact h
def yE{x y:K×List K}{a b:Addr}{Q:Bool->Ai->Prop}(hu:A.units+1<cLine)(hx:bK knd s.heap x a)(hy:bK knd s.heap y b)(h:Q (decide (x=y)) s):
  Bc #v[b] A (eqBool (.ref a) (.ref b)) Q E s:=by
 unfold eqBool
 try with_reducible refine Ci ?_
 show Bc _ _ (if(Ao a==Ao b)=true then _ else _) Q E s;by_cases hab:(Ao a==Ao b)=true
 ·rw[Aa1 hab];have e:a=b:=by have:=Aa8 hab;injection this
  subst e;obtain rfl:=hx.inj hy;exact Aa (Il (Ad (by simpa using h)))
 ·rw[Aa0 hab];exact Aa (Rg (op:=.Eq) hx.typeIs hy.typeIs Ye
   (Co Ye hx.typeIs F.entry_tuple_eq (aFw (by show A.units+1<cLine;exact hu) hx hy #[_,rfl,(λe=>nomatch e),Dn h]) (F.args_tuple_eq_2 _ _)) ∅)
def sH(hk:Jl knd s.heap ks a)(h:Q true s):Bc #v[b] A (Uz (n+1) (.ref a)) Q E s:=by
 have hT:=hk.typeIs;obtain⟨o,items,m,ho,_,hd,hi⟩:=hk;unfold Uz;refine Aa (Gp hT F.slot_tuple_eq.lookup ?_);show Bc _ _ (Tc (.ref a) (.type "tuple")>>=_) _ _ s;refine Aa (Gg hT Js ?_)
 ac_rfl
 refine Aa (Cy ho hd ?_);refine Aa ?_;show Bc _ _ (forIn items _ _) _ _ s;rw[<-Gd];refine Fm _ (λrest r s'=>r.1=none/\s'=s/\∀v∈rest,Si v=true) _ ?_ ?_ _ _ #[rfl,rfl,hi.byValue]
 ·rintro v rest r s' ⟨hr,rfl,hall⟩;rw[Xv _ (hall v Ag)];refine Aa (Ad ?_)
  ac_rfl
  exact Ad #[rfl,rfl,λu hu'=>hall u (Ah _ hu')]
 ·rintro⟨r1,r2⟩ s' ⟨hr,rfl,_⟩;simp only at hr;subst hr;exact Ad h
def uN{x:K×List K}{Q:Bool->Ai->Prop}(hk:bK knd s.heap x a)(h:Q true s):Bc #v[b] A (Uz 8 (.ref a)) Q E s:=by
 have hT:=hk.typeIs;obtain⟨o,v,b,m,ho,_,hd,h1,h2⟩:=hk;unfold Uz;refine Aa (Gp hT F.slot_tuple_eq.lookup ?_);show Bc _ _ (Tc (.ref a) (.type "tuple")>>=_) _ _ s;refine Aa (Gg hT Js ?_)
 ac_rfl
 refine Aa (Cy ho hd ?_);refine Aa ?_;show Bc _ _ (forIn _ _ _) _ _ s;rw[<-Gd];refine Fm _ (λrest r s'=>r.1=none/\s'=s/\∀u∈rest,u=v∨u=.ref b) _ ?_ ?_ _ _ #[rfl,rfl,λu hu=>by simpa using hu]
 ·rintro u rest r s' ⟨hr,rfl,hall⟩;rcases hall u Ag with rfl|rfl
  ·rw[Xv _ (knd.byValue _ _ h1)];refine Aa (Ad ?_)
   ac_rfl
   exact Ad #[rfl,rfl,λu hu'=>hall u (Ah _ hu')]
  ·refine Aa (sH h2 ?_)
   ac_rfl
   exact Ad #[rfl,rfl,λu hu'=>hall u (Ah _ hu')]
 ·rintro⟨r1,r2⟩ s' ⟨hr,rfl,_⟩;simp only at hr;subst hr;exact Ad h
end
def iI{prog:Aj}{w:Bd}{K:Type} [DecidableEq K](knd:KeyKind prog w K):Hh prog w (K×List K) where
 is:=bK knd
 hash:=tX knd
 draws:=λx=>x.2.length+3
 room:=λA=>A.units+1<cLine
 inj:=λhx hy=>hx.inj hy
 keeps:=λx ho hd hs=>x.keeps ho hd hs
 pyHash:=λhu hk h=>yF hu hk h
 eqBool:=λhu hx hy h=>yE hu hx hy h
 quiet:=λhk h=>uN hk h
namespace SetTable
def jE(mask:Nat):Nat->Nat×Nat->Nat×Nat
 |0,p=>p
 |m+1,p=>jE mask m (leap mask p.1 p.2)
theorem vH(mask:Nat):∀m p,(jE mask m p).2=p.2 / 32 ^ m
 |0,p=>by rw[jE,Nat.pow_zero,Nat.div_one]
 |m+1,p=>by
  rw[jE,vH mask m];show p.2 / 32 / 32 ^ m=_;rw[Nat.div_div_eq_div_mul,Ml,Nat.mul_comm]
theorem aEm(mask:Nat):∀m k p,jE mask (m+k) p=jE mask k (jE mask m p)
 |0,k,p=>by rw[Oi,jE]
 |m+1,k,p=>by rw[Yu,jE,aEm mask m k,jE]
def five(mask i:Nat):Nat:=(i*5+1) % (mask+1)
def aG9(mask:Nat):Nat->Nat->Nat
 |0,i=>i
 |m+1,i=>aG9 mask m (five mask i)
theorem aCd(mask:Nat):∀m i,(jE mask m (i,0))=(aG9 mask m i,0)
 |0,i=>rfl
 |m+1,i=>by
  rw[jE,aG9];show jE mask m ((i*5+1+0 / 32) % (mask+1),0 / 32)=_;rw[Nat.zero_div,Nat.add_zero];exact aCd mask m (five mask i)
theorem aHg(mask:Nat):∀m p,(jE mask (m+1) p).1<=mask
 |0,p=>by
  show(p.1*5+1+p.2 / 32) % (mask+1)<=mask;have:=Ra (p.1*5+1+p.2 / 32) (show 0<mask+1 by lia)
  lia
 |m+1,p=>by rw[jE];exact aHg mask m _
def Round(mask:Nat):Prop:=∀i,i<=mask->∀e,e<=mask->∃k,k<=mask/\aG9 mask (k+1) i=e
def aRp{mask:Nat}(h:∀i:_root_.Fin (mask+1),∀e:_root_.Fin (mask+1),∃k:_root_.Fin (mask+1),aG9 mask (k.1+1) i.1=e.1):Round mask:=λi hi e he=>by
 obtain⟨k,hk⟩:=h #[i,∅] #[e,∅];exact#[k.1,∅,hk]
def aX8:Round 7:=aRp #v[1]
def aJj{mask:Nat}(R:Round mask)(he:e<=mask)(i perturb:Nat)(hp:perturb<2 ^ 64):∃L,1<=L/\L<=mask+14/\(jE mask L (i,perturb)).1=e:=by
 have h13:(jE mask 13 (i,perturb)).2=0:=by
  rw[vH];exact Nat.div_eq_of_lt (Ba hp ⋯)
 have hi:=aHg mask 12 (i,perturb);obtain⟨k,hk,e1⟩:=R _ hi e he;refine#[13+(k+1),∅,∅,?_];rw[aEm];have e2:jE mask 13 (i,perturb)=((jE mask 13 (i,perturb)).1,0):=Qz rfl h13;rw[e2,aCd];exact e1
variable {t:SetTable}{hashAt:Nat->Int}{h:Int}
def aRq(mask i:Nat):Rm mask i-i<=9:=by unfold Rm;split<;>lia
def aS1(hd:∀j,t.slot j≠.dummy)(he:t.slot e=.empty):∀(fuel:Nat)(p:Probe)(L:Nat),1<=L->(jE t.mask L (p.i,p.perturb)).1=e->p.more+2+10*(L-1)<=fuel->∃m,Kf t hashAt h fuel p=some m:=by
 intro fuel;induction fuel with
 |zero=>intro p L h1 _ h3;lia
 |succ fuel ih=>
  intro p L h1 h2 h3;have step:∃m,Kf t hashAt h fuel (t.advance p)=some m:=by
   unfold advance;by_cases hm:p.more>0
   ·rw[Aa1 hm];exact ih _ L h1 h2 (by show p.more-1+2+10*(L-1)<=fuel;lia)
   ·rw[Aa0 hm];match L,h1 with
    |1,_=>
     have h4:(leap t.mask p.i p.perturb).1=e:=h2;cases fuel with
     |zero=>lia
     |succ f=>
      show∃m,(match t.slot (leap t.mask p.i p.perturb).1 with|.empty=>_|.dummy=>_|.live i=>_)=some m;rw[h4,he];exact#[_,rfl]
    |L+2,_=>
     have hr:=aRq t.mask (leap t.mask p.i p.perturb).1;exact ih _ (L+1) ∅ h2 (by show Rm t.mask (leap t.mask p.i p.perturb).1-(leap t.mask p.i p.perturb).1+2+10*(L+1-1)<=fuel;lia)
  show∃m,(match t.slot p.j with|.empty=>some (.empty p.j p.dummy)|.dummy=>Kf t hashAt h fuel (t.advance {p with dummy:=some p.j})|.live i=>if(hashAt i==h)=true then some (.candidate p.j i (t.advance p))else Kf t hashAt h fuel (t.advance p))=some m;cases hs:t.slot p.j with
  |empty=>exact#[_,rfl]
  |dummy=>exact Aa2 hs (hd _)
  |live i=>
   by_cases hh:(hashAt i==h)=true
   ·exact#[_,Aa1 hh]
   ·obtain⟨m,hm⟩:=step;exact#[m,by simp only;rw[Aa0 hh];exact hm]
def aJ0(R:Round t.mask)(he:e<=t.mask)(hd:∀j,t.slot j≠.dummy)(hs:t.slot e=.empty)(p:Probe)(hp:p.perturb<2 ^ 64)(hm:p.more<=9):∃m,t.probe hashAt h p=some m:=by
 obtain⟨L,h1,h2,h3⟩:=aJj R he p.i p.perturb hp;refine aS1 hd hs _ p L h1 h3 ?_;unfold turns
 lia
def vO(xs:Array Nat):Prop:=∀i k,i<k->k<xs.size->xs.getD i 0<xs.getD k 0
def aB9{i a b:Nat}(h:i<xs.size):xs.getD i a=xs.getD i b:=by simp[Jp,h]
def aOf(R:vO xs):∀(fuel lo hi:Nat),lo<=hi->hi<=xs.size->hi-lo<=fuel->(∀i,i<lo->xs.getD i 0<j)->(∀i,hi<=i->i<xs.size->j<=xs.getD i 0)->
  Oh xs j fuel lo hi<=xs.size/\(∀i,i<Oh xs j fuel lo hi->xs.getD i 0<j)/\∀i,Oh xs j fuel lo hi<=i->i<xs.size->j<=xs.getD i 0:=by
 intro fuel;induction fuel with
 |zero=>
  intro lo hi h1 h2 h3 a b;have:lo=hi:=by lia
  subst this;exact#[h2,a,b]
 |succ fuel ih=>
  intro lo hi h1 h2 h3 a b;have key:Oh xs j (fuel+1) lo hi=if lo<hi then(if xs.getD ((lo+hi) / 2) j<j then Oh xs j fuel ((lo+hi) / 2+1) hi else Oh xs j fuel lo ((lo+hi) / 2))else lo:=rfl
  rw[key];by_cases hl:lo<hi
  ·have hm:(lo+hi) / 2<xs.size:=by lia
   rw[Aa1 hl];by_cases hx:xs.getD ((lo+hi) / 2) j<j
   ·rw[Aa1 hx];refine ih _ _ ∅ h2 ∅ (λi hi'=>?_) b;by_cases e:i=(lo+hi) / 2
    ·subst e;rw[aB9 hm (b:=j)];exact hx
    ·have:=R i ((lo+hi) / 2) ∅ hm;rw[aB9 hm (b:=j)]at this
     lia
   ·rw[Aa0 hx];refine ih _ _ ∅ ∅ ∅ a λi hi' hs=>?_;rw[aB9 hm (b:=0)]at hx;by_cases e:i=(lo+hi) / 2
    ·subst e;lia
    ·have:=R ((lo+hi) / 2) i ∅ hs
     lia
  ·have:lo=hi:=by lia
   subst this;rw[Aa0 hl];exact#[h2,a,b]
def iW(R:vO xs)(j:Nat):below xs j<=xs.size/\(∀i,i<below xs j->xs.getD i 0<j)/\∀i,below xs j<=i->i<xs.size->j<=xs.getD i 0:=
 aOf R _ _ _ (Bt _) (Am _) ∅ (λi h=>Aa2 h (Eh i)) λi h1 h2=>by lia
def below_at(R:vO xs)(h:i<xs.size):below xs (xs.getD i 0)=i:=by
 obtain⟨_,h2,h3⟩:=iW R (xs.getD i 0);rcases Od (below xs (xs.getD i 0)) i with z|z|z
 ·have:=h3 (below xs (xs.getD i 0)) (Am _) ∅;have:=R _ i z h
  lia
 ·exact z
 ·have:=h2 i z
  lia
def aPn{i j:Nat}:xs[i]? =some j↔i<xs.size/\xs.getD i 0=j:=by
 by_cases h:i<xs.size
 ·simp[Jp,h]
 ·simp[h]
def aEu(R:vO t.place){i j:Nat}(h:t.place[i]? =some j):t.slot j=.live i:=by
 obtain⟨h1,rfl⟩:=aPn.mp h;unfold slot;dsimp only;rw[below_at R h1,h];simp
def aJ7(hd:t.dummies= (List.toArray []))(h:∀i:Nat,t.place[i]? ≠some j):t.slot j=.empty:=by
 unfold slot;dsimp only;have h1:(t.place[below t.place j]? ==some j)=false:=beq_eq_false_iff_ne.mpr (h _);rw[h1];have h2:has t.dummies j=false:=by rw[hd];unfold has;simp
 rw[h2];rfl
theorem wI(hd:t.dummies= (List.toArray []))(j:Nat):t.slot j=.empty∨∃i:Nat,t.slot j=.live i/\t.place[i]? =some j:=by
 have:has (List.toArray []) j=false:=by simp[has]
 grind [slot]
def rT(hd:t.dummies= (List.toArray []))(j:Nat):t.slot j≠.dummy:=by
 rcases wI hd j with e|⟨i,e,_⟩<;>rw[e]<;>intro z<;>cases z
def aJ8(hd:t.dummies= (List.toArray []))(hs:t.place.size<=t.mask):∃e,e<=t.mask/\t.slot e=.empty:=by
 refine Classical.byContradiction λno=>?_;have all:∀e,e<=t.mask->∃i:Nat,t.place[i]? =some e:=λe he=>by
  rcases wI hd e with z|⟨i,_,z⟩
  ·exact Aa2 #[e,he,z] no
  ·exact#[i,z]
 have sub:Dl (t.mask+1) ⊆ t.place.toList:=λe he=>by
  obtain⟨i,hi⟩:=all e (by have:=Dj.mp he;lia);obtain⟨h1,h2⟩:=Ke.mp hi;rw[<-h2];simp
 have:=(Lg (n:=t.mask+1)).length_le_of_subset sub;rw[Hg,Bg]at this
 lia
def aHz(R:Round t.mask)(hd:t.dummies= (List.toArray []))(hs:t.place.size<=t.mask)(p:Probe)(hp:p.perturb<2 ^ 64)(hm:p.more<=9):∃m,t.probe hashAt h p=some m:=by
 obtain⟨e,he,h1⟩:=aJ8 hd hs;exact aJ0 R he (rT hd) h1 p hp hm
def adv(mask:Nat)(p:Probe):Probe:=if p.more>0 then{p with j:=p.j+1,more:=p.more-1}else{p with j:=(leap mask p.i p.perturb).1,more:=Rm mask (leap mask p.i p.perturb).1-(leap mask p.i p.perturb).1,i:=(leap mask p.i p.perturb).1,perturb:=(leap mask p.i p.perturb).2}
def advs(mask:Nat):Nat->Probe->Probe
 |0,p=>p
 |n+1,p=>advs mask n (adv mask p)
theorem aGq(mask:Nat):∀m k p,advs mask (m+k) p=advs mask k (advs mask m p)
 |0,k,p=>by rw[Oi,advs]
 |m+1,k,p=>by rw[Yu,advs,aGq mask m k,advs]
def aD3(mask:Nat)(p:Probe):(adv mask p).dummy=p.dummy:=by unfold adv;split<;>rfl
def aV4(fuel:Nat)(p:Probe):Kf t hashAt h (fuel+1) p=match t.slot p.j with|.empty=>some (.empty p.j p.dummy)|.dummy=>Kf t hashAt h fuel (t.advance {p with dummy:=some p.j})|.live i=>if(hashAt i==h)=true then some (.candidate p.j i (t.advance p))else Kf t hashAt h fuel (t.advance p):=rfl
def aS2(hd:∀j,t.slot j≠.dummy):∀(fuel:Nat)(p:Probe)(N:Nat),t.slot (advs t.mask N p).j=.empty->N<fuel->p.dummy=none->
    ∃n,n<=N/\(∀m,m<n->∃i,t.slot (advs t.mask m p).j=.live i/\hashAt i≠h)/\
      ((t.slot (advs t.mask n p).j=.empty/\Kf t hashAt h fuel p=some (.empty (advs t.mask n p).j none))∨
       ∃i,t.slot (advs t.mask n p).j=.live i/\hashAt i=h/\Kf t hashAt h fuel p=some (.candidate (advs t.mask n p).j i (advs t.mask (n+1) p))):=by
  intro fuel;induction fuel with
  |zero=>intro p N _ h2;lia
  |succ fuel ih=>
    intro p N h1 h2 h3;rw[aV4];cases hs:t.slot p.j with
    |empty=>exact#[0,Bt _,λm hm=>Aa2 hm (Eh m),.inl #[hs,by rw[h3];rfl]]
    |dummy=>exact Aa2 hs (hd _)
    |live i=>
      by_cases hh:hashAt i=h
      · exact#[0,Bt _,λm hm=>Aa2 hm (Eh m),.inr #[i,hs,hh,by dsimp only;rw[Aa1 (beq_iff_eq.mpr hh)];rfl]]
      · cases N with
        |zero=>
          have h1':t.slot p.j=.empty:=h1;rw[hs]at h1';cases h1'
        |succ N=>
          obtain⟨n,a1,a2,a3⟩:=ih (adv t.mask p) N h1 ∅ (by rw[aD3];exact h3);have hb:¬(hashAt i==h)=true:=λz=>hh (beq_iff_eq.mp z);refine#[n+1,∅,λm hm=>?_,?_]
          · cases m with
            |zero=>exact#[i,hs,hh]
            |succ m=>exact a2 m ∅
          · rcases a3 with ⟨b1,b2⟩|⟨i',b1,b2,b3⟩
            · exact .inl #[b1,by dsimp only;rw[Aa0 hb];exact b2]
            · exact .inr #[i',b1,b2,by dsimp only;rw[Aa0 hb];exact b3]
def aPp(hn:∀i,hashAt i≠h)(hd:∀j,t.slot j≠.dummy):∀(fuel:Nat)(p:Probe)(m:Met),Kf t hashAt h fuel p=some m->∃N,N<fuel/\t.slot (advs t.mask N p).j=.empty:=by
 intro fuel;induction fuel with
 |zero=>intro p m e;cases e
 |succ fuel ih=>
  intro p m e;rw[aV4]at e;cases hs:t.slot p.j with
  |empty=>exact#[0,Oj _,hs]
  |dummy=>exact Aa2 hs (hd _)
  |live i=>
   rw[hs]at e;dsimp only at e;rw[Aa0 (λz=>hn i (beq_iff_eq.mp z))]at e;obtain⟨N,h1,h2⟩:=ih _ _ e;exact#[N+1,∅,h2]
def aI9(R:Round t.mask)(hd:t.dummies= (List.toArray []))(hs:t.place.size<=t.mask)(p:Probe)(hp:p.perturb<2 ^ 64)(hm:p.more<=9):∃N,N<10*turns t.mask/\t.slot (advs t.mask N p).j=.empty:=by
 obtain⟨m,e⟩:=aHz (hashAt:=λ_=>1) (h:=0) R hd hs p hp hm;exact aPp (hashAt:=λ_=>1) (h:=0) (λ_=>by decide) (rT hd) _ p m e
def aH4(t:SetTable)(h:Int):(t.probeStart h).perturb<2 ^ 64/\(t.probeStart h).more<=9:=by
 refine#[?_,aRq _ _];show bits h<2 ^ 64;unfold bits;have h1:=Fu h (show((2:Int) ^ 64)≠0 by decide);have h2:=Ek h (show(0:Int)<2 ^ 64 by decide)
 lia
def vA(t:SetTable)(h:Int)(j:Nat):Prop:=∃n,(advs t.mask n (t.probeStart h)).j=j/\∀m,m<n->t.slot (advs t.mask m (t.probeStart h)).j≠.empty
def vA.ahead{j N:Nat}(w:vA t h j)(hj:t.slot j≠.empty)(hN:t.slot (advs t.mask N (t.probeStart h)).j=.empty):∃n,n<N/\(advs t.mask n (t.probeStart h)).j=j:=by
 obtain⟨n,e,a⟩:=w;rcases Od n N with z|z|z
 ·exact#[n,z,e]
 ·subst z;rw[e]at hN;exact Aa2 hN hj
 ·exact Aa2 hN (a N z)
def eY(xs:Array α)(p:Nat)(x:α):(Mh xs p x).toList=xs.toList.take p++x::xs.toList.drop p:=by
 unfold Mh;simp[Array.toList_extract];exact Gu (by simp)
def aHu:vO xs↔xs.toList.Pairwise (·<·):=by
 rw[Qe];constructor
 ·intro R i k hi hk hik;have h2:k<xs.size:=by simpa using hk
  have:=R i k hik h2;have h1:i<xs.size:=by lia
  simpa[Jp,h1,h2]using this
 ·intro R i k hik hk;have h1:i<xs.size:=by lia
  have:=R i k (by simpa using h1) (by simpa using hk) hik;simpa[Jp,h1,hk]using this
def aMp:(∃i:Nat,t.place[i]? =some j)↔j∈t.place.toList:=by
 rw[Mc];simp
def jX(R:vO t.place)(hd:t.dummies= (List.toArray [])):t.slot j=.empty↔j∉t.place.toList:=by
 rw[<-aMp];constructor
 ·rintro e ⟨i,hi⟩;rw[aEu R hi]at e;cases e
 ·intro no;exact aJ7 hd λi z=>no #[i,z]
def aHs(R:vO t.place)(hj:j∉t.place.toList):vO (Mh t.place (below t.place j) j):=by
 obtain⟨hb,h1,h2⟩:=iW R j;rw[aHu,eY];have Rl:=aHu.mp R;have lo:∀x∈t.place.toList.take (below t.place j),x<j:=λx hx=>by
  obtain⟨i,hi,e⟩:=Mw hx;rw[Dk]at hi;rw[List.getElem_take]at e;have hs:i<t.place.size:=by simp at hi;lia
  have:=h1 i ∅;rw[<-e];simpa[Jp,hs]using this
 have hi':∀x∈t.place.toList.drop (below t.place j),j<x:=λx hx=>by
  have hm:x∈t.place.toList:=Sw hx;obtain⟨i,hi,e⟩:=Mw hx;rw[Gb]at hi;rw[List.getElem_drop]at e;have hs:below t.place j+i<t.place.size:=by simp at hi;lia
  have:=h2 (below t.place j+i) ∅ hs;have h3:j<=x:=by rw[<-e];simpa[Jp,hs]using this
  have h4:j≠x:=λz=>hj (z▸hm)
  lia
 rw[Su];refine#[Rl.sublist (Uq _ _),Uc.mpr #[hi',Rl.sublist (List.drop_sublist _ _)],λx hx y hy=>?_];have:=lo x hx;rcases Ax.mp hy with e|m
 ·lia
 ·have:=hi' y m;lia
def kO(hd:t.dummies= (List.toArray []))(j:Nat):t.put j=({t with place:=Mh t.place (below t.place j) j},below t.place j):=by
 unfold put;have h2:has t.dummies j=false:=by rw[hd];unfold has;simp
 rw[h2];rfl
theorem aCj{p j x:Nat}:x∈(Mh xs p j).toList↔x=j∨x∈xs.toList:=by rw[eY];have:=Jd p xs.toList;grind
def oV(xs:Array α)(x:α)(h:p<=xs.size):(Mh xs p x).size=xs.size+1:=by
 rw[<-Bg,eY,Ak,An,Dk,Gb,Bg]
 lia
structure Good(t:SetTable):Prop where
 dum:t.dummies= (List.toArray [])
 rise:vO t.place
 low:∀j∈t.place.toList,j<=t.mask
 room:t.place.size<=t.mask
 round:Round t.mask
def Good.put(G:Good t)(hj:t.slot j=.empty)(hl:j<=t.mask)(hr:t.place.size+1<=t.mask):Good (t.put j).1:=by
 rw[kO G.dum];have nj:=(jX G.rise G.dum).mp hj;refine#[G.dum,aHs G.rise nj,λx hx=>?_,?_,G.round]
 ·rcases aCj.mp hx with e|m
  ·rw[e];exact hl
  ·exact G.low x m
 ·show(Mh t.place (below t.place j) j).size<=t.mask;rw[oV _ _ (iW G.rise j).1];exact hr
def Good.put_empty(G:Good t)(hj:t.slot j=.empty)(x:Nat):(t.put j).1.slot x=.empty↔t.slot x=.empty/\x≠j:=by
 have nj:=(jX G.rise G.dum).mp hj;rw[kO G.dum];rw[jX (t:={t with place:=Mh t.place (below t.place j) j}) (aHs G.rise nj) G.dum,jX G.rise G.dum];show x∉(Mh t.place (below t.place j) j).toList↔_;rw[aCj,not_or];exact#[λz=>#[z.2,z.1],λz=>#[z.2,z.1]]
def vA.put(G:Good t){j x:Nat}(hj:t.slot j=.empty)(w:vA t h x):vA (t.put j).1 h x:=by
 obtain⟨n,e,a⟩:=w;have em:(t.put j).1.mask=t.mask:=by rw[kO G.dum]
 have es:(t.put j).1.probeStart h=t.probeStart h:=by rw[kO G.dum];rfl
 refine#[n,by rw[em,es];exact e,λm hm z=>?_];rw[em,es]at z;exact a m hm ((G.put_empty hj _).mp z).1
def vA.new(G:Good t)(hj:t.slot (advs t.mask N (t.probeStart h)).j=.empty)(a:∀m,m<N->t.slot (advs t.mask m (t.probeStart h)).j≠.empty):vA (t.put (advs t.mask N (t.probeStart h)).j).1 h (advs t.mask N (t.probeStart h)).j:=by
 have em:(t.put (advs t.mask N (t.probeStart h)).j).1.mask=t.mask:=by rw[kO G.dum]
 have es:(t.put (advs t.mask N (t.probeStart h)).j).1.probeStart h=t.probeStart h:=by rw[kO G.dum];rfl
 refine#[N,by rw[em,es],λm hm z=>?_];rw[em,es]at z;exact a m hm ((G.put_empty hj _).mp z).1
end SetTable
section
variable {prog:Aj}{w:Bd}{K:Type} [DecidableEq K](knd:Hh prog w K)
structure pZ(s:Ai)(a:Addr)(o:Obj)(es:Array (Int×Value))(ep:Nat)(t:SetTable)(xs:List (K×Addr)):Prop where
 ho:s.heap.get? a=some o
 hex:o.ExactSet
 hd:o.data=.set es ep t
 he:es.toList=xs.map λx=>(knd.hash x.1,Ao x.2)
 good:t.Good
 size:t.place.size=es.size
 keys:∀x∈xs,knd.is s.heap x.1 x.2
 nd:(xs.map (·.1)).Nodup
 way:∀(i j:Nat)(x:K×Addr),t.place[i]? =some j->xs[i]? =some x->SetTable.vA t (knd.hash x.1) j
variable {knd}{A:Bp}{E:#v[c]}{s:Ai}{a b:Addr}{o:Obj}{es:Array (Int×Value)}{ep:Nat}{t:SetTable}{xs:List (K×Addr)}{k:K}
structure vD(knd:Hh prog w K):Prop where
 mono:∀{h h':Heap}{k:K}{c:Addr},knd.is h k c->(∀b o,o.cls=.type "tuple"->h.get? b=some o->h'.get? b=some o)->knd.is h' k c
 byValue:∀{A:Bp}{E:#v[c]}{s:Ai}{k:K}{c:Addr}{Q:Bool->Ai->Prop},knd.is s.heap k c->Q true s->Bc #v[b] A (Mi 8 (.ref c)) Q E s
 plain:∀{A:Bp}{E:#v[c]}{s:Ai}{k:K}{c:Addr}{Q:Bool->Ai->Prop},knd.is s.heap k c->Q false s->Bc #v[b] A (Gq 8 (.ref c)) Q E s
def vD.keep(D:vD knd){k:K}{o:Obj}(hx:knd.is h k c)(ho:h.get? d=some o)(hex:o.ExactSet)(sb:Em d h h'):knd.is h' k c:=D.mono hx λb o' hc e=>by
 have ne:b≠d:=by
  rintro rfl;rw[ho]at e;cases e;rw[hex.1]at hc;exact Aa2 hc ⋯
 rw[sb.2 b ne];exact e
def aA1(D:vD knd)(hkey:knd.is s.heap k b)(hy:∀y∈ys,∃x c,y=Ao c/\knd.is s.heap x c)(h:Q false s):Bc #v[b] A (Xu (.ref b) ys) Q E s:=by
 unfold Xu;refine Aa ?_;refine Fm _ (λrest r s'=>r.1=none/\s'=s/\∀v∈rest,∃x c,v=Ao c/\knd.is s.heap x c) _ ?_ ?_ _ _ #[rfl,rfl,hy]
 ·rintro v rest r s' ⟨hr,rfl,hall⟩;obtain⟨x,c,rfl,hx⟩:=hall v Ag;dsimp only;have nx:∀u∈rest,∃x c,u=Ao c/\knd.is s'.heap x c:=λu hu=>hall u (Ah _ hu);split
  ·exact Ad #[rfl,rfl,nx]
  ·refine Aa (knd.quiet hkey ?_)
   ac_rfl
   refine Aa (knd.quiet hx ?_)
   ac_rfl
   refine Aa (D.plain hkey ?_)
   ac_rfl
   refine Aa (D.plain hx ?_)
   ac_rfl
   exact Ad #[rfl,rfl,nx]
 ·rintro⟨r1,r2⟩ s' ⟨hr,rfl,_⟩;simp only at hr;subst hr;exact Ad h
def pZ.fits(S:pZ knd s a o es ep t xs):t.fits es.size=true:=by
 unfold Ul Um;have h1:=S.size;have h2:=S.good.room;rw[S.good.dum];simp[h1]
 lia
def pZ.len(S:pZ knd s a o es ep t xs):es.size=xs.length:=by rw[<-Bg,S.he,Ab]
def pZ.entry(S:pZ knd s a o es ep t xs)(i:Nat):es[i]? =(xs[i]?).map λx=>(knd.hash x.1,Ao x.2):=by
 rw[<-Dg,S.he,Ap]
def pZ.even(S:pZ knd s a o es ep t xs)(hm:t.mask % 2=1):t.gaveWay=false:=by
 unfold SetTable.gaveWay;rw[hm];rfl
def yG(S:pZ knd s a o es ep t xs)(hm:t.mask % 2=1)(D:vD knd)(hu:knd.room A)(hkey:knd.is s.heap k b)(hN:t.slot #v[2].j=.empty)(hF:N<10*Lw t.mask)
  (first:∀m,m<N->t.slot (SetTable.advs t.mask m (t.probeStart (knd.hash k))).j≠.empty) (hold:(∃x∈xs,x.1=k)->Q (.there none) s) (hnew:(∀x∈xs,x.1≠k)->Q (.free #v[2].j false) s):
  ∀(fuel n:Nat)(stand:Option SetTable.Probe),stand.getD (t.probeStart (knd.hash k))=SetTable.advs t.mask n (t.probeStart (knd.hash k))->n<=N->N-n<fuel->(∀m,m<n->∃(i:Nat)(x:K×Addr),t.slot (SetTable.advs t.mask m (t.probeStart (knd.hash k))).j=.live i/\xs[i]? =some x/\x.1≠k)->
   Bc #v[b] A (setSearchFrom a (.ref b) (knd.hash k) true fuel stand) Q E s:=by
 intro fuel;induction fuel with
 |zero=>intro n stand _ _ h3;lia
 |succ fuel ih=>
  intro n stand h1 h2 h3 past;have dumA:∀m p,(SetTable.advs t.mask m p).dummy=p.dummy:=by
   intro m;induction m with
   |zero=>intro p;rfl
   |succ m ih=>intro p;rw[SetTable.advs,ih,SetTable.aD3]
  unfold setSearchFrom;refine Aa (Fy S.ho S.hd S.fits ?_);dsimp only;rw[S.even hm]
  ac_rfl
  rw[h1];have comp:∀m,SetTable.advs t.mask m (SetTable.advs t.mask n (t.probeStart (knd.hash k)))=SetTable.advs t.mask (n+m) (t.probeStart (knd.hash k)):=λm=>(SetTable.aGq t.mask n m _).symm;have ent:∀i:Nat,(es[i]?.map (·.1)).getD 0=((xs[i]?).map λx=>knd.hash x.1).getD 0:=λi=>by
   rw[S.entry i,Option.map_map];rfl
  have inx:∀(i j:Nat),t.slot j=.live i->∃x,xs[i]? =some x/\t.place[i]? =some j:=λi j hs=>by
   rcases SetTable.wI S.good.dum j with z|⟨i',z1,z2⟩
   ·rw[hs]at z;cases z
   ·rw[hs]at z1;cases z1;have hi:i<t.place.size:=(Ke.mp z2).1;rw[S.size,S.len]at hi;exact#[xs[i],Af hi,z2]
  obtain⟨n',a1,a2,a3⟩:=SetTable.aS2 (t:=t) (hashAt:=λi:Nat=>(es[i]?.map (·.1)).getD 0) (h:=knd.hash k) (SetTable.rT S.good.dum) (10*Lw t.mask) (SetTable.advs t.mask n (t.probeStart (knd.hash k))) (N-n) (by rw[comp,show n+(N-n)=N by lia];exact hN) ∅ (by rw[dumA];rfl);rw[comp]at a3;rcases a3 with ⟨b1,b2⟩|⟨i,b1,b2,b3⟩
  ·have eN:n+n'=N:=by
    rcases Ol (n+n') N with z|z
    ·exact Aa2 b1 (first _ z)
    ·lia
   have e:t.probe (λi:Nat=>(es[i]?.map (·.1)).getD 0) (knd.hash k) (SetTable.advs t.mask n (t.probeStart (knd.hash k)))=some (.empty (SetTable.advs t.mask (n+n') (t.probeStart (knd.hash k))).j none):=b2
   erw[e]
   dsimp only;rw[eN];refine Ad (hnew λx hx ek=>?_);obtain⟨i,hi⟩:=Mc.mp hx;have his:i<t.place.size:=by rw[S.size,S.len];exact(Be.mp hi).1
   have hpl:t.place[i]? =some t.place[i]:=Du his;have hsl:=SetTable.aEu S.good.rise hpl;have wy:=S.way i _ x hpl hi;rw[ek]at wy;obtain⟨m,hm1,hm2⟩:=wy.ahead (by rw[hsl];intro z;cases z) hN;rcases Ol m n with z|z
   ·obtain⟨i',x',c1,c2,c3⟩:=past m z;rw[hm2,hsl]at c1;cases c1;rw[hi]at c2;cases c2;exact c3 ek
   ·obtain⟨i',c1,c2⟩:=a2 (m-n) ∅;rw[comp,show n+(m-n)=m by lia,hm2,hsl]at c1;cases c1;rw[ent,hi]at c2;exact c2 (by rw[<-ek];rfl)
  ·obtain⟨x,hx,hpl⟩:=inx i _ b1;have hxm:=Bl hx;have e:t.probe (λi:Nat=>(es[i]?.map (·.1)).getD 0) (knd.hash k) (SetTable.advs t.mask n (t.probeStart (knd.hash k)))=some (.candidate (SetTable.advs t.mask (n+n') (t.probeStart (knd.hash k))).j i (SetTable.advs t.mask (n'+1) (SetTable.advs t.mask n (t.probeStart (knd.hash k))))):=b3
   erw[e]
   dsimp only;cases hl:t.led
   focus
    simp only[Kj,Ab2];refine Aa (aA1 D hkey (λy hy=>?_) ?_);obtain⟨e,he,rfl⟩:=Ay.mp hy;have he2:=(Array.mem_filter.mp (Mo.mp he)).1;rw[<-Mo,S.he]at he2;obtain⟨x',hx',rfl⟩:=Ay.mp he2;exact#[_,_,rfl,S.keys x' hx']
    ac_rfl
   rotate_left
   focus
    ac_rfl
   all_goals
    rw[S.entry i,hx];dsimp only[Up];refine Aa (Ci (knd.eqBool hu (S.keys x hxm) hkey ?_));refine Aa (Fy S.ho S.hd S.fits ?_);by_cases ek:x.1=k
    ·rw[Aa5 ek];simp only[Bool.and_self,Ab2];exact Ad (hold #[x,hxm,ek])
    ·rw[Aa6 ek];simp only[Ja,Dr,Ab1];have sm:t.sameMemory t.moves t.mask=some true:=by unfold SetTable.sameMemory;simp
     rw[sm];simp only[Ab2];rw[b1];dsimp only;rw[S.entry i,hx];dsimp only[Up];refine Aa (wpAny_isSame_ref_self ?_);simp only[Ab2];refine Aa (Ad ?_);dsimp only;have lt:n+n'<N:=by
      rcases Ol (n+n') N with z|z
      ·exact z
      ·have z2:n+n'=N:=by lia
       rw[z2,hN]at b1;cases b1
     refine ih (n+(n'+1)) _ (by show SetTable.advs t.mask (n'+1) _=_;rw[comp]) ∅ ∅ λm hm'=>?_;rcases Ol m n with z|z
     ·exact past m z
     ·by_cases z2:m=n+n'
      ·subst z2;exact#[i,x,b1,hx,ek]
      ·obtain⟨i',c1,c2⟩:=a2 (m-n) ∅;rw[comp,show n+(m-n)=m by lia]at c1;obtain⟨x',hx',_⟩:=inx i' _ c1;refine#[i',x',c1,hx',λek'=>c2 ?_];rw[ent,hx', <-ek'];rfl
def aE4{o:Obj}(es':Array (Int×Value))(t':SetTable)(hd:o.data=.set es ep t)(h:o.ExactSet):(Mp es' t' o).ExactSet:=by
 rw[Rn es' t' hd];exact h
theorem get_ins{l:List α}{p i:Nat}{y x:α}(hp:p<=l.length)(h:(l.take p++x::l.drop p)[i]? =some y):(i<p/\l[i]? =some y)∨(i=p/\y=x)∨(p<i/\l[i-1]? =some y):=by grind
def pZ.add(S:pZ knd s a o es ep t xs)(hkey:knd.is s.heap k b)(hn:∀x∈xs,x.1≠k)(hkeep:∀h',Em a s.heap h'->∀x c,knd.is s.heap x c->knd.is h' x c)(hN:t.slot #v[2].j=.empty)
  (first:∀m,m<N->t.slot (SetTable.advs t.mask m (t.probeStart (knd.hash k))).j≠.empty) (hl:#v[2].j<=t.mask) (hroom:t.place.size+1<=t.mask) {j p:Nat} (ej:j=#v[2].j) (epp:p=Cr t.place j):
  pZ knd {s with heap:=s.heap.update a (Mp (Ib es p (knd.hash k,.ref b)) (t.put j).1)} a (Mp (Ib es p (knd.hash k,.ref b)) (t.put j).1 o) (Ib es p (knd.hash k,.ref b)) (ep+1) (t.put j).1 (xs.take p++(k,b)::xs.drop p):=by
 subst ej epp;have hb:=(SetTable.iW S.good.rise #v[2].j).1;have hbx:Cr t.place #v[2].j<=xs.length:=by rw[<-S.len, <-S.size];exact hb
 have hnf:(Mp (Ib es (Cr t.place #v[2].j) (knd.hash k,.ref b)) (t.put #v[2].j).1 o).isFreed=false:=by
  rw[Rn _ _ S.hd];rfl
 refine#[Cv _ S.ho hnf,aE4 _ _ S.hd S.hex,by rw[Rn _ _ S.hd],?_,S.good.put hN hl hroom,?_,λx hx=>?_,?_,λi j x h1 h2=>?_]
 ·rw[SetTable.eY,S.he, <-Xe, <-Xf,Cc,Br]
 ·rw[SetTable.kO S.good.dum];show(Ib t.place _ _).size=_;rw[SetTable.oV _ _ hb,SetTable.oV _ _ (by rw[<-S.size];exact hb),S.size]
 ·rcases Cb.mp hx with m|m
  ·exact hkeep _ (Cp ..) _ _ (S.keys x (Sv m))
  ·rcases Ax.mp m with e|m
   ·rw[e];exact hkeep _ (Cp ..) _ _ hkey
   ·exact hkeep _ (Cp ..) _ _ (S.keys x (Sw m))
 ·have pm:((xs.take (Cr t.place #v[2].j)++(k,b)::xs.drop (Cr t.place #v[2].j)).map (·.1)).Perm (k::xs.map (·.1)):=by
   have:=(Vg (a:=(k,b)) (l₁:=xs.take (Cr t.place #v[2].j)) (l₂:=xs.drop (Cr t.place #v[2].j))).map (·.1);rw[Jd]at this;exact this
  rw[pm.nodup_iff,Ef];refine#[λm=>?_,S.nd];obtain⟨x,hx,e⟩:=Ay.mp m;exact hn x hx e
 ·rw[SetTable.kO S.good.dum]at h1;have h1':(t.place.toList.take (Cr t.place #v[2].j)++#v[2].j::t.place.toList.drop (Cr t.place #v[2].j))[i]? =some j:=by
   rw[<-SetTable.eY,Dg];exact h1
  have gp:=get_ins (by rw[Bg];exact hb) h1';have gx:=get_ins hbx h2;rcases gp with ⟨z1,z2⟩|⟨z1,z2⟩|⟨z1,z2⟩
  ·rcases gx with ⟨y1,y2⟩|⟨y1,y2⟩|⟨y1,y2⟩
   ·exact(S.way i j x (by rw[<-Dg];exact z2) y2).put S.good hN
   ·lia
   ·lia
  ·rcases gx with ⟨y1,y2⟩|⟨y1,y2⟩|⟨y1,y2⟩
   ·lia
   ·rw[z2,y2];exact SetTable.vA.new S.good hN first
   ·lia
  ·rcases gx with ⟨y1,y2⟩|⟨y1,y2⟩|⟨y1,y2⟩
   ·lia
   ·lia
   ·exact(S.way (i-1) j x (by rw[<-Dg];exact z2) y2).put S.good hN
end
namespace SetTable
def stP(M:Nat)(i perturb:Nat):Probe:={j:=i,more:=Rm M i-i,i,perturb,dummy:=none}
def st(M:Nat)(h:Int):Probe:=stP M (bits h % (M+1)) (bits h)
def aSm(M:Nat)(h:p.j+p.more<=M):(adv M p).j+(adv M p).more<=M:=by
 unfold adv;split
 ·show p.j+1+(p.more-1)<=M;lia
 ·show(leap M p.i p.perturb).1+(Rm M (leap M p.i p.perturb).1-(leap M p.i p.perturb).1)<=M;have:(leap M p.i p.perturb).1<=M:=by
   show(p.i*5+1+p.perturb / 32) % (M+1)<=M;have:=Ra (p.i*5+1+p.perturb / 32) (show 0<M+1 by lia)
   lia
  unfold Rm;split<;>lia
theorem aGr(M:Nat):∀(n:Nat){p:Probe},p.j+p.more<=M->(advs M n p).j<=M
 |0,_,h=>by rw[advs];lia
 |n+1,_,h=>by rw[advs];exact aGr M n (aSm M h)
def aYf(M:Nat)(h:Int):(st M h).j+(st M h).more<=M:=by
 show bits h % (M+1)+(Rm M (bits h % (M+1))-bits h % (M+1))<=M;have:=Ra (bits h) (show 0<M+1 by lia);unfold Rm;split<;>lia
end SetTable
theorem filterMap_get{α β:Type}{f:α->Option β}{l:List α}(h:∀i∈l,∃y,f i=some y)(r:Nat):(l.filterMap f)[r]? =l[r]?.bind f:=by
 induction l generalizing r with
 |nil=>simp
 |cons a l ih=>obtain⟨y,hy⟩:=h a Ag;cases r<;>grind
def aAu(l:List α):(Dl l.length).filterMap (λi:Nat=>l[i]?)=l:=by
 apply Iq;intro r;rw[filterMap_get (λi hi=>#[l[i]'(Dj.mp hi),Af (Dj.mp hi)])];by_cases h:r<l.length
 ·rw[List.getElem?_range h];rfl
 ·rw[Hc (by rw[Hg];lia),Hc ∅];rfl
section
variable {prog:Aj}{w:Bd}{K:Type} [DecidableEq K]{knd:Hh prog w K}{A:Bp}{E:#v[c]}{s:Ai}{a b:Addr}{o:Obj}{es:Array (Int×Value)}{ep:Nat}{t:SetTable}{xs:List (K×Addr)}{k:K}
end
namespace SetTable
variable {t:SetTable}
def aG8(G:t.Good)(h:Int):∃N,N<10*turns t.mask/\t.slot (advs t.mask N (t.probeStart h)).j=.empty/\∀m,m<N->t.slot (advs t.mask m (t.probeStart h)).j≠.empty:=by
 obtain⟨N,h1,h2⟩:=aI9 G.round G.dum G.room (t.probeStart h) (aH4 t h).1 (aH4 t h).2;induction N using Nat.strongRecOn with
 |_ N ih=>
  by_cases hx:∃m,m<N/\t.slot (advs t.mask m (t.probeStart h)).j=.empty
  ·obtain⟨m,hm,e⟩:=hx;exact ih m hm ∅ e
  ·exact#[N,h1,h2,λm hm e=>hx #[m,hm,e]]
def Small(t:SetTable):Prop:=t.mask=7/\t.place.size<=4
def Small.odd(S:t.Small):t.mask % 2=1:=by rw[S.1]
end SetTable
section
variable {prog:Aj}{w:Bd}{K:Type} [DecidableEq K](knd:Hh prog w K)
def mG(s:Ai)(a:Addr)(l:Bool)(xs:List (K×Addr)):Prop:=∃o es ep t,pZ knd s a o es ep t xs/\t.Small/\t.plain=true/\t.led=l
variable {knd}{A:Bp}{E:#v[c]}{s:Ai}{a b:Addr}{o:Obj}{es:Array (Int×Value)}{ep:Nat}{t:SetTable}{xs:List (K×Addr)}{k:K}{l:Bool}
def mG.at(D:vD knd)(S:mG knd s a l xs)(h1:∀o,s.heap.get? a=some o->s'.heap.get? a=some o)(h2:∀b o,o.cls=.type "tuple"->s.heap.get? b=some o->s'.heap.get? b=some o):mG knd s' a l xs:=by
 obtain⟨o,es,ep,t,S,r⟩:=S;exact#[o,es,ep,t,#[h1 o S.ho,S.hex,S.hd,S.he,S.good,S.size,λx hx=>D.mono (S.keys x hx) h2,S.nd,S.way],r]
def aIw(x:Addr)(es:Array (Int×Value)):byScan (.ref x) es=false:=rfl
def qR(D:vD knd)(S:mG knd s a l xs)(hn:(∀x∈xs,x.1≠k)->xs.length<4)(hu:knd.room A)(hkey:knd.is s.heap k b)
  (hold:(∃x∈xs,x.1=k)->Q false s)
  (hnew:(∀x∈xs,x.1≠k)->∀h' xs',Em a s.heap h'->xs'.Perm ((k,b)::xs)->mG knd {s with heap:=h'} a l xs'->Q true {s with heap:=h'}):
  Bc #v[b] A (Qb a (.ref b) (knd.hash k)) Q E s:=by
 obtain⟨o,es,ep,t,S,sm,pl,rfl⟩:=S;unfold Qb;refine Ci ?_;unfold setAddHashedIn;refine Aa (Fy S.ho S.hd S.fits ?_);dsimp only;rw[aIw]
 ac_rfl
 obtain⟨N,n1,n2,n3⟩:=SetTable.aG8 S.good (knd.hash k);have bigm:10*Lw t.mask<=100000:=by
  unfold Lw;rw[sm.1];decide
 refine Aa (yG S sm.odd D hu hkey n2 n1 n3 (λh=>?_) (λh=>?_) 100000 0 none rfl (Bt _) ∅ λm hm=>Aa2 hm (Eh m))
 ·exact Ad (hold h)
 ·have hn:=hn h;dsimp only;refine Aa (Fy S.ho S.hd S.fits ?_);dsimp only;have lowj:#v[2].j<=t.mask:=SetTable.aGr _ _ (SetTable.aYf _ _);have hsz:t.place.size+1<=t.mask:=by have:=sm.1;have:=sm.2;lia
  have S':=S.add hkey h (λh' sb x c hx=>D.keep hx S.ho S.hex sb) n2 n3 lowj hsz rfl rfl;have hb:=(SetTable.iW S.good.rise #v[2].j).1;have psz:(t.put #v[2].j).1.place.size=t.place.size+1:=by
   rw[SetTable.kO S.good.dum];exact SetTable.oV _ _ hb
  have pmk:(t.put #v[2].j).1.mask=t.mask:=by rw[SetTable.kO S.good.dum]
  have ppl:(t.put #v[2].j).1.plain=true:=by rw[SetTable.kO S.good.dum];exact pl
  have pld:(t.put #v[2].j).1.led=t.led:=by rw[SetTable.kO S.good.dum]
  have p2:(t.put #v[2].j).2=Cr t.place #v[2].j:=by rw[SetTable.kO S.good.dum]
  have pm:=(Vg (a:=(k,b)) (l₁:=xs.take (Cr t.place #v[2].j)) (l₂:=xs.drop (Cr t.place #v[2].j)));rw[Jd]at pm;have fl:(t.put #v[2].j).1.fill=t.place.size+1:=by
   unfold Um;rw[psz,S'.good.dum];rfl
  rw[ppl];simp only[Ab2];refine Aa (D.byValue hkey ?_);simp only[Ab2,p2];have els:=S'.len;have eln:=S.len;have hxl:=pm.length_eq;rw[An]at hxl;refine Aa (Xq S.ho S.hd ?_ (by rw[els,hxl];unfold sizeLine;lia));by_cases full:(t.put #v[2].j).1.tooFull=true
  ·unfold SetTable.tooFull at full;rw[fl,pmk,sm.1]at full;have full:=Aa3 full;have sz:=S.size
   lia
  ·have full:=Ur.mpr full;rw[full];simp only[Ja,Dr,Ab1];refine Ad (hnew h _ _ (Cp ..) pm #[_,_,_,_,S',?_,ppl,pld]);have sz:=S.size;unfold SetTable.Small;rw[pmk,psz];exact#[sm.1,∅]
end
def sS(n:Nat)(i:Int)(tk):Mi n (.int i tk)=pure true:=by cases n<;>rfl
def xJ(n:Nat)(h:Si v=true):Gq n v=pure false:=by
 cases v with
 |ref a=>cases h
 |_=>first|rfl|(unfold Gq;rfl)
section
variable {prog:Aj}{w:Bd}{K:Type} [DecidableEq K]{knd:KeyKind prog w K}{A:Bp}{E:#v[c]}{s:Ai}
def ItemsAre.ints(hv:∀k v,knd.is k v=true->∃i tk,v=Dx i tk)(hx:ItemsAre knd x vs):∀v∈vs,∃i tk,v=Dx i tk:=by
 induction hx with
 |nil=>intro v hv;simp at hv
 |@cons k v' ks vs h1 _ ih=>
  intro v hm;rcases Ax.mp hm with rfl|hm
  ·exact hv _ _ h1
  ·exact ih v hm
def qP(hv:∀k v,knd.is k v=true->∃i tk,v=Dx i tk)(hk:Jl knd s.heap ks a)(h:Q true s):Bc #v[b] A (Mi (n+1) (.ref a)) Q E s:=by
 have hT:=hk.typeIs;obtain⟨o,items,m,ho,_,hd,hi⟩:=hk;unfold Mi;refine Aa (Gp hT F.slot_tuple_hash.lookup ?_);show Bc _ _ (Oq (.ref a)>>=_) _ _ s;refine Aa (Cy ho hd ?_);refine Aa ?_;show Bc _ _ (forIn items _ _) _ _ s;rw[<-Gd];refine Fm _ (λrest r s'=>r.1=none/\s'=s/\∀v∈rest,∃i tk,v=Dx i tk) _ ?_ ?_ _ _ #[rfl,rfl,hi.ints hv]
 ·rintro v rest r s' ⟨hr,rfl,hall⟩;obtain⟨i,tk,rfl⟩:=hall v Ag;rw[sS];refine Aa (Ad ?_)
  ac_rfl
  exact Ad #[rfl,rfl,λu hu'=>hall u (Ah _ hu')]
 ·rintro⟨r1,r2⟩ s' ⟨hr,rfl,_⟩;simp only at hr;subst hr;exact Ad h
def sI(hv:∀k v,knd.is k v=true->∃i tk,v=Dx i tk)(hk:bK knd s.heap x a)(h:Q true s):Bc #v[b] A (Mi 8 (.ref a)) Q E s:=by
 have hT:=hk.typeIs;obtain⟨o,v,b,m,ho,_,hd,h1,h2⟩:=hk;unfold Mi;refine Aa (Gp hT F.slot_tuple_hash.lookup ?_);show Bc _ _ (Oq (.ref a)>>=_) _ _ s;refine Aa (Cy ho hd ?_);refine Aa ?_;show Bc _ _ (forIn _ _ _) _ _ s;rw[<-Gd];refine Fm _ (λrest r s'=>r.1=none/\s'=s/\∀u∈rest,u=v∨u=.ref b) _ ?_ ?_ _ _ #[rfl,rfl,λu hu=>by simpa using hu]
 ·rintro u rest r s' ⟨hr,rfl,hall⟩;rcases hall u Ag with rfl|rfl
  ·obtain⟨i,tk,rfl⟩:=hv _ _ h1;rw[sS];refine Aa (Ad ?_)
   ac_rfl
   exact Ad #[rfl,rfl,λu hu'=>hall u (Ah _ hu')]
  ·refine Aa (qP hv h2 ?_)
   ac_rfl
   exact Ad #[rfl,rfl,λu hu'=>hall u (Ah _ hu')]
 ·rintro⟨r1,r2⟩ s' ⟨hr,rfl,_⟩;simp only at hr;subst hr;exact Ad h
def uO(hk:Jl knd s.heap ks a)(h:Q false s):Bc #v[b] A (Gq (n+1) (.ref a)) Q E s:=by
 have hT:=hk.typeIs;obtain⟨o,items,m,ho,_,hd,hi⟩:=hk;unfold Gq;refine Aa (Jq hT ?_);dsimp only;simp only[Ab0,Ab2];refine Aa (Ad ?_)
 ac_rfl
 refine Aa (Cy ho hd ?_);dsimp only;refine Aa ?_;rw[<-Gd];refine Fm _ (λrest r s'=>r.1=none/\s'=s/\∀v∈rest,Si v=true) _ ?_ ?_ _ _ #[rfl,rfl,hi.byValue]
 ·rintro v rest r s' ⟨hr,rfl,hall⟩;rw[xJ _ (hall v Ag)];refine Aa (Ad ?_)
  ac_rfl
  exact Ad #[rfl,rfl,λu hu'=>hall u (Ah _ hu')]
 ·rintro⟨r1,r2⟩ s' ⟨hr,rfl,_⟩;simp only at hr;subst hr;exact Ad h
def uY(hk:bK knd s.heap x a)(h:Q false s):Bc #v[b] A (Gq 8 (.ref a)) Q E s:=by
 have hT:=hk.typeIs;obtain⟨o,v,b,m,ho,_,hd,h1,h2⟩:=hk;unfold Gq;refine Aa (Jq hT ?_);dsimp only;simp only[Ab0,Ab2];refine Aa (Ad ?_)
 ac_rfl
 refine Aa (Cy ho hd ?_);dsimp only;refine Aa ?_;rw[<-Gd];refine Fm _ (λrest r s'=>r.1=none/\s'=s/\∀u∈rest,u=v∨u=.ref b) _ ?_ ?_ _ _ #[rfl,rfl,λu hu=>by simpa using hu]
 ·rintro u rest r s' ⟨hr,rfl,hall⟩;rcases hall u Ag with rfl|rfl
  ·rw[xJ _ (knd.byValue _ _ h1)];refine Aa (Ad ?_)
   ac_rfl
   exact Ad #[rfl,rfl,λu hu'=>hall u (Ah _ hu')]
  ·refine Aa (uO h2 ?_)
   ac_rfl
   exact Ad #[rfl,rfl,λu hu'=>hall u (Ah _ hu')]
 ·rintro⟨r1,r2⟩ s' ⟨hr,rfl,_⟩;simp only at hr;subst hr;exact Ad h
def IsTupleKey.monoS(x:Jl knd h ks a)(hs:∀b o,o.cls=.type "tuple"->h.get? b=some o->h'.get? b=some o):Jl knd h' ks a:=by
 obtain⟨o',items,n,ho',hc,hd',hi⟩:=x;exact#[o',items,n,hs _ _ hc ho',hc,hd',hi]
def bK.monoS(hx:bK knd h x a)(hs:∀b o,o.cls=.type "tuple"->h.get? b=some o->h'.get? b=some o):bK knd h' x a:=by
 obtain⟨o',v,b,n,ho',hc,hd',h1,h2⟩:=hx;exact#[o',v,b,n,hs _ _ hc ho',hc,hd',h1,h2.monoS hs]
def aQz(hv:∀k v,knd.is k v=true->∃i tk,v=Dx i tk):vD (iI knd) where
 mono:=λx hs=>bK.monoS x hs
 byValue:=λx h=>sI hv x h
 plain:=λx h=>uY x h
end
namespace F
def dM:Slot "set_iterator" "__next__" "set_iterator.__next__":=
 .of (owner:="set_iterator") (n:="__next__") (by rw[Rk,Ng];kernel_rfl) #v[1] #v[1] #v[1]
  (by first|exact .inl #v[1]|exact .inr #v[1]) (by rw[Sg];kernel_rfl)
def jY:Slot "set_iterator" "__iter__" "set_iterator.__iter__":=
 .of (owner:="set_iterator") (n:="__iter__") (by rw[Rk,Ng];kernel_rfl) #v[1] #v[1] #v[1]
  (by first|exact .inl #v[1]|exact .inr #v[1]) (by rw[Sg];kernel_rfl)
def qF:Wx table "set_iterator.__next__"=some Builtin.«set_iterator.__next__»:=Yn (by kernel_rfl)
def qD:Wx table "set_iterator.__iter__"=some Builtin.«dict_keyiterator.__iter__»:=
 entryFor_alias (id':="dict_keyiterator.__iter__") (by kernel_rfl) (by first|rfl|decide+kernel) #v[1] (by kernel_rfl)
def aB6:Wx table "set.__iter__"=some Builtin.«frozenset.__iter__»:=
 entryFor_alias (id':="frozenset.__iter__") (by kernel_rfl) (by first|rfl|decide+kernel) #v[1] (by kernel_rfl)
def nZ:Manifest.owners.lookup (String.ofList ['r','o','t','a','r','e','t','i','_','t','e','s'].reverse)=some Manifest.sig_set_iterator:=by kernel_rfl
def pI(a:Value):Wz "set_iterator.__next__" #[[a],[]]:=by
 unfold Wz;rw[signature?_of (id:="set_iterator.__next__") (n:=['_','_','t','x','e','n','_','_']) (o:=['r','o','t','a','r','e','t','i','_','t','e','s']) (by kernel_rfl) nZ];kernel_rfl
def pH(a:Value):Wz "set_iterator.__iter__" #[[a],[]]:=by
 unfold Wz;rw[signature?_of (id:="set_iterator.__iter__") (n:=['_','_','r','e','t','i','_','_']) (o:=['r','o','t','a','r','e','t','i','_','t','e','s']) (by kernel_rfl) nZ];kernel_rfl
end F
theorem fJ{α:Type}:∀{l:List α}{n:Nat}(h:n<l.length),(l[n]::l.eraseIdx n).Perm l
 | [],_,h=>Aa2 h (Eh _)
 |a::l,0,_=>Ju _
 |a::l,n+1,h=>by
  have h':n<l.length:=Lx h;show(l[n]::a::l.eraseIdx n).Perm (a::l);exact(Tj _ _ _).trans ((fJ (Lx h)).cons a)
def aCp(next:Nat->Nat)(xs:Array α):(Uw next xs).toList.Perm xs.toList:=by
 have go:∀(fuel k:Nat)(left:List α)(out:Array α),left.length=fuel->(Pl next fuel k left out).toList.Perm (out.toList++left):=by
  intro fuel;induction fuel with
  |zero=>
   intro k left out h;have:left=[]:=Fl.mp h;subst this;simp[Pl]
  |succ fuel ih=>
   intro k left out h;have hlt:next k % left.length<left.length:=Ra _ ∅;rw[Pl,Af hlt];dsimp only;refine(ih _ _ _ (by rw[List.length_eraseIdx_of_lt hlt];lia)).trans ?_;rw[Array.toList_push,Bm];refine List.Perm.append_left _ ?_;exact fJ hlt
 exact go xs.size 0 xs.toList (List.toArray []) (by simp)
section
variable {prog:Aj}{w:Bd}{A:Bp}{E:#v[c]}{s:Ai}
def iC(w:Bd)(S:Addr)(es:Array (Int×Value))(ep:Nat):List Value:=if w.params.followText "set-order"=true then(Uw (w.params.setOrder S ep) es).toList.map (·.2)else es.toList.map (·.2)
def lM(w:Bd)(S:Addr)(es:Array (Int×Value))(ep:Nat):(iC w S es ep).Perm (es.toList.map (·.2)):=by
 unfold iC;split
 ·exact(aCp _ _).map _
 ·exact Ju _
def aBv(w:Bd)(t:SetTable)(slot i:Nat):Prop:=w.params.followText "set-order"=true∨Cr t.place slot=i
def aIu(R:SetTable.vO xs)(h:i<xs.size):Cr xs (xs.getD i 0+1)=i+1:=by
 obtain⟨h1,h2,h3⟩:=SetTable.iW R (xs.getD i 0+1);rcases Od (Cr xs (xs.getD i 0+1)) (i+1)with z|z|z
 ·have:=h3 i ∅ h
  lia
 ·exact z
 ·have:=h2 (i+1) z;have:=R i (i+1) ∅ ∅
  lia
def aDx{slot i:Nat}(ho:s.heap.get? S=some o)(hd:o.data=.set es ep t)(hf:t.fits es.size=true)(hr:SetTable.vO t.place)(hpl:t.plain=true)(hl:t.led= !w.params.followText "set-order")
  (hs:aBv w t slot i) (h1:∀v slot',(iC w S es ep)[i]? =some v->aBv w t slot' (i+1)->Q (some (v,slot')) s) (h2:es.size<=i->Q none s):Bc #v[b] A (setNext S slot i ep) Q E s:=by
 have psz:t.place.size=es.size:=by
  simp only[Ul,Hs,beq_iff_eq,decide_eq_true_eq]at hf;exact hf.1
 unfold setNext Xt;refine Aa (Fy ho hd hf ?_);dsimp only;refine Aa (Aa (Ka (Ad ?_)));dsimp only[model];have olen:(iC w S es ep).length=es.size:=by rw[(lM w S es ep).length_eq,Ab,Bg]
 cases hb:w.params.followText "set-order"
 ·ac_rfl
  have hs:Cr t.place slot=i:=by
   rcases hs with z|z
   ·rw[hb]at z;cases z
   ·exact z
  show Bc _ _ (if(!t.plain && decide (es.size>1))=true then _ else _) _ _ _;rw[hpl];simp only[Nq,Kk,Dr,Ab1];show Bc _ _ ((if(!t.led && !es.isEmpty)=true then _ else _)>>=_) _ _ _;rw[hl,hb];simp only[Kj,Nq,Kk,Dr,Ab1];refine Aa (Ad ?_);rw[hs];have eo:(iC w S es ep)[i]? =(es[i]?).map (·.2):=by
   unfold iC;rw[hb];simp
  by_cases hi:i<es.size
  ·have hp:i<t.place.size:=by lia
   rw[Du hi,Du hp];refine Ad (h1 _ _ (by rw[eo,Du hi];rfl) (.inr ?_));have:=aIu hr hp;simpa[Jp,hp]using this
  ·rw[Re ∅];exact Ad (h2 ∅)
 ·simp only[Ab2];rw[Aa0 (by simp)];unfold setWalk Xt;refine Aa (Aa (Fy ho hd hf ?_));dsimp only;refine Aa (Aa (Ka (Ad ?_)));dsimp only[model];rw[hb];simp only[Ab2];refine Aa (Ka ?_);refine Ad ?_;dsimp only[model];have eo:(iC w S es ep)[i]? =((Uw (w.params.setOrder S ep) es)[i]?).map (·.2):=by
   unfold iC;rw[hb];simp
  cases hg:(Uw (w.params.setOrder S ep) es)[i]? with
  |none=>
   rw[hg]at eo;have:=List.getElem?_eq_none_iff.mp eo;exact Ad (h2 ∅)
  |some e=>
   rw[hg]at eo;exact Ad (h1 _ _ eo (.inl hb))
def pY(h:Heap)(I S:Addr)(slot i n ep:Nat):Prop:=∃o,h.get? I=some o/\o.cls=.type "set_iterator"/\o.data=.fields (List.toArray [.int slot 0,.int i 0,.ref S,.int n 0,.int ep 0])
def pY.typeIs{slot i n ep:Nat}(h:pY s.heap I S slot i n ep):s.TypeIs (.ref I) "set_iterator":=let⟨o,ho,hc,_⟩:=h;#[o,ho,hc]
variable {I S:Addr}{o:Obj}{es:Array (Int×Value)}{ep:Nat}{t:SetTable}{slot i:Nat}
def qQ(hh:A.handled=none)(hit:pY s.heap I S slot i es.size ep)(ho:s.heap.get? S=some o)(hd:o.data=.set es ep t)(hf:t.fits es.size=true)(hr:SetTable.vO t.place)(hpl:t.plain=true)(hl:t.led= !w.params.followText "set-order")
  (hs:aBv w t slot i) (h1:∀v slot' h',(iC w S es ep)[i]? =some v->aBv w t slot' (i+1)->pY h' I S slot' (i+1) es.size ep->Em I s.heap h'->Q (some v) {s with heap:=h'}) (h2:es.size<=i->∀h',Pe I s.heap h'->Q none {s with heap:=h'}):
  Bc #v[b] A (Ia (.ref I)) Q E s:=by
 obtain⟨oi,hoi,hci,hdi⟩:=id hit;unfold Ia;refine Aa (Mf (Do (name:=Fs "__next__") hit.typeIs F.dM
  (Co F.dM hit.typeIs F.qF ?_ (F.pI _))))
 unfold Builtin.«set_iterator.__next__»;refine Aa (m:=slotArgs "__next__" 0 _) (Ad ?_);refine Aa (Sf hoi hdi ?_);dsimp only;refine Aa (Vz ho hd hf ?_);rw[Aa0 (by simp)];simp only[Hl];refine Aa (aDx ho hd hf hr hpl hl hs (λv slot' e ok=>?_) λhge=>?_)
 ·dsimp only;refine Aa (Hz hoi hdi (by simp) ?_);have hoi2:=Cv (Rt (·.setIfInBounds 0 (Ji slot'))) hoi (Jf (Fg hdi _));have hdi2:=Fg hdi (·.setIfInBounds 0 (Ji slot'));refine Aa (Hz hoi2 hdi2 (by simp) ?_);refine Ad #[_,rfl,Ad (h1 v slot' _ e ok #[_,Cv _ hoi2 (Jf (Fg hdi2 _)),(Kz ..).trans ((Kz ..).trans hci),by rw[Fg hdi2];simp[Ji]] (Yz (Cp ..) (Cp ..)))]
 ·dsimp only;refine Aa (Hz hoi hdi (by simp) ?_);show Bc _ _ (Wu (.type "StopIteration") []>>=_) _ _ _;refine Aa ?_;simp only[Wu,newTuple];refine Aa (Ck ?_ (by size_fits));refine Aa (m:=Jm _ _) (Nz (a:=Cg) (by first|rfl|(simp only[Jm];rfl)) ?_);refine Ck ?_ (by size_fits);simp only[raiseNew];refine Aa (Tu ?_);rw[show A.in1.handled=none from hh];refine Aa (Ad (Vy ?_));refine Aa (Gg (T:="StopIteration") (b:=true) #[_,Ar _ rfl,rfl] Sh ?_);exact Ad (h2 hge _ (((Cp ..).extBut.push _).push _))
def Walks.set(hh:A.handled=none)(hne:S≠I)(o:Obj)(hd:o.data=.set es ep t)(hf:t.fits es.size=true)(hr:SetTable.vO t.place)(hpl:t.plain=true)(hl:t.led= !w.params.followText "set-order"):
  Walks prog w A I [I,S] [I] es.size (λi v=>(iC w S es ep)[i]? =some v) (λi h=>(∃slot,pY h I S slot i es.size ep/\aBv w t slot i)/\h.get? S=some o) where
 sub:=λb hb=>by simp at hb;simp[hb]
 frame:=λ_ _ _ st hk=>by
  obtain⟨⟨slot,⟨oi,h1,h2⟩,h3⟩,h4⟩:=st;exact#[#[slot,#[oi,hk I (by simp) _ h1,h2],h3],hk S (by simp) _ h4]
 item:=λi s Q E hi st hQ=>by
  obtain⟨⟨slot,h1,h3⟩,h4⟩:=st;refine qQ hh h1 h4 hd hf hr hpl hl h3 (λv slot' h' e ok it' sb=>?_) λhge=>Aa2 hi ∅;exact hQ _ h' s.toks e #[#[slot',it',ok],(sb.2 S hne).trans h4] λb o hb e=>sb.extBut b o (λh=>hb (by simp[h])) e
 done:=λs Q E st hQ=>by
  obtain⟨⟨slot,h1,h3⟩,h4⟩:=st;refine qQ hh h1 h4 hd hf hr hpl hl h3 (λv slot' h' e ok it' sb=>?_) λhge h' he'=>hQ h' s.toks λb o hb e=>he' b o (λh=>hb (by simp[h])) e;have olen:(iC w S es ep).length=es.size:=by rw[(lM w S es ep).length_eq,Ab,Bg]
  rw[Hc ∅]at e;cases e
 self:=λ_ _ _ _ st hQ=>by
  obtain⟨⟨slot,h1,h3⟩,h4⟩:=st;refine Pi h1.typeIs F.jY (Co F.jY h1.typeIs F.qD ?_ (F.pH _));show Bc _ _ (ret (.ref I)) _ _ _;exact Ad #[_,rfl,"set_iterator",_,h1.typeIs,F.dM.lookup,hQ]
end
namespace F
def aF7:isSubtype (.type "set") (.type "set")=pure true:=by rw[Sg];kernel_rfl
end F
section
variable {prog:Aj}{w:Bd}{A:Bp}{E:#v[c]}{s:Ai}{I S:Addr}{o:Obj}{es:Array (Int×Value)}{ep:Nat}{t:SetTable}
def zW(ho:s.heap.get? S=some o)(hex:o.ExactSet)(hd:o.data=.set es ep t)(hf:t.fits es.size=true)(hpl:t.plain=true)
  (hQ:Q (.ref #v[0]) {s with heap:=s.heap.push {cls:=.type "set_iterator",data:=.fields (List.toArray [.int 0 0,.int 0 0,.ref S,.int es.size 0,.int ep 0])}}):Bc #v[b] A (Wt (.ref S)) Q E s:=by
 have hT:s.TypeIs (.ref S) "set":=#[o,ho,hex.1];refine Pi hT Yf (Co Yf hT F.aB6 ?_ (F.args_set_iter_1 _));unfold Builtin.«frozenset.__iter__»;refine Aa (m:=Vl "__iter__" _) (Ad ?_);unfold Vm;refine Aa (Aa (Vz ho hd hf (Ad ?_)));unfold setDrawn Xt;refine Aa (Aa (Fy ho hd hf ?_));dsimp only;refine Aa (Aa (Ka (Ad ?_)));show Bc _ _ (pure (!#v[b].w.params.followText "set-order" && (!t.plain && decide (es.size>1)))) _ _ _;rw[hpl];simp only[Nq,Kk,Ja];refine Ad ?_
 ac_rfl
 refine Aa (Ad ?_);refine Aa (wpAny_setEpoch_of ho hd hf ?_);unfold newFields;refine Aa (Ck (Ad #[_,rfl,"set_iterator",_,#[_,Ar _ rfl,rfl],F.dM.lookup,?_]));simpa[Ji]using hQ
def pF(hh:A.handled=none)(ho:s.heap.get? S=some o)(hex:o.ExactSet)(hd:o.data=.set es ep t)(hf:t.fits es.size=true)(hr:SetTable.vO t.place)(hpl:t.plain=true)(hl:t.led= !w.params.followText "set-order")(hn:es.size<=sizeLine)
  (hQ:∀h' tk,#v[0]<h'.objs.size->(∀b o,s.heap.get? b=some o->h'.get? b=some o)->Q (iC w S es ep) {s with heap:=h',toks:=tk}):Bc #v[b] A (collect (.ref S)) Q E s:=by
 have hSlt:S<#v[0]:=As ho;unfold collect;refine Aa (wpAny_runValue (De F.entry_proto_collect ?_));rw[Cf F.plain_proto_collect _];show Bc _ A.in1 (Wc []>>=λl=>again (.builtin "list.__iadd__" #[[l,.ref S],[]])) _ _ s;refine Aa (Ck ?_);refine Ad #[Fc Wo _,De F.entry_list_iadd ?_];rw[Cf Wo _];have ho1:(s.heap.push {cls:=.type "list",data:=.seq ([]:List Value).toArray}).get? S=some o:=Ae _ ho;have hT1:Mv {s with heap:=s.heap.push {cls:=.type "list",data:=.seq ([]:List Value).toArray}} (.ref S) "set":=#[o,ho1,hex.1];have hS₁:(s.heap.push {cls:=.type "list",data:=.seq ([]:List Value).toArray}).get? #v[0]=some {cls:=.type "list",data:=.seq ([]:List Value).toArray}:=Ar _ rfl;have hne:#v[0]≠S:=Hw hSlt;have h1:Nr (.ref #v[0]) (.ref S)=false:=by simp[Nr,hne]
 show Bc _ A.in1 (Na (.ref #v[0]) (.ref S) (.ref #v[0])) _ _ _;unfold Na;refine Aa (Jq hT1 ?_);rw[Aa0 (by rw[h1];decide)];refine Aa (zW ho1 hex hd hf hpl ?_);have esz:(s.heap.push {cls:=.type "list",data:=.seq ([]:List Value).toArray}).objs.size=#v[0]+1:=Cw ..;rw[esz];generalize hH2:(s.heap.push {cls:=.type "list",data:=.seq ([]:List Value).toArray}).push {cls:=.type "set_iterator",data:=.fields (List.toArray [.int 0 0,.int 0 0,.ref S,.int es.size 0,.int ep 0])}=H2;have keep2:∀b o,s.heap.get? b=some o->H2.get? b=some o:=λb o e=>by rw[<-hH2];exact Ae _ (Ae _ e)
 have ho2:H2.get? S=some o:=keep2 _ _ ho;have hL2:H2.get? #v[0]=some {cls:=.type "list",data:=.seq ([]:List Value).toArray}:=by rw[<-hH2];exact Ae _ hS₁
 have hI2:H2.get? (#v[0]+1)=some {cls:=.type "set_iterator",data:=.fields (List.toArray [.int 0 0,.int 0 0,.ref S,.int es.size 0,.int ep 0])}:=by rw[<-hH2, <-esz];exact Ar _ rfl
 have hT2:Mv {s with heap:=H2} (.ref S) "set":=#[o,ho2,hex.1];refine Aa (Ci ?_);unfold Zg;refine Aa (Gp hT2 F.slot_set_len.lookup ?_)
 (generalize hid:("set.__len__":String)=id0;(fail_if_success (clear hid id0));wp_delta;rw[show splitId id0=some ("set","__len__")from by subst hid;decide+kernel];subst hid)
 refine Aa (Gg (b:=true) hT2 F.aF7 ?_)
 ac_rfl
 rw[Aa1 #v[1]];refine Aa (Jq hT2 ?_);refine Ad ?_;rw[Aa1 #v[1]];show Bc _ A.in1 (rule "list.extend.makes-room">>=λ_=>Zf (.ref #v[0])>>=λ_=>
  again (.builtin "list.extend.loop" #[[.ref #v[0],.ref (#v[0]+1),.ref #v[0]],[]])) _ _ _
 refine Aa (Il ?_);refine Aa ?_;show Bc _ A.in1 (Uu #v[0] (·.push .none)>>=λ_=>Uu #v[0] (·.pop)) _ _ _;refine Aa (Kl hL2 rfl ?_);have hS₂:=Cv (Ff (·.push Cg)) hL2 rfl;refine Kl hS₂ rfl ?_;have hS₃:=Cv (Ff (·.pop)) hS₂ rfl;have oth:∀b o,b≠#v[0]->H2.get? b=some o->((H2.update #v[0] (Ff (·.push Cg))).update #v[0] (Ff (·.pop))).get? b=some o:=
  λb o hb e=>(Dt _ _ (Cq hb)).trans ((Dt _ _ (Cq hb)).trans e)
 have hneI:S≠#v[0]+1:=Aw (Hk hSlt);have W:=(Walks.set (prog:=prog) (A:=A.in1) (I:=#v[0]+1) (S:=S) (by simp[hh]) hneI o hd hf hr hpl hl).toS;have hSf:#v[0]∉[#v[0]+1,S]:=by
  simp only[Ax,Bf,Cj,or_false,not_or];exact#[Aw (Ge _),hne]
 refine Ad ⟨Fc F.plain_extend_loop _,codeAny_extend_loopS W hn _ hSf _ es.size 0 _ _ _ rfl (Bt _)
  #[#[0,#[_,oth _ _ (Hw (Ge _)) hI2,rfl,rfl],.inr ?_],oth _ _ hne.symm ho2] hS₃ (ItemsOf.nil _) λs' acc' c' hm hS' hacc=>?_⟩
 ·have:=(SetTable.iW hr 0).2.1;rcases Nat.eq_zero_or_pos (Cr t.place 0)with z|z
  ·exact z
  ·exact Aa2 (this 0 z) (Eh _)
 ·show Bc _ A (load #v[0]>>=_) _ _ s';refine Aa (wpAny_load hS' ?_);obtain⟨h',g',d',tk',os'⟩:=s';have eg:g'=s.gens:=hm.gens;have ed:d'=s.drawn:=hm.drawn;have eo:os'=s.os:=hm.os;subst eg;subst ed;subst eo;have ea:acc'.toList=iC w S es ep:=by
   apply Iq;intro j;have olen:(iC w S es ep).length=es.size:=by rw[(lM w S es ep).length_eq,Ab,Bg]
   by_cases hj:j<acc'.size
   ·rw[Dg,Du hj];exact(hacc.2 j _ (Du hj)).symm
   ·rw[Hc (by rw[Bg];lia),Hc (by rw[olen, <-hacc.1];lia)]
  refine Ad ?_;rw[ea];refine hQ h' tk' (As hS') λb o e=>?_;have hb:b<#v[0]:=As e;exact hm.heap b o (by simp only[Ax,Bf,Cj,or_false,not_or];exact#[Aw hb,Aw (Hk hb)]) (oth b o (Aw hb) (keep2 b o e))
end
end PySem
namespace PySem.W
open PyProof.Rows
def KasT.Way{α:Type}(lt:Nat->Nat->Bool)(P:Nat->Prop):KasT α->(α->Prop)->Prop
 |.ret a,Q=>Q a
 |.ask i j k,Q=>P i/\P j/\(k (lt i j)).Way lt P Q
variable {lt:Nat->Nat->Bool}{P:Nat->Prop}
def KasT.way_bind{α β:Type}{f:α->KasT β}{Q:β->Prop}:∀(t:KasT α),t.Way lt P (λa=>(f a).Way lt P Q)->(t.bind f).Way lt P Q
 |.ret _,h=>h
 |.ask i j k,h=>#[h.1,h.2.1,KasT.way_bind (k (lt i j)) h.2.2]
def KasT.way_mono{α:Type}{Q Q':α->Prop}(hq:∀a,Q a->Q' a):∀(t:KasT α),t.Way lt P Q->t.Way lt P Q'
 |.ret _,h=>hq _ h
 |.ask i j k,h=>#[h.1,h.2.1,KasT.way_mono hq (k (lt i j)) h.2.2]
def KasT.way_wp{α:Type}{cmp:Nat->Nat->(Bool->Ai->Prop)->Ai->Prop}{s:Ai}(hc:∀i j C,P i->P j->C (lt i j) s->cmp i j C s){Q:α->Prop}{G:α->Ai->Prop}(hg:∀a,Q a->G a s):∀(t:KasT α),t.Way lt P Q->t.kasWp cmp G s
 |.ret _,h=>hg _ h
 |.ask i j k,h=>hc i j _ h.1 h.2.1 (KasT.way_wp hc hg (k (lt i j)) h.2.2)
structure qW(n:Nat)(lt:Nat->Nat->Bool):Prop where
 tot:∀i j,i<n->j<n->i≠j->lt i j=true∨lt j i=true
 asym:∀i j,lt i j=true->lt j i=false
 trans:∀i j k,lt i j=true->lt j k=true->lt i k=true
def vAt(p:Array Nat)(i:Nat):Nat:=p.getD i 0
def nH(n:Nat)(p:Array Nat):Prop:=p.toList.Perm (Dl n)
variable {n:Nat}{p:Array Nat}
def nH.size(h:nH n p):p.size=n:=by have:=h.length_eq;rw[Hg,Bg]at this;exact this
def lD{p:Array Nat}:vAt p i=(p[i]?).getD 0:=by
 unfold vAt Jp;by_cases h:i<p.size
 ·simp[h]
 ·simp[h]
def nH.low(h:nH n p)(hn:0<n)(i:Nat):vAt p i<n:=by
 rw[lD];cases e:p[i]? with
 |none=>exact hn
 |some x=>
  have:x∈p.toList:=Bl (by rw[Dg];exact e);exact Dj.mp (h.mem_iff.mp this)
def nH.inj(h:nH n p)(hi:i<n)(hj:j<n)(e:i≠j):vAt p i≠vAt p j:=by
 have nd:p.toList.Nodup:=h.nodup_iff.mpr Lg;have si:i<p.toList.length:=by rw[Bg,h.size];exact hi
 have sj:j<p.toList.length:=by rw[Bg,h.size];exact hj
 intro z;have h1:vAt p i=p.toList[i]:=by rw[lD, <-Dg,Af si];rfl
 have h2:vAt p j=p.toList[j]:=by rw[lD, <-Dg,Af sj];rfl
 rw[h1,h2]at z;exact e ((Hq nd).mp z)
def nH.perm(h:nH n p)(e:q.Perm p):nH n q:=(Array.perm_iff_toList_perm.mp e).trans h
def oM(lt:Nat->Nat->Bool)(p:Array Nat)(k:Nat):Prop:=∀i j,i<j->j<k->lt (vAt p i) (vAt p j)=true
def aDy(lt:Nat->Nat->Bool)(p:Array Nat)(k:Nat):Prop:=∀i j,i<j->j<k->lt (vAt p j) (vAt p i)=true
def oM.more(S:qW n lt)(h:oM lt p k)(hk:1<=k)(e:lt (vAt p (k-1)) (vAt p k)=true):oM lt p (k+1):=λi j hi hj=>by
 by_cases z:j<k
 ·exact h i j hi z
 ·obtain rfl:j=k:=by lia
  by_cases y:i=j-1
  ·subst y;exact e
  ·exact S.trans _ _ _ (h i (j-1) ∅ ∅) e
def aDy.more(S:qW n lt)(h:aDy lt p k)(hk:1<=k)(e:lt (vAt p k) (vAt p (k-1))=true):aDy lt p (k+1):=λi j hi hj=>by
 by_cases z:j<k
 ·exact h i j hi z
 ·obtain rfl:j=k:=by lia
  by_cases y:i=j-1
  ·subst y;exact e
  ·exact S.trans _ _ _ e (h i (j-1) ∅ ∅)
theorem aFb(S:qW n lt)(hn:0<n)(T:nH n p):∀(f k:Nat),1<=k->k+f=n->oM lt p k->(kas_asc p f k).Way lt (·<n) λm=>oM lt p m/\k<=m/\m<=n/\(m=n∨lt (vAt p m) (vAt p (m-1))=true)
 |0,k,h1,h2,h3=>#[h3,Am _,∅,.inl ∅]
 |f+1,k,h1,h2,h3=>by
  refine#[T.low hn k,T.low hn (k-1),?_];show KasT.Way lt (·<n) (if lt (vAt p k) (vAt p (k-1))=true then _ else _) _;by_cases c:lt (vAt p k) (vAt p (k-1))=true
  ·rw[Aa1 c];exact#[h3,Am _,∅,.inr c]
  ·rw[Aa0 c];have c':=(S.tot _ _ (T.low hn k) (T.low hn (k-1)) (T.inj ∅ ∅ ∅)).resolve_left c;exact KasT.way_mono (λm z=>#[z.1,∅,z.2.2]) _ (aFb S hn T f (k+1) ∅ ∅ (h3.more S h1 c'))
theorem aG0(S:qW n lt)(hn:0<n)(T:nH n p):∀(f k:Nat),1<=k->k+f=n->aDy lt p k->(kas_desc f p k 0).Way lt (·<n) λr=>r.1=p/\r.2.2=0/\aDy lt p r.2.1/\k<=r.2.1/\r.2.1<=n
 |0,k,h1,h2,h3=>#[rfl,rfl,h3,Am _,by show k<=n;lia]
 |f+1,k,h1,h2,h3=>by
  refine#[T.low hn k,T.low hn (k-1),?_];show KasT.Way lt (·<n) (if lt (vAt p k) (vAt p (k-1))=true then _ else _) _;by_cases c:lt (vAt p k) (vAt p (k-1))=true
  ·rw[Aa1 c,Aa0 ∅];exact KasT.way_mono (λm z=>#[z.1,z.2.1,z.2.2.1,∅,z.2.2.2.2]) _ (aG0 S hn T f (k+1) ∅ ∅ (h3.more S h1 c))
  ·rw[Aa0 c];refine#[T.low hn (k-1),T.low hn k,?_];have c':=(S.tot _ _ (T.low hn k) (T.low hn (k-1)) (T.inj ∅ ∅ ∅)).resolve_left c;show KasT.Way lt (·<n) (if lt (vAt p (k-1)) (vAt p k)=true then _ else _) _;rw[Aa1 c'];exact#[rfl,rfl,h3,Am _,by show k<=n;lia]
def aRo(hm:m<=p.size)(i:Nat):vAt (kas_rev p 0 m) i=if i<m then vAt p (m-1-i)else vAt p i:=by
 rw[lD,kas_rev,getElem?_mirror_all hm];by_cases h:i<m
 ·rw[Aa1 #[Bt _,h],Aa1 h,lD,Oi]
 ·rw[Aa0 (λz=>h z.2),Aa0 h,lD]
def aMc(S:qW n lt)(hn:0<n)(T:nH n p):(kas_count n p).Way lt (·<n) λr=>nH n r.2/\oM lt r.2 r.1/\1<=r.1/\r.1<=n:=by
 refine KasT.way_bind _ (KasT.way_mono (λm z=>?_) _ (aFb S hn T (n-1) 1 (Am _) ∅ λi j h1 h2=>by lia));obtain⟨z1,z2,z3,z4⟩:=z;by_cases e:m=n
 ·rw[Aa1 (beq_iff_eq.mpr e)];exact#[T,z1,z2,z3]
 ·rw[Aa0 (λy=>e (beq_iff_eq.mp y))];have z4:=z4.resolve_left e;by_cases g:m>1
  ·rw[Aa1 g];refine#[T.low hn 0,T.low hn (m-1),?_];have c:lt (p.getD 0 0) (p.getD (m-1) 0)=true:=z1 0 (m-1) ∅ ∅;rw[c];dsimp only;rw[Aa1 rfl];exact#[T,z1,z2,z3]
  ·rw[Aa0 g];obtain rfl:m=1:=by lia
   refine KasT.way_bind _ (KasT.way_mono (λr y=>?_) _ (aG0 S hn T (n-(1+1)) (1+1) ∅ ∅ λi j h1 h2=>?_))
   ·obtain⟨q,k,w⟩:=r;obtain⟨y1,y2,y3,y4,y5⟩:=y;have y1:q=p:=y1;have y2:w=0:=y2;subst y1 y2;show KasT.Way lt (·<n) (if 0>0 then _ else _) _;rw[Aa0 ∅];have y3:aDy lt q k:=y3;have y4:2<=k:=y4;have y5:k<=n:=y5;have T':nH n (kas_rev q 0 k):=T.perm (mirror_perm ..);have hs:k<=q.size:=by rw[T.size];exact y5
    refine KasT.way_bind _ (KasT.way_mono (λm' x=>?_) _ (aFb S hn T' (n-k) k ∅ ∅ λi j h1 h2=>?_))
    ·exact#[T',x.1,by have:=x.2.1;show 1<=m';lia,x.2.2.1]
    ·rw[aRo hs,aRo hs,Aa1 ∅,Aa1 h2];exact y3 _ _ ∅ ∅
   ·obtain rfl:i=0:=by lia
    obtain rfl:j=1:=by lia
    exact z4
theorem zB(S:qW n lt)(hn:0<n)(T:nH n p)(hk:k<n)(R:oM lt p k):∀(f l r:Nat),l<=r->r<=k->r-l<=f->(∀i,i<l->lt (vAt p i) (vAt p k)=true)->(∀i,r<=i->i<k->lt (vAt p k) (vAt p i)=true)->
  (kas_place p k f l r).Way lt (·<n) λm=>m<=k/\(∀i,i<m->lt (vAt p i) (vAt p k)=true)/\∀i,m<=i->i<k->lt (vAt p k) (vAt p i)=true
 |0,l,r,h1,h2,h3,a,b=>by
  obtain rfl:l=r:=by lia
  exact#[h2,a,b]
 |f+1,l,r,h1,h2,h3,a,b=>by
  show KasT.Way lt (·<n) (if l≥r then _ else _) _;by_cases e:l≥r
  ·rw[Aa1 e];obtain rfl:l=r:=by lia
   exact#[h2,a,b]
  ·rw[Aa0 e];refine#[T.low hn k,T.low hn _,?_];show KasT.Way lt (·<n) (if lt (vAt p k) (vAt p ((l+r) / 2))=true then _ else _) _;by_cases c:lt (vAt p k) (vAt p ((l+r) / 2))=true
   ·rw[Aa1 c];refine zB S hn T hk R f l _ ∅ ∅ ∅ a λi g1 g2=>?_;by_cases y:i=(l+r) / 2
    ·subst y;exact c
    ·exact S.trans _ _ _ c (R _ i ∅ g2)
   ·rw[Aa0 c];have c':=(S.tot _ _ (T.low hn k) (T.low hn ((l+r) / 2)) (T.inj hk ∅ ∅)).resolve_left c;refine zB S hn T hk R f _ r ∅ h2 ∅ (λi g=>?_) b;by_cases y:i=(l+r) / 2
    ·subst y;exact c'
    ·exact S.trans _ _ _ (R i _ ∅ ∅) c'
def aOl(hk:k<p.size)(hl:l<=k)(i:Nat):vAt (bubble p k (k-l)) i=if i=l then vAt p k else if l<i/\i<=k then vAt p (i-1)else vAt p i:=by
 rw[lD,getElem?_bubble hk _ ∅,show k-(k-l)=l by lia];split
 ·rw[lD]
 ·split<;>rw[lD]
theorem aKr (S : qW n lt) (hn : 0 < n) : ∀ (f : Nat) (p : Array Nat) (k : Nat), nH n p → k + f = n → oM lt p k → (kas_bin f p k).Way lt (· < n) fun q => nH n q ∧ oM lt q n
  | 0, p, k, T, h, R => ⟨T, by obtain rfl : k = n := by lia
                               exact R⟩
  | f + 1, p, k, T, h, R => by
    refine KasT.way_bind _ (KasT.way_mono (fun l z => ?_) _ (zB S hn T (k := k) ∅ R k 0 k (Bt _) (Am _) ∅ (fun i g => by lia) fun i g1 g2 => by lia))
    obtain ⟨z1, z2, z3⟩ := z
    have hs : k < p.size := by rw [T.size]; lia
    refine aKr S hn f _ (k + 1) (T.perm (bubble_perm ..)) ∅ fun i j h1 h2 => ?_
    rw [aOl hs z1, aOl hs z1]
    by_cases a1 : i = l
    · subst a1
      rw [Aa1 rfl, Aa0 ∅, Aa1 #[h1, by lia]]
      exact z3 (j - 1) ∅ ∅
    · rw [Aa0 a1]
      by_cases a2 : l < i ∧ i ≤ k
      · rw [Aa1 a2, Aa0 ∅, Aa1 #[∅, by lia]]
        exact R _ _ ∅ ∅
      · rw [Aa0 a2]
        by_cases b1 : j = l
        · rw [Aa1 b1]
          exact z2 i ∅
        · rw [Aa0 b1]
          by_cases b2 : l < j ∧ j ≤ k
          · rw [Aa1 b2]
            by_cases e : i = j - 1
            · lia
            · exact R _ _ ∅ ∅
          · rw [Aa0 b2]
            exact R _ _ h1 ∅
def aRt(S:qW n lt)(hn:0<n):(kas_sort n).Way lt (·<n) λq=>nH n q/\oM lt q n:=by
 have T:nH n (Yc (Dl n)):=Ju _;refine KasT.way_bind _ (KasT.way_mono (λr z=>?_) _ (aMc S hn T));obtain⟨m,q⟩:=r;obtain⟨z1,z2,z3,z4⟩:=z;have z1:nH n q:=z1;have z2:oM lt q m:=z2;have z3:1<=m:=z3;have z4:m<=n:=z4;show KasT.Way lt (·<n) (if m<n then kas_bin (n-max m 1) q (max m 1)else _) _;by_cases e:m<n
 ·rw[Aa1 e,show max m 1=m by lia];exact aKr S hn _ _ _ z1 ∅ z2
 ·rw[Aa0 e];obtain rfl:m=n:=by lia
  exact#[z1,z2]
end PySem.W
namespace PySem
variable {items:Array Value}{P:Nat->Value->Prop}{tk:Nat->Tok}{l:Addr}{fp wr:List Addr}
open Sem (wp)
open PyProof.Rows (listItems_at)
open SeqAt
def bCn(A:Bp)(s:Ai)(y x:Value)(b:Bool):Prop:=
 ∀(prog:Aj)(w:Bd)(E:#v[c])(Q:#v[c]),Q (.bool b) s->Bc #v[b] A (richCompare .Lt y x) Q E s
def LtN(n:Nat)(s:Ai)(y x:Value)(b:Bool):Prop:=∀A:Bp,A.units<=n->bCn A s y x b
def LtN.ints(n:Nat)(s:Ai)(a b:Int)(t u):LtN n s (.int a t) (.int b u) (decide (a<b)):=λA _ prog w E Q h=>Pc h
variable {s:Ai}{a b:Addr}{xs ys:Array Value}{n:Nat}
def lH:List Int->List Int->Bool
 | [],[]=>false
 | [],_::_=>true
 |_::_,[]=>false
 |x::xs,y::ys=>if x=y then lH xs ys else decide (x<y)
theorem aCe:∀x,lH x x=false
 | []=>rfl
 |x::xs=>by rw[lH,Aa1 rfl];exact aCe xs
theorem aHh:∀x y,x≠y->lH x y=true∨lH y x=true
 | [],[],h=>Aa2 rfl h
 | [],_::_,_=> .inl rfl
 |_::_,[],_=> .inr rfl
 |x::xs,y::ys,h=>by
  unfold lH;by_cases e:x=y
  ·subst e;rw[Aa1 rfl,Aa1 rfl];exact aHh xs ys λz=>h (by rw[z])
  ·rw[Aa0 e,Aa0 (Cq e),Aa7,Aa7]
   lia
theorem vU:∀x y z,lH x y=true->lH y z=true->lH x z=true
 | [],[],_,h,_=>Aa2 h ⋯
 | [],_::_,[],_,h=>Aa2 h (by simp[lH])
 | [],_::_,_::_,_,_=>rfl
 |_::_,[],_,h,_=>Aa2 h (by simp[lH])
 |_::_,_::_,[],_,h=>Aa2 h (by simp[lH])
 |x::xs,y::ys,z::zs,h1,h2=>by
  unfold lH at h1 h2⊢;by_cases e1:x=y
  ·subst e1;rw[Aa1 rfl]at h1;by_cases e2:x=z
   ·subst e2;rw[Aa1 rfl]at h2⊢;exact vU xs ys zs h1 h2
   ·rw[Aa0 e2]at h2⊢;exact h2
  ·rw[Aa0 e1,Aa7]at h1;by_cases e2:y=z
   ·subst e2;rw[Aa0 e1,Aa7];exact h1
   ·rw[Aa0 e2,Aa7]at h2;rw[Aa0 ∅,Aa7]
    lia
def aEn(x y:List Int)(h:lH x y=true):lH y x=false:=by
 cases e:lH y x with
 |false=>rfl
 |true=>
  have:=vU x y x h e;rw[aCe]at this;cases this
variable {prog:Aj}{w:Bd}
def LtN.tups{a b:Addr}(ha:Jl (Eb prog w) s.heap x a)(hb:Jl (Eb prog w) s.heap y b)(hn:n+4<cLine):LtN n s (.ref a) (.ref b) (lH x y):=by
 obtain⟨oa,ia,na,hoa,ca,da,ha⟩:=ha;obtain⟨ob,ib,nb,hob,cb,db,hb⟩:=hb;have Ta:s.TypeIs (.ref a) "tuple":=#[oa,hoa,ca];have Tb:s.TypeIs (.ref b) "tuple":=#[ob,hob,cb];intro A hA prog' w' E Q hQ;refine Rg (op:=.Lt) Ta Tb F.slot_tuple_lt (Pj (Vq F.slot_tuple_lt.plain F.entry_tuple_lt (F.slot_tuple_lt.check _ _ _ _ _ _ _ _ Ta (F.args_tuple_lt_2 _ _) ?_))) ∅;show Bc _ _ (Tc (.ref b) (.type "tuple")>>=_) _ _ s;refine Aa (Gg Tb Js ?_)
 ac_rfl
 refine Aa (Ir hoa da ?_);refine Aa (Ir hob db ?_);refine Aa (Ep (Q:=λr s'=>s'=s/\(match r.1 with|some v=>v=.done (.ret (.bool (lH x y)))|none=>lH x y=decide (x.length<y.length))) ?_ (λr s' h=>?_) λ_ _ z=>z)
 ·clear hQ hoa hob da db ca cb Ta Tb;generalize ia.toList=us at ha⊢;generalize ib.toList=vs at hb⊢;induction ha generalizing y vs with
  |nil=>
   rw[List.zip_nil_left,Mr];refine Ad #[rfl,?_];cases hb<;>rfl
  |@cons i u x us h1 t1 ih=>
   cases hb with
   |nil=>
    rw[List.zip_nil_right,Mr];exact Ad #[rfl,rfl]
   |@cons j v y vs h2 t2=>
    obtain⟨tu,rfl⟩:=Fp h1;obtain⟨tv,rfl⟩:=Fp h2;rw[Ic,Jy];refine Aa (Aa (Qk ?_));by_cases ij:i=j
    ·subst ij;rw[Ab0]
     ac_rfl
     refine Ad ?_;dsimp only;have:=ih vs t2;have e1:lH (i::x) (i::y)=lH x y:=by rw[lH,Aa1 rfl]
     have e2:decide ((i::x).length<(i::y).length)=decide (x.length<y.length):=by simp
     rw[e1,e2];exact this
    ·rw[beq_eq_false_iff_ne.mpr ij];have e1:lH (i::x) (j::y)=decide (i<j):=by rw[lH,Aa0 ij]
     rw[e1];simp only[Kj,Ab2];refine Aa (Il (Aa (LtN.ints (n+3) s i j tu tv A.in1 (by show A.units+1<=n+3;lia) prog' w' _ _ ?_)));exact Aa (Ad (Ad (Ad #[rfl,rfl])))
 ·obtain⟨rfl,h⟩:=h;obtain⟨r,u⟩:=r;cases r with
  |some v=>
   have h:v=_:=h;subst h;exact Ad #[(λz=>nomatch z),hQ]
  |none=>
   have h:lH x y=_:=h;rw[ha.length,hb.length,Bg,Bg]at h;refine Ad #[(λz=>nomatch z),?_];rw[h]at hQ;exact hQ
section
variable {prog:Aj}{w:Bd}{K:Type} [DecidableEq K]{knd:Hh prog w K}{A:Bp}
structure Met(val:Nat->K)(adr:Nat->Addr)(i:Nat)(xs:List (K×Addr)):Prop where
 from':∀x∈xs,∃j,j<i/\x=(val j,adr j)
 all:∀j,j<i->∃x∈xs,x.1=val j
 len:xs.length<=i
def pM{n:Nat}
  (D:vD knd) (W:WalksS prog w A.in1 I fp wr G n P St) (S:Addr) (hSf:S∉fp) (hu:knd.room A.in1) (l:Bool)
  (val:Nat->K) (adr:Nat->Addr) (hval:∀i v,P i v->v=.ref (adr i)) (hn:∀i xs,i<n->Met val adr i xs->(xs.map (·.1)).Nodup->(∀x∈xs,x.1≠val i)->xs.length<4) (hnt:∀i s,St i s->∀b∈wr,∀o,s.heap.get? b=some o->o.cls≠.type "tuple"):
  ∀(k i:Nat)(s:Ai)(xs:List (K×Addr)),n-i=k->i<=n->St i s->(∀j,j<n->knd.is s.heap (val j) (adr j))->
   mG knd s S l xs->Met val adr i xs->
   (∀s' xs',Moved (S::wr) G s s'->mG knd s' S l xs'->Met val adr n xs'->(∀b o,o.cls=.type "tuple"->s.heap.get? b=some o->s'.heap.get? b=some o)->R (.ok (.ret .none)) s')->
   Ii #v[b] A (.builtin "set.update.loop" #[[.ref S,.ref I],[]]) R s:=by
 have hSw:S∉wr:=λh=>hSf (W.sub _ h);have hsub:∀b∈wr,b∈S::wr:=λb hb=>Ah _ hb;intro k;induction k with
 |zero=>
  intro i s xs hk hi hst hkey hS hm0 hR;have hin:i=n:=by lia
  subst hin;refine De Eu ?_;rw[Cf Cd _];show Bc _ A.in1 (Ia (.ref I)>>=_) _ _ s;refine Aa (W.done s _ _ hst λs' hm=>?_);have ht:∀b o,o.cls=.type "tuple"->s.heap.get? b=some o->s'.heap.get? b=some o:=λb o hc e=>hm.heap b o (λhb=>hnt _ _ hst b hb o e hc) e;show Bc _ A.in1 (ret Cg) _ _ s';exact Ad (hR s' xs (hm.mono hsub) (hS.at D (λo e=>hm.heap S o hSw e) ht) hm0 ht)
 |succ k ih=>
  intro i s xs hk hi hst hkey hS hm0 hR;have hlt:i<n:=by lia
  refine De Eu ?_;rw[Cf Cd _];show Bc _ A.in1 (Ia (.ref I)>>=_) _ _ s;refine Aa (W.item i s _ _ hlt hst λv s' hP hst' hm=>?_);obtain rfl:=hval i v hP;have ht:∀b o,o.cls=.type "tuple"->s.heap.get? b=some o->s'.heap.get? b=some o:=λb o hc e=>hm.heap b o (λhb=>hnt _ _ hst b hb o e hc) e;have hS':=hS.at D (λo e=>hm.heap S o hSw e) ht;have hk':∀j,j<n->knd.is s'.heap (val j) (adr j):=λj hj=>D.mono (hkey j hj) ht;show Bc _ A.in1 (holding [Ao (adr i)] (setAdd S (.ref (adr i)))>>=_) _ _ s';refine Aa (Ci ?_);unfold setAdd;refine Ci ?_;refine Aa (knd.pyHash (k:=val i) hu (hk' i hlt) ?_);have hS2:mG knd {s' with toks:=s'.toks+knd.draws (val i)} S l xs:=hS'.at D (λ_ e=>e) λ_ _ _ e=>e;refine qR D hS2 (hn i xs hlt hm0 (by obtain⟨_,_,_,_,z,_⟩:=hS2;exact z.nd)) hu (hk' i hlt) (λhold=>?_) (λhnew h' xs' hsb pm S3=>?_)
  ·refine Ad #[Fc Cd _,ih (i+1) _ xs ∅ hlt (W.frame _ s' _ _ hst' (Da _ _) λb hb o e=>e) hk' hS2 #[λx hx=>?_,λj hj=>?_,by have:=hm0.len;lia] λs'' xs'' hm'' S'' M'' ht''=>?_]
   ·obtain⟨j,h1,h2⟩:=hm0.from' x hx;exact#[j,∅,h2]
   ·by_cases e:j=i
    ·subst e;exact hold
    ·exact hm0.all j ∅
   ·exact hR s'' xs'' (Ox W.gtrans ((hm.mono hsub).then_heap (Da _ _) λb o hb e=>e) hm'') S'' M'' λb o hc e=>ht'' b o hc (ht b o hc e)
  ·have hSt:∀b o,o.cls=.type "tuple"->s'.heap.get? b=some o->h'.get? b=some o:=λb o hc e=>by
    have ne:b≠S:=by
     rintro rfl;obtain⟨o2,_,_,_,z,_⟩:=hS';rw[z.ho]at e;cases e;rw[z.hex.1]at hc;exact Aa2 hc ⋯
    rw[hsb.2 b ne];exact e
   refine Ad #[Fc Cd _,ih (i+1) _ xs' ∅ hlt (W.frame _ s' _ _ hst' (Da _ _) λb hb o e=>?_) (λj hj=>D.mono (hk' j hj) hSt) S3 #[λx hx=>?_,λj hj=>?_,by have:=hm0.len;rw[pm.length_eq,An];lia] λs'' xs'' hm'' S'' M'' ht''=>?_]
   ·rw[hsb.2 b (λh:b=S=>hSf (by rw[<-h];exact hb))];exact e
   ·rcases Ax.mp (pm.mem_iff.mp hx)with e|m
    ·exact#[i,∅,e]
    ·obtain⟨j,h1,h2⟩:=hm0.from' x m;exact#[j,∅,h2]
   ·by_cases e:j=i
    ·subst e;exact#[_,pm.mem_iff.mpr Ag,rfl]
    ·obtain⟨x,hx,ex⟩:=hm0.all j ∅;exact#[x,pm.mem_iff.mpr (Ah _ hx),ex]
   ·refine hR s'' xs'' (Ox W.gtrans ((hm.mono hsub).then_heap (Da _ _) λb o hb e=>?_) hm'') S'' M'' λb o hc e=>ht'' b o hc (hSt b o hc (ht b o hc e));rw[hsb.2 b (λh:b=S=>hb (by rw[h];exact Ag))];exact e
end
variable {A:Bp}{E:#v[c]}
def aDh(a:Value)
  (h:Q₁ (.ref #v[0]) {s with heap:=s.heap.push {cls:=.type "set",dict:=none,data:=.set (List.toArray []) 0 (.fresh 0 0 (!w.params.followText "set-order"))}}):
  Ii #v[b] A (.call (.builtin "set.__new__") #[[.type "set",a],[]]) (wants Q₁ E) s:=by
 refine Zm ?_;show Bc _ A.in1 (do checkBuiltinCall "set.__new__" #[[.type "set",a],[]];again (.builtin "set.__new__" #[[.type "set",a],[]])) _ _ s;refine Aa (Nz (F.newCall_set_1 a) (Ad #[Fc Yg _,De F.entry_set_new ?_]));rw[Cf Yg _];unfold Builtin.«set.__new__» Vn;have hsub:=sub_set_self;obtain⟨hp,g,d,tk,os⟩:=s;dsimp only
 wp_walk
 refine Ka (Ad ?_);dsimp only;simp only[newObj];refine Aa (wpAny_alloc (Ad ?_));exact Ad h
section
variable {prog:Aj}{w:Bd}{K:Type} [DecidableEq K]{knd:Hh prog w K}{A:Bp}{E:#v[c]}{s:Ai}
def mG.fresh(s:Ai){a:Addr}(l:Bool)(h:s.heap.get? a=some {cls:=.type "set",dict:=none,data:=.set (List.toArray []) 0 (.fresh 0 0 l)}):mG knd s a l []:=
 #[_, (List.toArray []),0,_,#[h,#[rfl,rfl,rfl],rfl,rfl,#[rfl,λi k h1 h2=>Aa2 h2 (Eh _),λj hj=>(nomatch hj),Bt _,SetTable.aX8],rfl,λx hx=>(nomatch hx),Qf,λi j x h1 h2=>(nomatch h2)],#[rfl,Bt _],rfl,rfl]
def aWp(prog:Aj)(w:Bd)(n:Nat)(P:Nat->Value->Prop)(u:Nat)(s:Ai)(S:Addr)(led:Bool)(Z:Ai->Prop):Prop:=
 ∀{A:Bp}{R:Ou->Ai->Prop}{I:Addr}{fp wr:List Addr}{G:Array Ld->Array Ld->Prop}{St:Nat->Ai->Prop}(s1:Ai),WalksS prog w A.in1 I fp wr G n P St->S∉fp->A.in1.units<=u+8->
  (∀i s,St i s->∀b∈wr,∀o,s.heap.get? b=some o->o.cls≠.type "tuple")->St 0 s1->(∀b o,s.heap.get? b=some o->s1.heap.get? b=some o)->s1.heap.get? S=some {cls:=.type "set",dict:=none,data:=.set (List.toArray []) 0 (.fresh 0 0 led)}->
  (∀s',Moved (S::wr) G s1 s'->Z s'->R (.ok (.ret .none)) s')->Ii #v[b] A (.builtin "set.update.loop" #[[.ref S,.ref I],[]]) R s1
def wR(Z:Ai->Prop)(hh:A.handled=none)(hl:s.heap.IsList l items)
  (L:aWp prog w items.size (λi v=>items[i]? =some v) A.units s #v[0] (!w.params.followText "set-order") Z)
  (h:∀(h':Heap)(tk:Nat),Z {s with heap:=h',toks:=tk}->(∀b o,b<#v[0]->s.heap.get? b=some o->h'.get? b=some o)->Q (.ref #v[0]) {s with heap:=h',toks:=tk}):
  Bc #v[b] A (call (.type "set") [.ref l]) Q E s:=by
 obtain⟨c,tl,hmro⟩:=F.called_set.mro;have hmade:=F.called_set.made;have hsub:=F.called_set.sub;refine Pj (Zm ?_);show Bc _ _ (callAny (.type "set") _) _ _ _;refine Ad #[Code.quiet_builtin _ #v[1],De F.entry_type_call ?_];rw[Around.under_plain (weight_type_call_type "set" [.ref l] []) rfl];have h1:=F.called_set.notType;have h2:=F.called_set.canCreate;have hct:=F.typeCall_set_1 (.ref l)
 repeat (any_goals (first|assumption|wp_step))
 generalize hled:(!w.params.followText "set-order")=led at L;refine Jt (aDh (.ref l) (E:=E) (Q₁:=λobj s₁=>obj=.ref #v[0]/\s₁={s with heap:=s.heap.push {cls:=.type "set",dict:=none,data:=.set (List.toArray []) 0 (.fresh 0 0 led)}}) #[rfl,by rw[hled]]) λr s₁ hr=>?_;cases r with
 |error e=>exact hr
 |ok fl=>
  cases fl with
  |ret obj=>
   obtain⟨rfl,rfl⟩:=hr;have hS:(s.heap.push {cls:=.type "set",dict:=none,data:=.set (List.toArray []) 0 (.fresh 0 0 led)}).get? #v[0]=some {cls:=.type "set",dict:=none,data:=.set (List.toArray []) 0 (.fresh 0 0 led)}:=Ar _ rfl;have hT:Mv {s with heap:=s.heap.push {cls:=.type "set",dict:=none,data:=.set (List.toArray []) 0 (.fresh 0 0 led)}} (.ref #v[0]) "set":=#[_,hS,rfl];have hli:=F.called_set.init.lookup;have hbi:=F.called_set.init.bind (.ref #v[0])
   repeat (any_goals (first|assumption|wp_step))
   refine Jt (Vq (R:=wants (λr s₂=>r=.none/\∃h' tk,s₂={s with heap:=h',toks:=tk}/\Z {s with heap:=h',toks:=tk}/\
     (∀b o,b<#v[0]->s.heap.get? b=some o->h'.get? b=some o)) E) F.called_set.init.plain F.entry_set_init (check_set_init_1 hT ?_)) λr₂ s₂ hr₂=>?_
   ·obtain⟨ol,hol,hcl,nl,hdl⟩:=hl;obtain⟨ocls,odict,odata,oslots⟩:=ol;simp only at hcl hdl;subst hcl;subst hdl;have hol':(s.heap.push {cls:=.type "set",dict:=none,data:=.set (List.toArray []) 0 (.fresh 0 0 led)}).get? l=some {cls:=.type "list",dict:=odict,data:=.seq items nl,slots:=oslots}:=Ae _ hol;have hsls:=F.sub_list_set;have hslf:=F.sub_list_frozenset;have hne:(Kp "list"==Kp "dict")=false:=by decide
    have hl1:(s.heap.push {cls:=.type "set",dict:=none,data:=.set (List.toArray []) 0 (.fresh 0 0 led)}).IsList l items:=#[_,hol',rfl,nl,rfl];unfold Builtin.«set.__init__» noKeywords Vk;generalize hPI:Wt=PI
    wp_walk
    subst hPI;refine Jj hl1 ?_;refine Aa (wpAny_runValue ?_);have hlS:l<#v[0]:=As hol;have hh3:A.in1.in1.in1.handled=none:=by simp[hh]
    have hneI:l≠(s.heap.push {cls:=.type "set",dict:=none,data:=.set (List.toArray []) 0 (.fresh 0 0 led)}).objs.size:=by
     rw[Cw];exact Aw (Hk hlS)
    have hSf:#v[0]∉[(s.heap.push {cls:=.type "set",dict:=none,data:=.set (List.toArray []) 0 (.fresh 0 0 led)}).objs.size,l]:=by
     rw[Cw];simp only[Ax,Bf,Cj,or_false,not_or];exact#[Aw (Ge _),Hw hlS]
    have keep2:∀b o,s.heap.get? b=some o->((s.heap.push {cls:=.type "set",dict:=none,data:=.set (List.toArray []) 0 (.fresh 0 0 led)}).push {cls:=.type "list_iterator",data:=.fields (List.toArray [.ref l,.int 0 0])}).get? b=some o:=λb o e=>Ae _ (Ae _ e);refine L _ ((Qc hh3 _ l hneI items).toS) hSf (by simp[Around.in1]) ?hnt #[#[_,Ar _ rfl,rfl,rfl],(hl1.push _)] keep2 (Ae _ hS) ?hR
    case hnt=>
     rintro i s2 ⟨⟨o2,g1,g2,_⟩,_⟩ b hb o e hc;have hb:=Bf.mp hb;subst hb;rw[g1]at e;cases e;rw[g2]at hc;exact Aa2 hc ⋯
    case hR=>
     intro s' hm hS';obtain⟨h',g',d',tk',os'⟩:=s';have eg:g'=s.gens:=hm.gens;have ed:d'=s.drawn:=hm.drawn;have eo:os'=s.os:=hm.os;subst eg;subst ed;subst eo;show Bc _ _ _ _ _ _;refine Ad ?_;show Bc _ _ (ret Cg) _ _ _;refine Ad #[rfl,h',tk',rfl,hS',λb o hb e=>?_];have hb1:b≠#v[0]:=Aw hb;have hb2:b≠(s.heap.push {cls:=.type "set",dict:=none,data:=.set (List.toArray []) 0 (.fresh 0 0 led)}).objs.size:=by
      rw[Cw];exact Aw (Hk hb)
     exact hm.heap b o (by simp only[Ax,Bf,Cj,or_false,not_or];exact#[hb1,hb2]) (keep2 b o e)
   ·cases r₂ with
    |error e=>exact hr₂
    |ok fl₂=>
     cases fl₂ with
     |ret r=>
      obtain⟨rfl,h',tk,rfl,hS',hk'⟩:=hr₂
      repeat (any_goals (first|assumption|wp_step))
      exact h _ _ hS' hk'
     |_=>exact hr₂.elim
  |_=>exact hr.elim
def aB2(D:vD knd)(hu:∀A':Bp,A'.units<=A.units+8->knd.room A')
  (hh:A.handled=none) (hl:s.heap.IsList l items) (hi:∀(i:Nat)(v:Value),items[i]? =some v->v=Ao (adr i)) (hk:∀j,j<items.size->knd.is s.heap (val j) (adr j)) (hb:∀i xs,i<items.size->Met val adr i xs->(xs.map (·.1)).Nodup->(∀x∈xs,x.1≠val i)->xs.length<4)
  (h:∀(h':Heap)(tk:Nat)(xs:List (K×Addr)),mG knd {s with heap:=h',toks:=tk} #v[0] (!w.params.followText "set-order") xs->Met val adr items.size xs->
   (∀b o,b<#v[0]->s.heap.get? b=some o->h'.get? b=some o)->Q (.ref #v[0]) {s with heap:=h',toks:=tk}):
  Bc #v[b] A (call (.type "set") [.ref l]) Q E s:=
 wR (λs'=>∃xs,mG knd s' #v[0] (!w.params.followText "set-order") xs/\Met val adr items.size xs) hh hl
  (λs1 W hSf hA hnt st kp hS hR=>pM D W #v[0] hSf (hu _ hA) _ val adr hi hb hnt (items.size-0) 0 s1 [] ∅ (Bt _) st (λj hj=>D.mono (hk j hj) λb o _ e=>kp b o e) (mG.fresh _ _ hS) #[λx hx=>(nomatch hx),λj hj=>Aa2 hj (Eh _),Bt _] λs' xs' hm S M _=>hR s' hm #[xs',S,M])
  λh' tk ⟨xs,S,M⟩ kp=>h h' tk xs S M kp
end
open PyProof.Rows PySem.W
structure aBu{prog:Aj}{w:Bd}{α:Type} [DecidableEq α](knd:Hh prog w α)(ok:α->Prop)(lt:α->α->Bool):Prop where
 set:vD knd
 tot:∀x y,x≠y->lt x y=true∨lt y x=true
 asym:∀x y,lt x y=true->lt y x=false
 trans:∀x y z,lt x y=true->lt y z=true->lt x z=true
 first:∀{h:Heap}{k:α}{a:Addr},ok k->knd.is h k a->∃o items n i tk,h.get? a=some o/\o.cls=.type "tuple"/\o.data=.seq items n/\items[0]? =some (Dx i tk)
 cmp:∀{A:Bp}{E:#v[c]}{b:Bool}{s:Ai}{x y:α}{p q:Addr}{Q:Bool->Ai->Prop},A.units+10<cLine->knd.is s.heap x p->knd.is s.heap y q->Q (lt x y) s->Bc #v[b] A (keyLt' (tuples' b) (.ref p) (.ref q)) Q E s
section
variable {prog:Aj}{w:Bd}{A:Bp}{E:#v[c]}{s:Ai}{α:Type} [DecidableEq α] [Inhabited α]{knd:Hh prog w α}{ok:α->Prop}{lt:α->α->Bool}
def yJ(knd:Hh prog w α)(ok:α->Prop)(h:Heap)(xs:List (α×Addr)):Prop:=∀x∈xs,ok x.1/\knd.is h x.1 x.2
def yJ.mono(O:aBu knd ok lt){xs:List (α×Addr)}(T:yJ knd ok h xs)(hs:∀b o,o.cls=.type "tuple"->h.get? b=some o->h'.get? b=some o):yJ knd ok h' xs:=λx hx=>#[(T x hx).1,O.set.mono (T x hx).2 hs]
def yJ.kat(O:aBu knd ok lt):∀{xs:List (α×Addr)},yJ knd ok h xs->∃fs:List Value,fs.length=xs.length/\(∀v∈fs,∃i tk,v=Dx i tk)/\KatTups h (xs.map λx=>Ao x.2) fs
 | [],_=>#[[],rfl,λv hv=>(nomatch hv),KatTups.nil]
 |x::xs,T=>by
  obtain⟨fs,f1,f2,f3⟩:=yJ.kat O (xs:=xs) λy hy=>T y (Ah _ hy);obtain⟨o,items,n,i,tk,ho,hc,hd,hf⟩:=O.first (T x Ag).1 (T x Ag).2;refine#[.int i tk::fs,by rw[An,An,f1],λv hv=>?_,KatTups.cons ho hc hd hf f3];rcases Ax.mp hv with rfl|hv
  ·exact#[_,_,rfl]
  ·exact f2 v hv
def aEt{α:Type}{xs:List α}{p:List Nat}(hp:p.Perm (Dl xs.length)):(p.filterMap λi:Nat=>xs[i]?).Perm xs:=by
 have:=hp.filterMap λi:Nat=>xs[i]?;rw[aAu]at this;exact this
def aVs(prog:Aj)(w:Bd)(A:Bp)(E:#v[c])(lt:α->α->Bool)(xs:List (α×Addr))(s:Ai):Prop:=∀b,Bc #v[b] A ((sortRuns').run (SortSt.mk' (tuples' b) ((xs.map λx=>Ao x.2).toArray.zip (xs.map λx=>Ao x.2).toArray) (List.toArray []) 7 none)) (λr s'=>s'=s/\∃p:Array Nat,p.size=xs.length/\arrOf r.2=p.map (kas_item ((xs.map λx=>Ao x.2).toArray.zip (xs.map λx=>Ao x.2).toArray))/\failedOf r.2=none/\nH xs.length p/\oM (λi j=>lt (xs.getD i (default,0)).1 (xs.getD j (default,0)).1) p xs.length) E s
def aUi(O:aBu knd ok lt)(hu:A.units+20<cLine){xs:List (α×Addr)}(T:yJ knd ok s.heap xs){b:Bool}(hi:i<xs.length)(hj:j<xs.length)(hC:C (lt (xs.getD i (default,0)).1 (xs.getD j (default,0)).1) s):kas_ask prog w A (tuples' b) (xs.map λx=>Ao x.2) i j C s:=by
 have keyd:∀i,i<xs.length->xs[i]? =some (xs.getD i (default,0))/\(xs.map λx=>Ao x.2).getD i Cg=.ref (xs.getD i (default,0)).2:=λi hi=>by simp[Nm,hi]
 obtain⟨a1,a2⟩:=keyd i hi;obtain⟨b1,b2⟩:=keyd j hj;show Bc _ _ (keyLt' _ ((xs.map λx=>Ao x.2).getD i Cg) ((xs.map λx=>Ao x.2).getD j Cg)) _ _ _;rw[a2,b2];exact O.cmp ∅ (T _ (Bl a1)).2 (T _ (Bl b1)).2 hC
def aFv(O:aBu knd ok lt){a:Addr}{xs:List (α×Addr)}{n:Nat}{P:Fin->Ai->Prop}(ho:s.heap.get? a=some (Jh "list" (xs.map λx=>Ao x.2).toArray n))
  (T:yJ knd ok s.heap xs) (hz:xs.length<=10000) (run:∀s1:Ai,yJ knd ok s1.heap xs->2<=xs.length->aVs prog w A E lt xs s1)
  (h:∀ys:List (α×Addr),ys.Perm xs->ys.Pairwise (λx y=>lt x.1 y.1=true)->P (.done (.ret .none)) {s with heap:=Sz s.heap a (xs.map λx=>Ao x.2) (ys.map λx=>Ao x.2).toArray}):
  Bc #v[b] A (Builtin.«list.sort» #[[.ref a],[]]) P E s:=by
 rw[list_sort_plain];have ha:a<#v[0]:=As ho;generalize hvs:(xs.map λx=>Ao x.2)=vs at ho h;have vl:vs.length=xs.length:=by rw[<-hvs,Ab]
 refine Aa (listItems_at ho rfl ?_);refine Aa (Tx ho rfl ?_ (by rw[Al,Ez];lia) (Bt _));obtain⟨e1,ho1⟩:∃e1,(s.heap.update a (Ff λ_=> (List.toArray []))).get? a=some (Jh "list" (List.toArray []) e1):=#[_,get?_update_seq ho (λ_=> (List.toArray []))];refine Aa (Wb ho1 rfl ?_);refine Aa (wpAny_newTuple ?_ (by show vs.length<=_;rw[Ez];lia));refine Aa (Tt ?_ (Bt _));refine Ci ?_;have kp:∀b o,b≠a->s.heap.get? b=some o->(((s.heap.update a (Ff λ_=> (List.toArray []))).push (Jh "tuple" vs.toArray 0)).push (Jh "list" (List.toArray []) 0)).get? b=some o:=λb o hb e=>
  Ae _ (Ae _ ((Dt _ _ (Cq hb)).trans e))
 have ho6:(((s.heap.update a (Ff λ_=> (List.toArray []))).push (Jh "tuple" vs.toArray 0)).push (Jh "list" (List.toArray []) 0)).get? a=some (Jh "list" (List.toArray []) e1):=Ae _ (Ae _ ho1);show Bc #v[b] A _ P E {s with heap:=((s.heap.update a (Ff λ_=> (List.toArray []))).push (Jh "tuple" vs.toArray 0)).push (Jh "list" (List.toArray []) 0)};dsimp only;generalize hH:((s.heap.update a (Ff λ_=> (List.toArray []))).push (Jh "tuple" vs.toArray 0)).push (Jh "list" (List.toArray []) 0)=H at ho6 kp;have T6:yJ knd ok H xs:=T.mono O λb o hc e=>kp b o (λz=>by subst z;rw[ho]at e;cases e;exact Aa2 (show Kp "list"=Kp "tuple" from hc) ⋯) e;have fin:∀out:Array Value,Sz s.heap a vs out=H.update a (Ff λ_=>out):=λout=>by rw[<-hH];rfl
 by_cases h2:vs.toArray.size<2
 ·rw[Aa1 h2,Aa1 h2];refine Aa (Ad ?_);rw[StateT.run_pure];refine Aa (Ad ?_);dsimp only;refine Aa (Wb ho6 rfl ?_);have ev:(pairsOf vs).map (·.2)=vs.toArray:=by
   apply Array.toList_inj.mp;rw[Array.toList_map,pairsOf_toList];exact List.map_snd_zip (Am _)
  have hz:((pairsOf vs).map (·.2)).size<=sizeLine+1:=by rw[ev,Al,Ez];lia
  refine Aa (Tx ho6 rfl ?_ (Bt _) hz);simp only[bne_self_eq_false,Dr,Ab1];refine Ad ?_;have q:=h xs (Ju _) (by
   rw[Al,vl]at h2;match xs,h2 with
   | [],_=>exact .nil
   | [x],_=>exact Dm _ _)
  rw[fin,hvs]at q;have q':P (.done (.ret .none)) {s with heap:=H.update a (Ff λ_=>(pairsOf vs).map (·.2))}:=by rw[ev];exact q
  exact q'
 ·rw[Aa0 h2,Aa0 h2];rw[Al]at h2;obtain⟨fs,f1,f2,f3⟩:=yJ.kat O T6;rw[hvs]at f3;refine Aa (kat_kind (T:=Kp "int") f3 ∅ (λv hv=>?_) rfl ?_)
  ·obtain⟨i,tk,rfl⟩:=f2 v hv;exact Looks.of_pure rfl
  ·have keyd:∀i,i<xs.length->xs[i]? =some (xs.getD i (default,0))/\vs.getD i Cg=.ref (xs.getD i (default,0)).2:=λi hi=>by
    rw[<-hvs];simp[Nm,hi]
   have rn:=run {s with heap:=H} T6 ∅;unfold aVs at rn;rw[hvs]at rn;refine Aa (Ep (rn _) ?_ λ_ _ e=>e);rintro⟨⟨⟩,st'⟩ s' ⟨rfl,p,hp,har,hf,hT,hR⟩;dsimp only;have hout:=kat_snds rfl har;have pm:p.toList.Perm (Dl xs.length):=hT;have ey:(p.toList.map λi=>vs.getD i Cg)=(p.toList.filterMap λi:Nat=>xs[i]?).map λx=>Ao x.2:=by
    rw[List.map_filterMap];have:∀l:List Nat,(∀i∈l,i<xs.length)->(l.map λi=>vs.getD i Cg)=l.filterMap λi:Nat=>(xs[i]?).map λx=>Ao x.2:=by
     intro l;induction l with
     |nil=>intro _;rfl
     |cons i l ih=>
      intro hl;obtain⟨a1,a2⟩:=keyd i (hl i Ag);rw[Br,Gn,a1,ih λj hj=>hl j (Ah _ hj),a2];rfl
    exact this _ λi hi=>Dj.mp (pm.mem_iff.mp hi)
   have hsz:(Yc (p.toList.map λi=>vs.getD i Cg)).size<=sizeLine+1:=by rw[Al,Ab,Bg,hp,Ez];lia
   refine Aa (Wb ho6 rfl ?_);rw[hout];refine Aa (Tx ho6 rfl ?_ (Bt _) hsz);rw[hf];simp only[bne_self_eq_false,Dr,Ab1];refine Ad ?_;have q:=h (p.toList.filterMap λi:Nat=>xs[i]?) (aEt pm) (by
    rw[Qe];intro i j hi hj hij;have pl:p.toList.length=xs.length:=by rw[pm.length_eq,Hg]
    have fl:=(aEt pm).length_eq;have gt:∀r,(hr:r<(p.toList.filterMap λi:Nat=>xs[i]?).length)->(p.toList.filterMap λi:Nat=>xs[i]?)[r]=xs.getD (vAt p r) (default,0):=λr hr=>by
     have hr':r<p.toList.length:=by lia
     have e1:=filterMap_get (f:=λi:Nat=>xs[i]?) (l:=p.toList) (λi hi=>#[_,Af (Dj.mp (pm.mem_iff.mp hi))]) r;rw[Af hr,Af hr']at e1;have e2:vAt p r=p.toList[r]:=by rw[lD, <-Dg,Af hr'];rfl
     rw[e2];have lt:p.toList[r]<xs.length:=Dj.mp (pm.mem_iff.mp (Gc hr'));have e3:(some p.toList[r]).bind (λi:Nat=>xs[i]?)=some (xs.getD p.toList[r] (default,0)):=(keyd _ lt).1;rw[e3]at e1;exact Bj e1
    rw[gt i hi,gt j hj];exact hR i j hij ∅)
   rw[fin, <-ey]at q;exact q
def aCg(O:aBu knd ok lt)(hu:A.units+20<cLine){a:Addr}{xs:List (α×Addr)}{n:Nat}{P:Fin->Ai->Prop}(ho:s.heap.get? a=some (Jh "list" (xs.map λx=>Ao x.2).toArray n))
  (T:yJ knd ok s.heap xs) (nd:(xs.map (·.1)).Nodup) (h64:xs.length<64)
  (h:∀ys:List (α×Addr),ys.Perm xs->ys.Pairwise (λx y=>lt x.1 y.1=true)->P (.done (.ret .none)) {s with heap:=Sz s.heap a (xs.map λx=>Ao x.2) (ys.map λx=>Ao x.2).toArray}):
  Bc #v[b] A (Builtin.«list.sort» #[[.ref a],[]]) P E s:=by
 refine aFv O ho T ∅ (λs1 T1 h2 b=>?_) h;have S:qW xs.length λi j=>lt (xs.getD i (default,0)).1 (xs.getD j (default,0)).1:=by
  refine#[λi j hi hj ne=>O.tot _ _ λz=>ne ?_,λi j=>O.asym _ _,λi j k=>O.trans _ _ _];have li:i<(xs.map (·.1)).length:=by rw[Ab];exact hi
  have lj:j<(xs.map (·.1)).length:=by rw[Ab];exact hj
  refine(Hq (h₀:=li) (h₁:=lj) nd).mp ?_;simpa[Nm,hi,hj]using z
 have wy:=aRt S ∅;have vl:(xs.map λx=>Ao x.2).length=xs.length:=Ab ..;refine kat_run (Q:=λst' s'=>s'=s1/\∃p:Array Nat,p.size=xs.length/\arrOf st'=p.map (kas_item ((xs.map λx=>Ao x.2).toArray.zip (xs.map λx=>Ao x.2).toArray))/\failedOf st'=none/\nH xs.length p/\oM (λi j=>lt (xs.getD i (default,0)).1 (xs.getD j (default,0)).1) p xs.length) (G:=λp s'=>s'=s1/\nH xs.length p/\oM (λi j=>lt (xs.getD i (default,0)).1 (xs.getD j (default,0)).1) p xs.length) rfl ∅ ∅ (λp st' s' a1 a2 a3 a4=>#[a4.1,p,a1.trans vl,a2,a3,a4.2]) ?_;rw[vl];exact KasT.way_wp (lt:=λi j=>lt (xs.getD i (default,0)).1 (xs.getD j (default,0)).1) (P:=(·<xs.length)) (λi j C hi hj hC=>aUi O hu T1 hi hj hC) (λp hp=>#[rfl,hp]) _ wy
def aJ9(O:aBu knd ok lt)(hu:A.units+30<cLine){xs:List (α×Addr)}(hh:A.handled=none)(I:mG knd s S (!w.params.followText "set-order") xs)(ne:∀x∈xs,ok x.1)(h64:xs.length<64)
  (h:∀(h':Heap)(tk:Nat)(l:Addr)(e:Nat)(ys:List (α×Addr)),ys.Perm xs->ys.Pairwise (λx y=>lt x.1 y.1=true)->#v[0]<=l->h'.get? l=some (Jh "list" (ys.map λx=>Ao x.2).toArray e)->
   (∀b o,s.heap.get? b=some o->h'.get? b=some o)->Q (.ref l) {s with heap:=h',toks:=tk}):
  Bc #v[b] A (call (.builtin "sorted") [.ref S]) Q E s:=by
 obtain⟨o,es,ep,t,I,sm,pl,ld⟩:=I;refine Pz kind_sorted plain_sorted entry_sorted (args_sorted1 _) ?_;unfold Builtin.«sorted»;refine Aa (m:=checkCount "sorted" 1 1 _) (Ad ?_);have esz:es.size<64:=by rw[I.len];exact h64
 refine Aa (pF (by simpa using hh) I.ho I.hex I.hd I.fits I.good.rise pl ld (by rw[Ez];lia) λh1 tk1 s1 k1=>?_);have op:=lM w S es ep;have eo:es.toList.map (·.2)=xs.map λx=>Ao x.2:=by rw[I.he,Ce];rfl
 rw[eo]at op;obtain⟨zs,pz,ez⟩:∃zs:List (α×Addr),zs.Perm xs/\iC w S es ep=zs.map λx=>Ao x.2:=by
  have:∀{l:List Value}{xs:List (α×Addr)},l.Perm (xs.map λx=>Ao x.2)->∃zs:List (α×Addr),zs.Perm xs/\l=zs.map λx=>Ao x.2:=λ{l xs} hp=>by
   generalize hm:(xs.map λx=>Ao x.2)=m at hp;induction hp generalizing xs with
   |nil=>exact#[xs,Ju _,hm.symm]
   |cons a p ih=>
    match xs,hm with
    |x::xs,hm=>
     obtain⟨e1,e2⟩:=Dq hm;obtain⟨zs,z1,z2⟩:=ih e2;exact#[x::zs,z1.cons x,by rw[z2, <-e1];rfl]
   |swap a b l=>
    match xs,hm with
    |x::y::xs,hm=>
     obtain⟨e1,e2⟩:=Dq hm;obtain⟨e2,e3⟩:=Dq e2;exact#[y::x::xs,Tj _ _ _,by rw[<-e1, <-e2, <-e3];rfl]
   |trans p1 p2 ih1 ih2=>
    obtain⟨zs,z1,z2⟩:=ih2 hm;obtain⟨us,u1,u2⟩:=ih1 z2.symm;exact#[us,u1.trans z1,u2]
  exact this op
 rw[ez];have zl:zs.length=xs.length:=pz.length_eq;refine Aa (Tt ?_ (by rw[Ab,Ez];lia));have hoL:(h1.push (Jh "list" (zs.map λx=>Ao x.2).toArray 0)).get? h1.objs.size=some (Jh "list" (zs.map λx=>Ao x.2).toArray 0):=Ar _ rfl;have T1:yJ knd ok (h1.push (Jh "list" (zs.map λx=>Ao x.2).toArray 0)) zs:=λx hx=>#[ne x (pz.mem_iff.mp hx),O.set.mono (I.keys x (pz.mem_iff.mp hx)) λb o _ e=>Ae _ (k1 b o e)];refine Aa (Ci (Co slot_list_sort #[_,hoL,rfl] entry_list_sort (aCg O (by first|lia|(show A.units+1+20<cLine;lia)|(show A.units+2+20<cLine;lia)|(show A.units+3+20<cLine;lia)) hoL T1 (by rw[(pz.map (·.1)).nodup_iff];exact I.nd) ∅ λys py hy=>#[_,rfl,?_]) (args_list_sort _)));refine Ad #[_,rfl,?_];obtain⟨e,he⟩:=sortedHeap_at (out:=(ys.map λx=>Ao x.2).toArray) hoL;refine h _ tk1 _ e ys (py.trans pz) hy (Hy s1) he λb o q=>?_;have hb:b<h1.objs.size:=As (k1 b o q);rw[sortedHeap_old (Aw hb) (by rw[Cw];exact Hk hb)];exact Ae _ (k1 b o q)
end
def aAt(x y:Int×List Int):Bool:=if x.1=y.1 then lH x.2 y.2 else decide (x.1<y.1)
def aTs(hv:∀k v,(Eb prog w).is k v=true->∃i tk,v=Dx i tk):aBu (iI (Eb prog w)) (λ_=>True) aAt where
 set:=aQz hv
 tot:=λx y ne=>by
  unfold aAt;by_cases e:x.1=y.1
  ·rw[Aa1 e,Aa1 e.symm];exact aHh _ _ λz=>ne (Qz e z)
  ·rw[Aa0 e,Aa0 (Cq e),Aa7,Aa7]
   lia
 asym:=λx y h=>by
  unfold aAt at h⊢;by_cases e:x.1=y.1
  ·rw[Aa1 e]at h;rw[Aa1 e.symm];exact aEn _ _ h
  ·rw[Aa0 e,Aa7]at h;rw[Aa0 (Cq e),decide_eq_false_iff_not]
   lia
 trans:=λx y z h1 h2=>by
  unfold aAt at h1 h2⊢;by_cases e1:x.1=y.1
  ·rw[Aa1 e1]at h1;by_cases e2:y.1=z.1
   ·rw[Aa1 e2]at h2;rw[Aa1 (e1.trans e2)];exact vU _ _ _ h1 h2
   ·rw[Aa0 e2,Aa7]at h2;rw[Aa0 ∅,Aa7]
    lia
  ·rw[Aa0 e1,Aa7]at h1;by_cases e2:y.1=z.1
   ·rw[Aa0 ∅,Aa7]
    lia
   ·rw[Aa0 e2,Aa7]at h2;rw[Aa0 ∅,Aa7]
    lia
 first:=λ_ hk=>by
  obtain⟨o,v,b,n,ho,hc,hd,h1,_⟩:=hk;obtain⟨tk,rfl⟩:=Fp h1;exact#[o,_,n,_,tk,ho,hc,hd,rfl]
 cmp:=λ{A E b s x y p q Q} hu hx hy h=>by
  obtain⟨ox,v,px,nx,h1,h2,h3,h4,h5⟩:=hx;obtain⟨oy,v',py,ny,g1,g2,g3,g4,g5⟩:=hy;obtain⟨tu,rfl⟩:=Fp h4;obtain⟨tv,rfl⟩:=Fp g4;refine kat_lt h1 h3 g1 g3 ?_;show KatLex prog w A b _ Q [(_,_),(_,_)] 0 s;refine kat_cons (Qk ?_);unfold aAt at h;by_cases e:x.1=y.1
  ·rw[Aa1 e]at h;rw[beq_iff_eq.mpr e];refine kat_yes (kat_cons ((Iv (Eb prog w)).eqBool (show A.units<cLine by lia) h5 g5 ?_));by_cases e2:x.2=y.2
   ·rw[Aa5 e2];refine kat_yes (kat_nil ?_);rw[e2,aCe]at h;exact h
   ·rw[Aa6 e2];refine kat_no ?_;rw[show(b && (0+1==0))=false by cases b<;>rfl];exact kat_one _ _ (LtN.tups (n:=A.units) h5 g5 ∅ A (Am _) prog w _ _ h)
  ·rw[Aa0 e]at h;rw[beq_eq_false_iff_ne.mpr e];refine kat_no ?_;rw[show(b && (0==0))=b by cases b<;>rfl];cases b with
   |true=>exact oneLt_int h
   |false=>exact kat_one _ _ (Pc (Q:=PySem.W.BoolBack Q) h)
def aDu(l:Bool)(zs:List Nat):SetTable:={mask:=7,place:=zs.toArray,dummies:= (List.toArray []),finger:=0,led:=l,moves:=0,plain:=true}
def lG(zs:List Nat)(tk:Nat->Tok):Array (Int×Value):=(zs.map λz:Nat=>((z:Int),Dx (z:Int) (tk z))).toArray
def zs1(x:Nat):Bool->List Nat
 |false=>[]
 |true=>[x]
def bC1{l:Bool}{x:Nat}{t:Tok}(hx:x∈[1,2,3]):layNew (aDu l []) (lG [] tk) (x:Int) (.int x t)=(lG [x] (λ_=>t),aDu l [x],false,false):=by
 simp only[Ax,Cj,or_false]at hx;rcases hx with rfl|rfl|rfl<;>cases l<;>kernel_rfl
variable {x:Nat}
def aIr(s:Ai)(a:Addr)(l:Bool)(x:Nat)(b:Bool):Prop:=∃o ep tk,s.heap.get? a=some o/\o.ExactSet/\o.data=.set (lG (zs1 x b) tk) ep (aDu l (zs1 x b))
def aWd(b:Bool)(tk:Nat->Tok):(lG (zs1 x b) tk).size<=1:=by cases b<;>simp[lG,zs1]
def aPg{l b:Bool}(hx:x∈[1,2,3]):(aDu l (zs1 x b)).fits (lG (zs1 x b) tk).size=true:=by
 simp only[Ax,Cj,or_false]at hx;cases b<;>rcases hx with rfl|rfl|rfl<;>rfl
def aPq(hx:x∈[1,2,3]):(Eb prog w).hash (x:Int)=(x:Int):=by
 simp only[Ax,Cj,or_false]at hx;rcases hx with rfl|rfl|rfl<;>rfl
def aWx{b:Bool}(hx:x∈[1,2,3]):ElemsOf (Eb prog w) (lG (zs1 x b) tk).toList:=by
 intro e he;obtain⟨z,hm,rfl⟩:=Ay.mp (show e∈(zs1 x b).map _ from he);obtain rfl:z=x:=by
  cases b
  ·cases hm
  ·exact Bf.mp hm
 exact#[#[(z:Int),Td _ _ _ _,(aPq hx).symm],rfl]
def aDw{a:Addr}{l b:Bool}{t:Tok}{Q:Bool->Ai->Prop}(hx:x∈[1,2,3])(S:aIr s a l x b)(h:∀(b:Bool) h',Em a s.heap h'->aIr {s with heap:=h'} a l x true->Q b {s with heap:=h'}):
  Bc #v[b] A (Qb a (.int x t) (x:Int)) Q E s:=by
 obtain⟨o,ep,tk,ho,hex,hd⟩:=S;have hel:=aWx (prog:=prog) (w:=w) (b:=b) (tk:=tk) hx;have hsz:=aWd (x:=x) b tk;unfold Qb setAddHashedIn;refine Ci (Aa (Fy ho hd (aPg hx) ?_));dsimp only;rw[byScan_of (knd:=Eb prog w) rfl (by unfold scanBound;lia) hel];simp only[↓reduceIte];unfold setAddByScan;refine Aa ?_;refine Aa (Il ?_);have hkey:(Eb prog w).is (x:Int) (.int x t)=true:=Td _ _ _ _;have e1:Bc #v[b] A (setScan a (.int x t) (x:Int) true (lG (zs1 x b) tk)) (λr s'=>s'=s/\r=(match (lG (zs1 x b) tk).toList.findIdx? (λe=>(Eb prog w).is (x:Int) e.2)with|some j=> .found (0+j)|none=> .absent)) E s:=by
  have:=wpAny_setScan_of (knd:=Eb prog w) (adding:=true) (A:=A) (E:=E) (Q:=λr s'=>s'=s/\r=(match (lG (zs1 x b) tk).toList.findIdx? (λe=>(Eb prog w).is (x:Int) e.2)with|some j=> .found (0+j)|none=> .absent)) hkey ho hd (aPg hx) hel #[rfl,rfl];rw[aPq hx]at this;exact this
 refine Aa (Ep e1 (λr s' hr=>?_) λ_ _ z=>z);obtain⟨rfl,rfl⟩:=hr;cases b with
 |true=>
  have e:(lG (zs1 x true) tk).toList.findIdx? (λe=>(Eb prog w).is (x:Int) e.2)=some 0:=by
   show List.findIdx? _ [((x:Int),Dx (x:Int) (tk x))]=some 0;rw[List.findIdx?_cons,Aa1 (Td _ _ _ _)]
  rw[e];dsimp only;exact Ad (Ad (h false s'.heap (Za a s'.heap) #[o,ep,tk,ho,hex,hd]))
 |false=>
  have e:(lG (zs1 x false) tk).toList.findIdx? (λe=>(Eb prog w).is (x:Int) e.2)=none:=rfl;rw[e];dsimp only;rw[show layNew (aDu l (zs1 x false)) (lG (zs1 x false) tk) (x:Int) (.int x t)=_ from bC1 hx];dsimp only;refine Aa (Ad ?_);rw[Aa1 (show(aDu l [x]).plain=true from rfl)];refine Aa ?_;rw[hashByValue_scannable 8 (show(Dx x t).scannable=true from rfl)];refine Ad ?_;rw[Aa1 (show plainKind (Dx x t)=true from rfl)];refine Aa (Xq ho hd ?_ (by rw[Ez];show(1:Nat)<=_;decide));rw[show(!false && (aDu l [x]).tooFull)=false from rfl]
  ac_rfl
  refine Ad (Ad ?_);have hg:=Cv (Mp (lG [x] λ_=>t) (aDu l [x])) ho (by rw[Rn _ _ hd];rfl);rw[Rn _ _ hd]at hg;exact h true _ (Cp s'.heap a (Mp _ _)) #[_,_,λ_=>t,hg,hex,rfl]
def pL{R:Ou->Ai->Prop}{I:Addr}{G:Array Ld->Array Ld->Prop}{n:Nat}{St:Nat->Ai->Prop}
  (W:WalksS prog w A.in1 I fp wr G n P St) (S:Addr) (hSf:S∉fp) (l:Bool)
  (hval:∀i v,P i v->∃t,v=.int x t) (h3:x∈[1,2,3]):
  ∀(k i:Nat)(s:Ai),n-i=k->i<=n->St i s->aIr s S l x (decide (0<i))->
   (∀s',Moved (S::wr) G s s'->aIr s' S l x (decide (0<n))->R (.ok (.ret .none)) s')->
   Ii #v[b] A (.builtin "set.update.loop" #[[.ref S,.ref I],[]]) R s:=by
 have hSw:S∉wr:=λh=>hSf (W.sub _ h);have hsub:∀b∈wr,b∈S::wr:=λb hb=>Ah _ hb;intro k;induction k with
 |zero=>
  intro i s hk hi hst hS hR;have hin:i=n:=by lia
  subst hin;refine De Eu ?_;rw[Cf Cd _];show Bc _ A.in1 (Ia (.ref I)>>=_) _ _ s;refine Aa (W.done s _ _ hst λs' hm=>?_);show Bc _ A.in1 (ret Cg) _ _ s';exact Ad (hR s' (hm.mono hsub) (by
   obtain⟨o,ep,tk,ho,rest⟩:=hS;exact#[o,ep,tk,hm.heap S _ hSw ho,rest]))
 |succ k ih=>
  intro i s hk hi hst hS hR;have hlt:i<n:=by lia
  refine De Eu ?_;rw[Cf Cd _];show Bc _ A.in1 (Ia (.ref I)>>=_) _ _ s;refine Aa (W.item i s _ _ hlt hst λv s' hP hst' hm=>?_);obtain⟨t,rfl⟩:=hval i v hP;have hS':aIr {s' with toks:=s'.toks+1} S l x (decide (0<i)):=by
   obtain⟨o,ep,tk,ho,rest⟩:=hS;exact#[o,ep,tk,hm.heap S _ hSw ho,rest]
  show Bc _ A.in1 (holding [Dx x t] (setAdd S (.int x t))>>=_) _ _ s';refine Aa (Ci ?_);unfold setAdd;refine Ci ?_;refine Aa ((Eb prog w).pyHash (k:=(x:Int)) (Td _ _ _ _) ?_);rw[aPq h3];refine aDw (s:={s' with toks:=s'.toks+1}) h3 hS' λb h' hsb hS2=>?_;refine Ad #[Fc Cd _,ih (i+1) _ ∅ hlt (W.frame _ s' _ _ hst' (Iy _) λb hb o e=>?_) (by rw[Aa5 (Oj i)];exact hS2) λs'' hm'' hS''=>?_]
  ·rw[hsb.2 b (λh:b=S=>hSf (by rw[<-h];exact hb))];exact e
  ·refine hR s'' (Ox W.gtrans ((hm.mono hsub).then_heap (Iy _) λb o hb e=>?_) hm'') hS'';rw[hsb.2 b (λh:b=S=>hb (by rw[h];exact Ag))];exact e
def aB1(hh:A.handled=none)(hl:s.heap.IsList l items)(hi:∀(i:Nat)(v:Value),items[i]? =some v->∃t,v=.int x t)(h3:x∈[1,2,3])
  (h:∀(h':Heap)(tk:Nat),aIr {s with heap:=h',toks:=tk} #v[0] (!w.params.followText "set-order") x (decide (0<items.size))->(∀b o,b<#v[0]->s.heap.get? b=some o->h'.get? b=some o)->Q (.ref #v[0]) {s with heap:=h',toks:=tk}):
  Bc #v[b] A (call (.type "set") [.ref l]) Q E s:=
 wR (λs'=>aIr s' #v[0] (!w.params.followText "set-order") x (decide (0<items.size))) hh hl
  (λs1 W hSf hA hnt st kp hS hR=>pL W #v[0] hSf _ hi h3 (items.size-0) 0 s1 ∅ (Bt _) st #[_,0,λ_=>0,hS,#[rfl,rfl,rfl],rfl] λs' hm S=>hR s' hm S)
  λh' tk S kp=>h h' tk S kp
def aOb(h:Heap)(d:Addr)(es:Array Rv)(ep:Nat):Prop:=∃o,h.get? d=some o/\o.ExactDict/\o.data=.dict es ep
variable {d it:Addr}{es:Array Rv}{ep i:Nat}
def aOb.ty(x:aOb s.heap d es ep):s.TypeIs (.ref d) "dict":=let⟨o,ho,c,_⟩:=x;#[o,ho,c.1]
def aRm(lo:(d==Fz)=false)(x:aOb s.heap d es ep)
  (q:Q (.ref #v[0]) {s with heap:=s.heap.push {cls:=.type "dict_keyiterator",data:=.fields (List.toArray [.ref d,.int 0 0,.int es.size 0,.int ep 0])}}):Bc #v[b] A (Wt (.ref d)) Q E s:=by
 obtain⟨o,ho,c,dd⟩:=id x;refine Pi x.ty Xj (Co Xj x.ty F.entry_dict_iter ?_ (F.args_dict_iter_1 _));unfold Builtin.«dict.__iter__» Np;refine Aa (Aa (Nb x.ty (Ad ?_)));show Bc _ _ (Oo d>>=_) _ _ s;unfold Oo;rw[Aa0 (by rw[lo];exact Au)];refine Aa (Ad (Aa (Lq ho dd (Aa (Ri ho dd ?_)))));refine Aa (Ck (Ad #[_,rfl,"dict_keyiterator",_,#[_,Ar _ rfl,rfl],F.slot_dict_keyiterator_next.lookup,?_]));simpa[Ji]using q
def aRl(y:s.heap.IsKeyIter it d i es.size ep)(x:aOb s.heap d es ep)(hi:i<es.size)
  (q:∀g,g.IsKeyIter it d (i+1) es.size ep->Em it s.heap g->Q (some es[i].key) {s with heap:=g}):Bc #v[b] A (Ia (.ref it)) Q E s:=by
 obtain⟨o,ho,hc,hd⟩:=id y
 obtain⟨od,h1,_,h2⟩:=x
 have own:Lk "dict_keyiterator"=false:=by decide
 unfold Ia
 refine Aa (Mf (Do (name:=Fs "__next__") y.typeIs Hd (Co Hd y.typeIs Py ?_ (Pf _))))
 refine Aa (Ad (Aa (Aa ?_)))
 first|refine Aa (Ha y.typeIs (Ad ?_))|refine Aa (Ik y.typeIs (Ad ?_))
 refine Aa (Sf ho hd ?_)
 simp only[own,Dr,Ab1]
 show Bc _ _ (if(Ao d==Cg)=true then _ else _) _ _ s
 rw[Aa0 (show¬((Ao d==Cg)=true)from Au)]
 refine Aa (Ad (Aa (Lq h1 h2 ?_)))
 rw[Aa0 (by simp)]
 refine Aa (Ad (Aa (Ri h1 h2 ?_)))
 rw[Aa0 (by simp)]
 refine Ad ?_
 simp only[show¬((i:Int)<0)from by lia,Ab1,Hl,Du hi]
 refine Aa ?_
 first|refine Aa (Ha y.typeIs (Ad ?_))|refine Aa (Ik y.typeIs (Ad ?_))
 refine Aa (Ut y.typeIs ?_)
 show Bc _ _ (setField (.ref it) 1 (Ji ((i:Int)+1))>>=_) _ _ s
 refine Aa (Hz ho hd (by simp) ?_)
 have y':(s.heap.update it (Rt (·.setIfInBounds 1 (Ji ((i:Int)+1))))).IsKeyIter it d (i+1) es.size ep:=
  #[_,Cv _ ho (Jf (Fg hd _)),(Kz ..).trans hc,by rw[Fg hd];simp[Ji]]
 refine Aa (Ci (Aa (Ut (s:={s with heap:=s.heap.update it (Rt (·.setIfInBounds 1 (Ji ((i:Int)+1))))}) y'.typeIs ?_)))
 show Bc _ _ (pure es[i].key) _ _ _
 exact Ad (Ad #[_,rfl,Ad (q _ y' (Cp ..))])
def aUf(hh:A.handled=none)(y:s.heap.IsKeyIter it d es.size es.size ep)(x:aOb s.heap d es ep)(q:∀g,Pe it s.heap g->Q none {s with heap:=g}):Bc #v[b] A (Ia (.ref it)) Q E s:=by
 obtain⟨o,ho,hc,hd⟩:=id y
 obtain⟨od,h1,_,h2⟩:=x
 have own:Lk "dict_keyiterator"=false:=by decide
 unfold Ia
 refine Aa (Mf (Do (name:=Fs "__next__") y.typeIs Hd (Co Hd y.typeIs Py ?_ (Pf _))))
 refine Aa (Ad (Aa (Aa ?_)))
 first|refine Aa (Ha y.typeIs (Ad ?_))|refine Aa (Ik y.typeIs (Ad ?_))
 refine Aa (Sf ho hd ?_)
 simp only[own,Dr,Ab1]
 show Bc _ _ (if(Ao d==Cg)=true then _ else _) _ _ s
 rw[Aa0 (show¬((Ao d==Cg)=true)from Au)]
 refine Aa (Ad (Aa (Lq h1 h2 ?_)))
 rw[Aa0 (by simp)]
 refine Aa (Ad (Aa (Ri h1 h2 ?_)))
 rw[Aa0 (by simp)]
 refine Ad ?_
 simp only[show¬((es.size:Int)<0)from by lia,Ab1,Hl,Re (Am _)]
 refine Aa ?_
 first|refine Aa (Ha y.typeIs (Ad ?_))|refine Aa (Ik y.typeIs (Ad ?_))
 show Bc _ _ (setField (.ref it) 0 .none>>=_) _ _ s
 refine Aa (Hz ho hd (by simp) ?_)
 show Bc _ _ (Wu (.type "StopIteration") []>>=_) _ _ _
 simp only[Wu,newTuple]
 refine Aa (Aa (Ck ?_ (by size_fits)))
 refine Aa (m:=Jm _ _) (Nz (a:=Cg) (by first|rfl|(simp only[Jm];rfl)) ?_)
 refine Ck ?_ (by size_fits)
 simp only[raiseNew]
 refine Aa (Tu ?_)
 rw[show A.in1.handled=none from hh]
 refine Aa (Ad (Vy ?_))
 refine Aa (Gg (T:="StopIteration") (b:=true) #[_,Ar _ rfl,rfl] Sh ?_)
 exact Ad (q _ (((Cp ..).extBut.push _).push _))
variable {d it r:Addr}
def vQ{prog:Aj}{w:Bd}{A:Bp}{E:#v[c]}{s:Ai}{a:Addr}{xs:Array Value}
  (hx:s.heap.get? a=some o) (hc:o.cls=.type "list") (hdat:o.data=.seq xs k) (hd:o.dict=none) (hmiss:Sy (.type "list") name=pure none) (hname:(["__module__","__name__","__qualname__","__doc__","__annotations__"]:List Str).contains name=false) (hA:A.handled=none)
  (h:∀h' tk e,Heap.NewExcOf s.heap h' e "AttributeError"->Q none {s with heap:=h',toks:=tk}) (hsz:name.length+100<=sizeLine:=by size_fits):
  Bc #v[b] A (getAttr? (.ref a) name) Q E s:=by
 obtain⟨c,dct,dat,sl⟩:=o;simp only at hc hdat hd;subst hc hdat hd;obtain⟨hp,g,d,tk,os⟩:=s;have hT:∀tk',(#[hp,g,d,tk',os]:Ai).TypeIs (.ref a) "list":=λ_=>#[_,hx,rfl];have f1:=sub_AttributeError;have f3:=F.slot_list_getattribute.lookup;have f4:=F.slot_list_getattribute.bind (.ref a);have f5:=am_list_getattr_none;unfold getAttr? getAttrBy? getAttrBy
 repeat (any_goals (first|assumption|exact hT _|((with_reducible show Bc _ _ (call (Wg "list.__getattribute__") _ _) _ _ _);refine Te F.slot_list_getattribute (hT _) am_entry_list_getattribute (F.args_list_getattribute_2 _ _) (meets_getattribute_miss_list a xs k sl name _ hmiss hname hsz) #[hx,hA,λh' tk' e hx'=>?_])|wp_step))
 obtain⟨t',u',he⟩:=hx'.there;show Bc _ _ (Ww _ _ _ _ _ _ _) _ _ _;unfold Ww
 repeat (any_goals (first|assumption|wp_step))
 exact h _ _ _ hx'.of
namespace F
def jF:Wx table "dict.update.loop"=some Builtin.«dict.update.loop»:=Yn (by kernel_rfl)
def dH:plainId "dict.update.loop"=true:=by decide+kernel
def aCl:Sy (.type "list") "keys"=pure none:=by rw[Rk,Ng];kernel_rfl
end F
section
variable {prog:Aj}{w:Bd}{K:Type} [DecidableEq K]{knd:Hh prog w K}
def aH6(xs:List (K×Addr×Value))(k:K)(a:Addr)(v:Value):(Iw xs k a v).length<=xs.length+1:=by
 unfold Iw;split
 ·rw[Ab];lia
 ·rw[Ak];exact Am _
def aH7{xs:List (K×Addr×Value)}{k:K}{a:Addr}{v:Value}{x:K×Addr×Value}(h:x∈Iw xs k a v):(∃y∈xs,x.1=y.1/\x.2.1=y.2.1)∨(x.1=k/\x.2.1=a):=by
 unfold Iw at h;split at h
 ·obtain⟨y,hy,rfl⟩:=Ay.mp h;refine .inl #[y,hy,?_];unfold putAt;split<;>exact#[rfl,rfl]
 ·rcases Cb.mp h with h|h
  ·exact .inl #[x,h,rfl,rfl]
  ·simp only[Bf]at h;subst h;exact .inr #[rfl,rfl]
def qN(L:List (K×Addr×Value)):List (K×Addr×Value):=L.foldl (λxs x=>Iw xs x.1 x.2.1 x.2.2) []
def rW(L:List (K×Addr×Value))(x:K×Addr×Value):qN (L++[x])=Iw (qN L) x.1 x.2.1 x.2.2:=by unfold qN;rw[Nx];rfl
theorem aEv:∀(n:Nat)(L:List (K×Addr×Value)),L.length=n->(qN L).length<=n
 |0,L,h=>by rw[Fl.mp h];exact Am _
 |n+1,L,h=>by
  obtain⟨M,x,rfl⟩:∃M x,L=M++[x]:=#[L.dropLast,L.getLast (by intro z;rw[z]at h;cases h),(Jn _).symm];rw[Ak,Je]at h;rw[rW];have:=aEv n M ∅;have:=aH6 (qN M) x.1 x.2.1 x.2.2
  lia
theorem aH3{h:Heap}:∀(n:Nat)(L:List (K×Addr×Value)),L.length=n->(∀x∈L,knd.is h x.1 x.2.1)->∀x∈qN L,knd.is h x.1 x.2.1
 |0,L,e,_,x,hx=>by rw[Fl.mp e]at hx;exact nomatch hx
 |n+1,L,e,hL,x,hx=>by
  obtain⟨M,y,rfl⟩:∃M x,L=M++[x]:=#[L.dropLast,L.getLast (by intro z;rw[z]at e;cases e),(Jn _).symm];rw[Ak,Je]at e;rw[rW]at hx;rcases aH7 hx with ⟨z,hz,e1,e2⟩|⟨e1,e2⟩
  ·rw[e1,e2];exact aH3 n M ∅ (λu hu=>hL u (Bq _ hu)) z hz
  ·rw[e1,e2];exact hL y (Az _ (Bf.mpr rfl))
def Heap.DObj(h:Heap)(knd:Hh prog w K)(d:Addr)(xs:List (K×Addr×Value)):Prop:=∃o es ep,h.get? d=some o/\o.ExactDict/\o.data=.dict es ep/\es.toList=xs.map (Po knd)/\(xs.map (·.1)).Nodup
def Heap.TwoAt(h:Heap)(p:Addr)(x y:Value):Prop:=∃o n,h.get? p=some o/\o.cls=.type "tuple"/\o.data=.seq (List.toArray [x,y]) n
variable {A:Bp}{R:Ou->Ai->Prop}{I:Addr}{fp wr:List Addr}{G:Array Ld->Array Ld->Prop}{n:Nat}{P:Nat->Value->Prop}{St:Nat->Ai->Prop}
def oK(W:WalksS prog w A.in1 I fp wr G n P St)(d:Addr)(hSf:d∉fp)(hd₀:h₀.get? d=none)(hw₀:∀b∈wr,h₀.get? b=none)(hro:knd.room A.in1)
  (mono:∀h' x a,knd.is h₀ x a->(∀b o,h₀.get? b=some o->h'.get? b=some o)->knd.is h' x a)
  (L:List (K×Addr×Value)) (hL:L.length=n) (hn:n<=sizeLine) (hk:∀x∈L,knd.is h₀ x.1 x.2.1) (hv:∀i v,P i v->∃x p,L[i]? =some x/\v=.ref p/\h₀.TwoAt p (.ref x.2.1) x.2.2):
  ∀(k i:Nat)(s:Ai)(ti:Tok),n-i=k->i<=n->St i s->(∀b o,h₀.get? b=some o->s.heap.get? b=some o)->s.heap.DObj knd d (qN (L.take i))->
   (∀s',Moved (d::wr) G s s'->s'.heap.DObj knd d (qN L)->R (.ok (.ret .none)) s')->
   Ii #v[b] A (.builtin "dict.update.loop" #[[.ref d,.ref I,.int (i:Int) ti,.none],[]]) R s:=by
 have hdw:d∉wr:=λh=>hSf (W.sub _ h);have hsub:∀b∈wr,b∈d::wr:=λb hb=>Ah _ hb;intro k;induction k with
 |zero=>
  intro i s ti hki hi hst hold hS hR;have hin:i=n:=by lia
  subst hin;refine De F.jF ?_;rw[Cf F.dH _];show Bc _ A.in1 (Ia (.ref I)>>=_) _ _ s;refine Aa (W.done s _ _ hst λs' hm=>?_);show Bc _ A.in1 (Zj d []>>=λ_=>ret Cg) _ _ s';refine Aa (Ad (Ad (hR s' (hm.mono hsub) ?_)));obtain⟨o,es,ep,ho,rest⟩:=hS;rw[Gu (Ss hL)]at rest;exact#[o,es,ep,hm.heap d _ hdw ho,rest]
 |succ k ih=>
  intro i s ti hki hi hst hold hS hR;have hlt:i<n:=by lia
  refine De F.jF ?_;rw[Cf F.dH _];show Bc _ A.in1 (Ia (.ref I)>>=_) _ _ s;refine Aa (W.item i s _ _ hlt hst λv s' hP hst' hm=>?_);obtain⟨x,p,hx,rfl,ot,m,hot,hct,hdt⟩:=hv i v hP;have hold':∀b o,h₀.get? b=some o->s'.heap.get? b=some o:=λb o e=>hm.heap b o (λz=>by rw[hw₀ b z]at e;cases e) (hold b o e);have hot':=hold' _ _ hot;have hT:s'.TypeIs (.ref p) "tuple":=#[ot,hot',hct];have mx:x∈L:=Bl hx;show Bc _ A.in1 (holding [Ao p] _>>=_) _ _ s';refine Aa (Ci ?_);refine Aa (Nt ?_);unfold Zi;refine Aa (Jq hT ?_);rw[Aa1 ⋯];refine Aa (Cy hot' hdt (Ad ?_));show Bc _ A.in1 (holding [Ao x.2.1,x.2.2] (dictSet d (.ref x.2.1) x.2.2)) _ _ s';refine Ci ?_;have hi':(L.take i).length=i:=by rw[Dk];lia
  have hS':s'.heap.DictOfH knd d (qN (L.take i)):=by
   obtain⟨o,es,ep,ho,h1,h2,h3,h4⟩:=hS;refine#[o,es,ep,hm.heap d _ hdw ho,h1,h2,h3,λy hy=>mono _ _ _ ?_ hold',h4];exact aH3 i (L.take i) hi' (λu hu=>hk u (Sv hu)) y hy
  have ls:=aEv i (L.take i) hi';refine wpAny_dictSet_heap (hsz:=by lia) hro (mono _ _ _ (hk x mx) hold') hS' λh' hd' hsb=>?_;have et:qN (L.take (i+1))=Iw (qN (L.take i)) x.1 x.2.1 x.2.2:=by
   rw[Wk,hx];exact rW _ _
  have nd:∀b o,h₀.get? b=some o->b≠d:=λb o e z=>by rw[z,hd₀]at e;cases e
  refine Ad #[Fc F.dH _,ih (i+1) _ _ ∅ hlt (W.frame _ s' _ _ hst' (Da _ _) λb hb o e=>?_) (λb o e=>(hsb.2 b (nd b o e)).trans (hold' b o e)) ?_ λs'' hm'' hS''=>?_]
  ·rw[hsb.2 b (λh:b=d=>hSf (by rw[<-h];exact hb))];exact e
  ·rw[et];obtain⟨o,es,ep,h1,h2,h3,h4,_,h5⟩:=hd';exact#[o,es,ep,h1,h2,h3,h4,h5]
  ·refine hR s'' (Ox W.gtrans ((hm.mono hsub).then_heap (Da _ _) λb o hb e=>?_) hm'') hS'';rw[hsb.2 b (λh:b=d=>hb (by rw[h];exact Ag))];exact e
end
section
variable {prog:Aj}{w:Bd}{K:Type} [DecidableEq K]{knd:Hh prog w K}{A:Bp}{E:#v[c]}{s:Ai}
def aAo(hh:A.handled=none)(hl:s.heap.get? l=some {cls:=.type "list",data:=.seq items k})(hro:knd.room A.in1.in1)
  (mono:∀h' x a,knd.is s.heap x a->(∀b o,s.heap.get? b=some o->h'.get? b=some o)->knd.is h' x a)
  (L:List (K×Addr×Value)) (hL:L.length=items.size) (hn:items.size<=sizeLine) (hk:∀x∈L,knd.is s.heap x.1 x.2.1) (hv:∀(i:Nat)(v:Value),items[i]? =some v->∃x p,L[i]? =some x/\v=.ref p/\s.heap.TwoAt p (.ref x.2.1) x.2.2)
  (h:∀h' tk,h'.DObj knd #v[0] (qN L)->(∀b o,s.heap.get? b=some o->h'.get? b=some o)->Q (.ref #v[0]) {s with heap:=h',toks:=tk}):
  Bc #v[b] A (call (.type "dict") [.ref l]) Q E s:=by
 refine callType_codes (Q₁:=λobj s₁=>obj=.ref #v[0]/\s₁={s with heap:=s.heap.push #v[6]}) F.kt_called_dict (F.kt_typeCall_dict_1 _) F.entry_dict_init (kt_code_dict_new _ #[rfl,rfl]) ?_;rintro obj s₁ ⟨rfl,rfl⟩;have hnew:(s.heap.push #v[6]).DictOfH knd #v[0] []:=Zb s.heap;have hl':(s.heap.push #v[6]).get? l=some {cls:=.type "list",data:=.seq items k}:=Ae _ hl;have hT:Mv {s with heap:=s.heap.push #v[6]} (.ref l) "list":=#[_,hl',rfl];refine#[hnew.typeIs,F.args_dict_init_2 _ _,?_];unfold Builtin.«dict.__init__»;refine Aa ?_;unfold Zh;refine Aa (Nb hnew.typeIs ?_);show Bc _ _ (pure (#v[0],[Ao l])) _ _ _;refine Ad ?_;show Bc _ _ (Ny "dict.__init__" #v[0] (.ref l) [] .none) _ _ _;unfold Ny;refine Aa (Jq hT ?_);rw[Aa1 ⋯];refine Aa (vQ hl' rfl rfl rfl F.aCl ⋯ hh λh1 tk e hx=>?_);have k1:∀b o,(s.heap.push #v[6]).get? b=some o->h1.get? b=some o:=hx.keeps;simp only[Option.isNone_none,Ab2];refine Aa (Il ?_);have hl1:h1.IsList l items:=#[_,k1 _ _ hl',rfl,k,rfl];refine Aa (Jj hl1 ?_);have hld:l<#v[0]:=As hl;have hd1:h1.get? #v[0]=some #v[6]:=k1 _ _ (Ar _ rfl);have hds:#v[0]<h1.objs.size:=As hd1;have hls:l<h1.objs.size:=Hx hld hds;refine Aa (Ad (Ad #[Fc F.dH _,?_]));have hh3:A.in1.in1.handled=none:=by simp[hh]
 have hneI:l≠h1.objs.size:=Aw hls;have hSf:#v[0]∉[h1.objs.size,l]:=by
  simp only[Ax,Cj,or_false,not_or];exact#[Aw hds,Hw hld]
 refine oK (knd:=knd) (h₀:=s.heap) ((Qc hh3 _ l hneI items).toS) #v[0] hSf (Mq (Am _)) (λb hb=>?_) hro mono L hL hn hk hv (items.size-0) 0 _ _ rfl (Bt _)
  #[#[_,Ar _ rfl,rfl,rfl],(hl1.push _)] (λb o e=>Ae _ (k1 _ _ (Ae _ e))) ?_ λs' hm hS'=>?_
 ·rw[Bf.mp hb];exact Mq (Hy hds)
 ·exact#[_, (List.toArray []),0,Ae _ hd1,#[rfl,rfl,rfl],rfl,rfl,Qf]
 ·obtain⟨h',g',d',tk',os'⟩:=s';have eg:g'=s.gens:=hm.gens;have ed:d'=s.drawn:=hm.drawn;have eo:os'=s.os:=hm.os;subst eg;subst ed;subst eo;refine#[rfl,h h' tk' hS' λb o e=>?_];have hb:b<#v[0]:=As e;exact hm.heap b o (by simp only[Ax,Cj,or_false,not_or];exact#[Aw hb,Aw (Hx hb hds)]) (Ae _ (k1 _ _ (Ae _ e)))
end
end PySem
namespace L2
variable {pos:Pos}{scope:Scope}{i:Nat}{xs:List (List Int×Addr×Value)}{cl:List (Str×Addr)}{v:V}{p:Addr}{a:Addr}{k:Nat}{ns:List Str}{g:TG}{l:List Stmt}{ps:List Str}{rest:List Stmt}{h:Heap}{wi:TI}{vs:List V}{y:V}{fp:List Addr}{r:List V->Hp->VK->Prop}{osl:Array (#v[9])}{te:TE}{body:List Stmt}{La Lb:List Pos}{S:Addr->Prop}{C:Addr}{icap:#v[11]}{mg:Str->#v[9]}{tn:Nat->Heap->Prop}{Q:VK}{cs:List (Str×Addr)}{Tb:Hp->Prop}{q:Str}{od an:Option Addr}{P1 P2:Addr}{t:TE}{q1 q2:Str}{f:Int->Int->V}{tc:TT}{sp:Sp}{Cs:Addr->Prop}{R:Bool->Prop}{Ps:List Addr}{CX:CXT}
open PySem PySem.Spec PyProof.Rows
theorem gZ{env:Env}(hk:env.scope.kind=.function):∀{names:List (Str×Iz)}{x:Str},names.lookup x=some .free->env.kindOf x=some .cell->
  (names.map λ(n,k)=>if(k==Dh && env.scope.kind== .function && env.kindOf n==some .cell)then(n,Ds)else(n,k)).lookup x=some .cell
 | [],_,h,_=>by simp at h
 |(n,k)::r,x,h,hc=>by
  have ih:=@gZ env hk r x;show Gm x ((if(k==Dh && env.scope.kind== .function && env.kindOf n==some .cell)=true then(n,Ds)else(n,k))::_)=_;cases hx:x==n with
  |true=>
   have e:x=n:=Aa8 hx;subst e;simp only[Bk,hx]at h;cases h;rw[Aa1 (by rw[hk,hc];rfl)];simp[Bk]
  |false=>
   simp only[Bk,hx]at h;by_cases hcc:(k==Dh && env.scope.kind== .function && env.kindOf n==some .cell)=true
   ·rw[Aa1 hcc];simp only[Bk,hx];exact ih h hc
   ·rw[Aa0 hcc];simp only[Bk,hx];exact ih h hc
theorem nU{env:Env}:∀{names:List (Str×Iz)}{x:Str},((names.map λ(n,k)=>if(k==Dh && env.scope.kind== .function && env.kindOf n==some .cell)then(n,Ds)else(n,k)).lookup x=some .cell∨
  (names.map λ(n,k)=>if(k==Dh && env.scope.kind== .function && env.kindOf n==some .cell)then(n,Ds)else(n,k)).lookup x=some .free)->names.lookup x=some .free∨names.lookup x=some .cell
 | [],_,h=>by simp at h
 |(n,k)::r,x,h=>by
  have ih:=@nU env r x
  replace h:Gm x ((if(k==Dh && env.scope.kind== .function && env.kindOf n==some .cell)=true then(n,Ds)else(n,k))::_)=_∨Gm x ((if(k==Dh && env.scope.kind== .function && env.kindOf n==some .cell)=true then(n,Ds)else(n,k))::_)=_:=h
  cases hx:x==n with
  |true=>
   simp only[Bk,hx];by_cases hcc:(k==Dh && env.scope.kind== .function && env.kindOf n==some .cell)=true
   ·have:k=.free:=by
     have:=(Hs _ _▸(Hs _ _▸hcc).1).1;exact Aa8 this
    exact .inl (by rw[this])
   ·rw[Aa0 hcc]at h;simp only[Bk,hx]at h;rcases h with h|h
    ·exact .inr h
    ·exact .inl h
  |false=>
   simp only[Bk,hx];by_cases hcc:(k==Dh && env.scope.kind== .function && env.kindOf n==some .cell)=true
   ·rw[Aa1 hcc]at h;simp only[Bk,hx]at h;exact ih h
   ·rw[Aa0 hcc]at h;simp only[Bk,hx]at h;exact ih h
def iH{a b c:Nat}(h1:a<b)(h2:b<=c):a≠c:=Aw (Ba h1 h2)
abbrev cW(X:Cx)(Nc:List Str)(scope:Scope)(cl:List (Str×Addr))(C:Addr)(s2:Ai)(H2:Hp)(fp:List Addr):Cx:=
 {prog:=X.prog,w:=X.w,K:=X.K,mg:=X.mg,base:=X.base,A:=X.A,N:=Nc,s₀:=s2,H₀:=H2,env:=Wy scope cl C X.env,outer:=X.stack,stack:=X.stack,ex:=fp,fn:=λ_=>false,calm:=X.calm,pn:=[],xe:=λ_ _=>False}
abbrev fD(own:List Str)(cap:#v[11]):List Str:=own++cap.map (·.1)
def oN(no:Nat)(cap:#v[11])(σ:St):St:=Gs no none++cap.map λp=>(σ[p.2]?).join
structure dY(X:Cx)(scope:Scope)(cap:#v[11])(cl:List (Str×Addr)):Prop where
 clos:Lu scope X.env=pure cl
 kind:scope.kind=.function
 nocell:∀y∈scope.names,y.2≠.cell
 names:∀y∈scope.names,y.2=.local->scope.names.lookup y.1=some .local
 sub:∀x c,cl.lookup x=some c->X.env.cells.lookup x=some c
 has:∀x,scope.names.lookup x=some .free->∃c,cl.lookup x=some c
 cap:∀p∈cap,X.N[p.2]? =some p.1/\scope.names.lookup p.1=some .free/\X.env.scope.names.lookup p.1=some .cell
def aZh(J:It)(D:Addr)(g:TG)(te:TE)(Q:VK)(σ:St)(H:Hp):Prop:=∃W:Nat->Nat->St->Hp->Prop,
 (∃m,W 0 m σ H)/\∀i m σc H2,W i m σc H2->
  (J.stop i H2/\Q (.ref D) H2)∨(J.go i H2/\∀x H3,J.yld i H2 x H3->g x σc H3 λσ4 H4=>te σ4 H4 λy H5=>∃ys,H5 D=some (.lst ys)/\ys.length<sizeLine/\∃m',m'<m/\W (i+1) m' σ4 (upd H5 D (.lst (ys++[y]))))
def aCv(no:Nat)(cap:#v[11])(wi:TI)(g:TG)(te:TE):TE:=λσ H Q=>wi σ H λJ H1=>∀D,H1 D=none->aZh J D g te Q (oN no cap σ) (upd H1 D (.lst []))
variable {X:Cx}{aa:#v[4]}{σ:St}{s2:Ai}{H2:Hp}
def aWn(J:It)(D:Addr)(g:TG)(tc:TT)(te:TE)(Q:VK)(σ:St)(H:Hp):Prop:=∃W:Nat->Nat->St->Hp->Prop,
 (∃m,W 0 m σ H)/\∀i m σc H2,W i m σc H2->
  (J.stop i H2/\Q (.ref D) H2)∨(J.go i H2/\∀x H3,J.yld i H2 x H3->g x σc H3 λσ4 H4=>tc σ4 H4 λok H4'=>if ok=true then te σ4 H4' λy H5=>∃ys,H5 D=some (.lst ys)/\ys.length<sizeLine/\∃m',m'<m/\W (i+1) m' σ4 (upd H5 D (.lst (ys++[y])))else∃m',m'<m/\W (i+1) m' σ4 H4')
def aRw(no:Nat)(cap:#v[11])(wi:TI)(g:TG)(tc:TT)(te:TE):TE:=λσ H Q=>wi σ H λJ H1=>∀D,H1 D=none->aWn J D g tc te Q (oN no cap σ) (upd H1 D (.lst []))
def aMb{no:Nat}{cap:#v[11]}{own:List Str}(hno:own.length=no){x:Str}(h1:(fD own cap)[i]? =some x)(h2:(oN no cap σ)[i]? =some (some v)):
  ∃p∈cap,p.1=x/\σ[p.2]? =some (some v):=by
 subst hno;unfold oN at h2;by_cases hi:i<own.length
 ·rw[Es (by simpa using hi),Cu]at h2;rw[Aa1 hi]at h2;cases h2
 ·rw[Ga (by simpa using hi)]at h2;unfold fD at h1;rw[Ga (by simpa using hi)]at h1;rw[Dz,Ap]at h2;rw[Ap]at h1;cases e:cap[i-own.length]? with
  |none=>rw[e]at h1;cases h1
  |some p=>
   rw[e]at h1 h2;refine#[p,Bl e,Bj h1,?_];have q:(σ[p.2]?).join=some v:=Bj h2;cases e2:σ[p.2]? with
   |none=>rw[e2]at q;cases q
   |some o=>rw[e2]at q;exact Aa9 some q
def aBt(scope:Scope):Prop:=∀y∈scope.names,y.2≠.cell
theorem sJ:∀{names:List (Str×Iz)}{n:Nat},(∀y∈names,y.2≠.cell)->En n names []=[]
 | [],_,_=>rfl
 |(y,k)::r,n,h=>by
  unfold En;rw[Aa0 (λz=>h _ Ag (Aa8 z))];exact sJ λz hz=>h z (Ah _ hz)
def aB5(h:aBt scope):En n scope.names []=[]:=sJ h
structure qT(X:Cx)(scope:Scope)(cap:#v[11])(cl:List (Str×Addr)):Prop where
 clos:Lu scope X.env=pure cl
 kind:scope.kind=.function
 names:∀y∈scope.names,y.2=.local->scope.names.lookup y.1=some .local
 sub:∀x c,cl.lookup x=some c->X.env.cells.lookup x=some c
 has:∀x,scope.names.lookup x=some .free->∃c,cl.lookup x=some c
 capn:∀p∈cap,¬(p.1,Ds)∈scope.names
 cap:∀p∈cap,X.N[p.2]? =some p.1/\scope.names.lookup p.1=some .free/\X.env.scope.names.lookup p.1=some .cell
def fU(X:Cx)(scope:Scope)(cs:List (Str×Addr)):Prop:=∀x,(scope.names.lookup x=some .cell∨(scope.names.lookup x=some .free/\X.env.scope.names.lookup x=some .cell))->∃c,cs.lookup x=some c
abbrev cT(X:Cx)(Nc:List Str)(scope:Scope)(cs:List (Str×Addr))(C:Addr)(s2:Ai)(H2:Hp)(fp:List Addr):Cx:=
 {prog:=X.prog,w:=X.w,K:=X.K,mg:=X.mg,base:=X.base,A:=X.A,N:=Nc,s₀:=s2,H₀:=H2,env:={Wy scope [] C X.env with cells:=cs},outer:=X.stack,stack:=X.stack,ex:=fp,fn:=λx=>decide (scope.names.lookup x=some .cell),calm:=X.calm,pn:=[],xe:=λ_ _=>False}
theorem kY:∀(names:List (Str×Iz))(n:Nat)(ag:List (Str×Addr)),En n names ag=En n names []++ag
 | [],_,_=>rfl
 |(y,k)::r,n,ag=>by
  unfold En;split
  ·rw[kY r (n+1) ((y,n)::ag),kY r (n+1) [(y,n)],Bm];rfl
  ·exact kY r n ag
theorem nO:∀(names:List (Str×Iz))(n:Nat)(ag:List (Str×Addr)){x:Str}{c:Addr},(x,c)∈En n names ag->(x,Ds)∈names∨(x,c)∈ag
 | [],_,_,_,_,h=> .inr h
 |(y,k)::r,n,ag,x,c,h=>by
  unfold En at h;split at h
  ·rename_i hk;rcases nO r _ _ h with z|z
   ·exact .inl (Ah _ z)
   ·rcases Ax.mp z with e|z
    ·cases e;rw[show k=.cell from Aa8 hk];exact .inl Ag
    ·exact .inr z
  ·rcases nO r _ _ h with z|z
   ·exact .inl (Ah _ z)
   ·exact .inr z
def aDg(h:(x,c)∈En n names []):(x,Ds)∈names:=(nO names n [] h).elim id λz=>nomatch z
variable {α:Type}{A B:List (Str×α)}{x:Str}{c:α}
def pO:(A++B).lookup x=(A.lookup x).or (B.lookup x):=List.lookup_append ..
def aJk(h:(A++B).lookup x=some c):A.lookup x=some c∨(A.lookup x=none/\B.lookup x=some c):=by
 rw[pO]at h;cases q:A.lookup x with
 |none=>rw[q]at h;exact .inr #[rfl,h]
 |some d=>rw[q]at h;exact .inl h
def mO(h:A.lookup x=some c):(A++B).lookup x=some c:=by rw[pO,h];rfl
def xF(h:A.lookup x=none)(h':B.lookup x=some c):(A++B).lookup x=some c:=by rw[pO,h];exact h'
def xG(h:B.lookup x=some c):∃d,(A++B).lookup x=some d:=by
 cases q:A.lookup x with
 |none=>exact#[c,xF q h]
 |some d=>exact#[d,mO q]
def aJr{A:Bp}{Q:Env->Ai->Prop}(_hk:scope.kind=.function)
  (h:Q {scope:=scope,locals:=#v[0],globals:=globals,cells:=En (#v[0]+1) scope.names cl,qual:=qual,func:=none,code:=env0.code,frame:=env0.frame,builtins:=env0.builtins}
   {s with heap:=Nd (s.heap.push #v[6]) scope.names}):
  Bc M A (Nu scope globals cl [] qual none .none (some env0)) Q E s:=by
 simp only[Nu,Sr,Ab2];refine Aa (wpAny_alloc (Aa (wpAny_layCells _ (λnm kd cs=>by cases hq:kd==Ds<;>simp[hq]) _ _ _ _ ?_)));have e:({s with heap:=s.heap.push #v[6]}:Ai).heap.objs.size=#v[0]+1:=Cw ..;rw[e];exact Aa (Ad (Ad h))
section
variable {prog:Aj}{w:Bd}{A:Bp}{R:Ou->Ai->Prop}{s:Ai}
def PTs(X:Cx)(cis:List Bu)(t:TT):Prop:=
 ∀(aa:#v[4])(s:Ai)(σ:St)(H:Hp)(Q:Bool->Hp->Prop),#v[3]->t σ H Q->Bc #v[a] X.A (forIn cis true λc r=>if r=true then do let ok<-Wv c X.env (eval c X.env);pure (Hr ok)else pure (Hr r)) (TP X aa σ Q) X.xe s
def bCk{X:Cx}{c:Bu}{t:TT}(h:PT X c t):PTs X [c] t:=λaa s σ H Q I q=>wpAny_tests_one (h aa s σ H Q I q)
def aUp:TT:=λ_ H Q=>Q true H
def aFz{X:Cx}:PTs X [] aUp:=λaa s σ H Q I q=>wpAny_tests_nil #[H,I,q]
def aDi(I:Nat->Ai->Prop)
  (turn:∀n s,I n s->Bc #v[b] A (Ia it) (λr s₁=>match r with
   |none=>R (.ok .next) s₁
   |some v=>Bc #v[b] A (Nf target it v) (λ_ s₁'=>Bc #v[b] A (assign target env v) (λ_ s₂=>Bc #v[b] A (forIn cis true λc r=>if r=true then do let ok<-Wv c env (eval c env);pure (Hr ok)else pure (Hr r)) (λok s₂'=>if ok=true then Bc #v[b] A (eval elt env) (λx s₃=>
     Bc #v[b] A (call (.builtin "list.append") [ag,x]) (λ_ s₄=>∃m,m<n/\I m s₄) (λ_ _=>False) s₃) (λ_ _=>False) s₂' else∃m,m<n/\I m s₂') (λ_ _=>False) s₂) (λ_ _=>False) s₁') (λ_ _=>False) s₁) (λ_ _=>False) s)
  (n:Nat) (h:I n s):
  Ii #v[b] A (.compLoop (.ListComp elt [#[target,iter,cis,0]] scope pos) 0 it ag env) R s:=by
 refine codeAny_loop rfl I (λn s hI=>?_) n h;show Bc _ _ ((compTurn (.ListComp elt [#[target,iter,cis,0]] scope pos) 0 it ag env).onRaise (λx=>do noteFrame x env;theTreesLotGoes x)) _ _ s;refine wpAny_noted ?_;rw[compTurn_list];refine Aa (Md (Aa (Ep (turn n s hI) (λr s₁ h₁=>?_) λ_ _ h'=>h'.elim)));cases r with
 |none=>exact Ad h₁
 |some v=>
  refine Aa (Ep h₁ (λ_ s₁' h₁'=>?_) λ_ _ h'=>h'.elim);refine Aa (Ep h₁' (λ_ s₂ h₂=>?_) λ_ _ h'=>h'.elim);refine Aa (Ep h₂ (λokb s₃ h₃=>?_) λ_ _ h'=>h'.elim);cases okb with
  |false=>exact Ad #[rfl,h₃]
  |true=>exact Aa (Aa (Ep h₃ (λx s₄ h₄=>Aa (Ep h₄ (λ_ s₅ h₅=>Ad (Ad #[rfl,h₅])) λ_ _ h'=>h'.elim)) λ_ _ h'=>h'.elim))
end
def zY{elt iter tg:Bu}{cis:List Bu}{own:List Str}{cap:#v[11]}{J:It}{it:Addr}
  (S:qT X scope cap cl) (hc:X.calm=true) (I:Inv X aa σ H2 s2) (T:Turn X.prog X.w X.K tg J fp it tn) (st:tn 0 s2.heap) (hf:∀b∈fp,aE5 X aa H2 b)
  (hg:∀cs,fU X scope cs->(aBt scope->cs=cl)->∀C s2 H2 fp,PG (cT X (fD own cap) scope cs C s2 H2 fp) tg g) (htc:∀cs,fU X scope cs->(aBt scope->cs=cl)->∀C s2 H2 fp,PTs (cT X (fD own cap) scope cs C s2 H2 fp) cis tc) (he:∀cs,fU X scope cs->(aBt scope->cs=cl)->∀C s2 H2 fp,PE (cT X (fD own cap) scope cs C s2 H2 fp) elt te)
  (W:Nat->Nat->St->Hp->Prop) (w0:∃m,W 0 m (oN own.length cap σ) (upd H2 s2.heap.objs.size (.lst [])))
  (turn:∀i m σc H3,W i m σc H3->(J.stop i H3/\Q (.ref s2.heap.objs.size) H3)∨(J.go i H3/\∀x H4,J.yld i H3 x H4->g x σc H4 λσ5 H5=>tc σ5 H5 λok H5'=>if ok=true then te σ5 H5' λy H6=>∃ys,H6 s2.heap.objs.size=some (.lst ys)/\ys.length<sizeLine/\∃m',m'<m/\W (i+1) m' σ5 (upd H6 s2.heap.objs.size (.lst (ys++[y])))else∃m',m'<m/\W (i+1) m' σ5 H5'))
  {RR:Value->Addr->Ou->Ai->Prop}
  (hRR:∀C H' s' m,s2.heap.objs.size<=C->s'.heap.Ns C m->H' C=none->Inv X aa σ H' s'->(∀h',Em C s'.heap h'->Inv X aa σ H' {s' with heap:=h'})->Q (.ref s2.heap.objs.size) H'->RR (.ref s2.heap.objs.size) C (.ok .next) s')
  {E:#v[c]}:
  Bc #v[a] X.A (Wc []) (λag s₃=>Bc #v[a] X.A (Nu scope X.env.globals cl [] X.env.qual none .none (some X.env)) (λcenv s₄=>
   Ii #v[a] X.A (.compStart #v[10] 0 (.ref it) ag {cenv with scope:=relabel scope X.env}) (RR ag cenv.locals) s₄) E s₃) E s2:=by
 refine Ck (aJr S.kind ?_);dsimp only;generalize hH2:s2.heap.push {cls:=.type "list",dict:=none,data:=.seq ([]:List Value).toArray}=G2;have hC:G2.objs.size=s2.heap.objs.size+1:=by rw[<-hH2,Cw]
 have hDC:s2.heap.objs.size≠G2.objs.size:=by rw[hC];exact Aw (Ge _)
 have hCle:s2.heap.objs.size<=G2.objs.size:=by rw[hC];exact Iy _
 have below:∀b,b<s2.heap.objs.size->b≠G2.objs.size/\b≠s2.heap.objs.size:=λb hb=>#[by rw[hC];exact Aw (Hk hb),Aw hb];have hG1:(G2.push #v[6]).objs.size=G2.objs.size+1:=Cw ..;have okA:=cellsFrom_ok scope.names (G2.push #v[6]) (G2.objs.size+1) [] #[λ_ _ z=>(nomatch z),Ly] (by rw[hG1];exact Am _);rw[hG1]at okA;have app:En (G2.objs.size+1) scope.names cl=En (G2.objs.size+1) scope.names []++cl:=kY _ _ _;have kept:∀b o,G2.get? b=some o->(Nd (G2.push #v[6]) scope.names).get? b=some o:=λb o e=>Zl _ _ b o (Ae _ e);have hns₁:(Nd (G2.push #v[6]) scope.names).Ns G2.objs.size (λ_=>none):=(Heap.Ns.new G2 (.type "dict")).keeps (Zl _ _);have old:∀b o,s2.heap.get? b=some o->(Nd (G2.push #v[6]) scope.names).get? b=some o:=λb o e=>kept b o (hH2▸Ae _ e);have hacc:(Nd (G2.push #v[6]) scope.names).get? s2.heap.objs.size=some {cls:=.type "list",dict:=none,data:=.seq ([]:List Value).toArray}:=kept _ _ (hH2▸Ar _ rfl);have newc:∀x c,(En (G2.objs.size+1) scope.names []).lookup x=some c->(Nd (G2.push #v[6]) scope.names).IsCell c none/\G2.objs.size+1<=c:=λx c e=>okA.empty x c (By e);have newinj:∀x y c,(En (G2.objs.size+1) scope.names []).lookup x=some c->(En (G2.objs.size+1) scope.names []).lookup y=some c->x=y:=λx y c e1 e2=>name_of_addr okA.apart (By e1) (By e2);have ownc:∀x,scope.names.lookup x=some .cell->∃c,(En (G2.objs.size+1) scope.names []).lookup x=some c:=λx hx=>Pu.mp (Kx scope.names _ [] (.inl hx));generalize hh₁:Nd (G2.push #v[6]) scope.names=h₁ at hns₁ old hacc newc⊢;generalize hcA:En (G2.objs.size+1) scope.names []=cA at app newc newinj ownc;generalize hcs:En (G2.objs.size+1) scope.names cl=cs at app⊢;subst app;have both:∀x c,(cA++cl).lookup x=some c->(cA.lookup x=some c∨(cA.lookup x=none/\cl.lookup x=some c)):=λx c e=>aJk e;have hfps:∀b∈fp,b<s2.heap.objs.size:=λb hb=>by
  obtain⟨o,e,_⟩:=T.obj _ _ st b hb;exact As e
 have hfree:∀b,s2.heap.objs.size<=b->H2 b=none:=λb hb=>I.hok.fresh hb;have old2:∀x c,cl.lookup x=some c->c<s2.heap.objs.size:=λx c e=>by
  obtain⟨v,o,ho,_⟩:=I.cell x c (S.sub x c e);exact As ho
 have clash:∀c,G2.objs.size+1<=c->c<s2.heap.objs.size->False:=λc h1 h2=>Gr _ (Ba h2 (Bs hCle (Oe h1)));have ceq:aBt scope->cA++cl=cl:=λn=>by rw[<-hcA,aB5 n];rfl
 have cfor:fU X scope (cA++cl):=λx hx=>by
  rcases hx with h|⟨h,_⟩
  ·obtain⟨c,e⟩:=ownc x h;exact#[c,mO e]
  ·obtain⟨c,e⟩:=S.has x h;exact xG e
 generalize hX:cT X (fD own cap) scope (cA++cl) G2.objs.size s2 H2 fp=X';have hOk:X'.Ok:=by
  subst hX;refine⟨I.ok.mod,S.kind,I.ok.glob,I.ok.blt,hCle,λx y c e1 e2=>?_,λx hx=>?_,λx c z e=>?_,I.ok.hd,I.ok.frames,.inl rfl,
   λb hb=>#[(below b (hfps b hb)).1,λx c e=>?_],I.bs,Bs I.ok.bsz I.sz,λb o e hb=>?_,λb hb z=>?_,I.stack,I.stkFree⟩
  ·rcases both x c e1 with a1|⟨_,a1⟩
   ·rcases both y c e2 with a2|⟨_,a2⟩
    ·exact newinj x y c a1 a2
    ·exact(clash c (newc x c a1).2 (old2 y c a2)).elim
   ·rcases both y c e2 with a2|⟨_,a2⟩
    ·exact(clash c (newc y c a2).2 (old2 x c a1)).elim
    ·exact I.ok.inj x y c (S.sub x c a1) (S.sub y c a2)
  ·rcases nU (env:=X.env) (names:=scope.names) (x:=x) hx with h|h
   ·obtain⟨c,e⟩:=S.has x h;exact xG e
   ·obtain⟨c,e⟩:=ownc x h;exact#[c,mO e]
  ·obtain⟨c',e'⟩:=ownc x (Aa3 z);have q:(cA++cl).lookup x=some c':=mO e';have q2:some c'=some c:=q.symm.trans e;cases q2;exact Bs hCle (Bs (Iy _) (newc x c e').2)
  ·rcases both x c e with a1|⟨_,a1⟩
   ·exactλz=>clash c (newc x c a1).2 (z.symm▸hfps b hb)
   ·exact(hf b hb).2.2.2.2.1 x c (S.sub x c a1)
  ·rcases (hf b hb).2.2.2.1 with z|z
   ·exact I.ok.noex b o e z
   ·exact Aa2 (Ba (As e) (Bs I.ok.bsz z)) (Gr _)
  ·rcases Ax.mp (I.stkSub b z)with z|z
   ·exact(hf b hb).2.1 z
   ·exact(hf b hb).2.2.1 z
 have hI0:Inv X' [] (oN own.length cap σ) (upd H2 s2.heap.objs.size (.lst [])) {s2 with heap:=h₁}:=by
  subst hX;refine#[hOk,rfl,I.bare,Un.laid old (Am _) (hfree _ (Am _)),#[_,hns₁,λi x v e1 e2 e3=>?_],λx c e=>?_,?_,λx c e=>?_,λp hp=>Aa2 (show p∈([]:#v[4])from hp) (by simp),?_,?_]
  ·obtain⟨p,hp,rfl,hσ⟩:=aMb rfl e1 e2;obtain⟨c1,c2,c3⟩:=S.cap p hp;obtain⟨m,hn,hl⟩:=I.loc;obtain⟨u,r,l⟩:=hl p.2 p.1 v c1 hσ (.inr (.inl c3));refine#[u,r,.inr #[.inl (gZ I.ok.kind c2 c3),?_]];obtain⟨c,hcl⟩:=S.has _ c2;have nA:cA.lookup p.1=none:=by
    cases q:cA.lookup p.1 with
    |none=>rfl
    |some c0=>
     have z:=By q;rw[<-hcA]at z;exact Aa2 (aDg z) (S.capn p hp)
   refine#[c,xF nA hcl,?_];rcases l with ⟨k,_⟩|⟨_,c',e,z⟩
   ·have k':X.env.scope.names.lookup p.1=some .local:=k;rw[c3]at k';cases k'
   ·have:=S.sub _ _ hcl;rw[e]at this;cases this;obtain⟨o,ho,hd⟩:=z;exact#[o,old _ _ ho,hd]
  ·rcases both x c e with a1|⟨_,a1⟩
   ·exact#[none,(newc x c a1).1]
   ·obtain⟨v,o,ho,hd⟩:=I.cell x c (S.sub x c a1);exact#[v,o,old _ _ ho,hd]
  ·show upd H2 s2.heap.objs.size (.lst []) G2.objs.size=none;rw[aJ (Cq hDC)];exact hfree _ hCle
  ·rcases both x c e with a1|⟨_,a1⟩
   ·have h1:=(newc x c a1).2;have h2:s2.heap.objs.size<=c:=Bs hCle (Oe h1);have h3:c≠s2.heap.objs.size:=λz=>by
     rw[z]at h1;exact hDC (Nat.le_antisymm hCle (Oe h1))
    rw[aJ h3];exact hfree c h2
   ·have e':=S.sub x c a1;obtain⟨v,o,ho,hd⟩:=I.cell x c e';rw[aJ (below c (As ho)).2];exact I.freeC x c e'
  ·exact I.hok.laid old (Am _) #[Bt _,[],_,.nil,hacc]
  ·show(oN own.length cap σ).length=(fD own cap).length;unfold oN fD;simp
 have hP:X'.prog=X.prog:=by subst hX;rfl
 have hw:X'.w=X.w:=by subst hX;rfl
 have hK:X'.K=X.K:=by subst hX;rfl
 have hA:X'.A=X.A:=by subst hX;rfl
 have hcalm:X'.calm=true:=by subst hX;exact hc
 have hxe:X'.xe=λ_ _=>False:=by subst hX;rfl
 have henv:X'.env={Wy scope cl G2.objs.size X.env with cells:=cA++cl}:=by subst hX;rfl
 have hbase:∀{σ' H' s'},Inv X' [] σ' H' s'->Un (frs X.stack) fp H2 H' s2.heap s'.heap/\s'.os=s2.os:=λ{σ' H' s'} J=>by subst hX;exact#[J.base,J.os]
 have hg':PG X' tg g:=by subst hX;exact hg _ cfor ceq _ _ _ _
 have he':PE X' elt te:=by subst hX;exact he _ cfor ceq _ _ _ _
 have htc':PTs X' cis tc:=by subst hX;exact htc _ cfor ceq _ _ _ _
 have stat:∀{H':Hp},(∀b∈fp,H' b=none)->∀b∈fp,aE5 X' [] H' b:=λ{H'} hn b hb=>by
  subst hX;refine#[hn b hb,(below b (hfps b hb)).1,λz=>?_,.inl hb,λx c e=>?_,λp hp=>Aa2 (show p∈([]:#v[4])from hp) (by simp)];rcases Ax.mp (I.stkSub b z)with z|z
  ·exact(hf b hb).2.1 z
  ·exact(hf b hb).2.2.1 z
  rcases both x c e with a1|⟨_,a1⟩
  ·exactλz=>clash c (newc x c a1).2 (z.symm▸hfps b hb)
  ·exact(hf b hb).2.2.2.2.1 x c (S.sub x c a1)
 have back:∀{σ' H' s'},Inv X' [] σ' H' s'->Q (.ref s2.heap.objs.size) H'->RR (.ref s2.heap.objs.size) G2.objs.size (.ok .next) s':=λ{σ' H' s'} J q=>by
  obtain⟨u,ho⟩:=hbase J;have hcf:∀b∈fp,(b∈X.ex∨X.s₀.heap.objs.size<=b)/\b≠X.env.locals/\(∀x c,X.env.cells.lookup x=some c->c≠b)/\∀p∈X.pn++aa,p.1≠b:=λb hb=>by
   obtain⟨f0,f1,f2,f3,f4,f5⟩:=hf b hb;exact#[f3,f1,f4,f5]
  have hCn:H' G2.objs.size=none:=by have:=J.free;rw[henv]at this;exact this
  have hok':HOk X.prog X.w H' s'.heap:=by have:=J.hok;rw[hP,hw]at this;exact this
  obtain⟨m,hm,_⟩:=J.loc;rw[henv]at hm;refine hRR _ H' s' m hCle hm hCn (I.call' ho u hok' J.bare hcf) (λh' hs=>?_) q;have kn:∀b o,s2.heap.get? b=some o->h'.get? b=s'.heap.get? b:=λb o e=>hs.2 b (below b (As e)).1;refine I.call' (s':={s' with heap:=h'}) ho #[λb o e n hb hx=>(kn b o e).trans (u.keep b o e n hb hx),λb o e n hb hx=>?_,u.free,λb o e hx=>?_,u.tups,u.frzs,u.tbls] (λb ob e=>?_) J.bare hcf
  ·obtain⟨sl,e1⟩:=u.slot b o e n hb hx;exact#[sl,(kn b o e).trans e1]
  ·obtain⟨o',e1⟩:=u.there b o e hx;exact#[o',(kn b o e).trans e1]
  ·refine(hok' b ob e).stay (λc w' hc q=>(hs.2 c ?_).trans q) (λ_ q=>q) λ_ _ q=>q;rintro rfl;rcases hc with rfl|hc
   ·rw[hCn]at e;cases e
   ·rw[hCn]at hc;cases hc
 have loop:∀s₃:Ai,s₃={s2 with heap:=h₁}->
   Ii #v[a] X.A (.compLoop #v[10] 0 (.ref it) (.ref s2.heap.objs.size) {Wy scope cl G2.objs.size X.env with cells:=cA++cl})
    (RR (.ref s2.heap.objs.size) G2.objs.size) s₃:=by
  rintro s₃ rfl;obtain⟨m0,w0⟩:=w0;refine aDi (λn s'=>∃i σ' H',Inv X' [] σ' H' s'/\tn i s'.heap/\(∀b∈fp,H' b=none)/\W i n σ' H') ?_ m0
   #[0,_,_,hI0,T.keep _ _ _ st λb hb o e=>old b o e,λb hb=>?_,w0]
  ·rintro n s3 ⟨i,σ3,H3,I3,st3,fr3,w3⟩;rcases turn i n σ3 H3 w3 with ⟨stop,qn⟩|⟨go,step⟩
   ·have d:=T.done X' hP hw hK hcalm i [] s3 σ3 H3 (λ_ _=>False) I3 (stat fr3) st3 stop;rw[hA]at d;refine thn d λr s4 ⟨hr,I4⟩=>?_;subst hr;exact back I4 qn
   ·have d:=T.item X' hP hw hK hcalm i [] s3 σ3 H3 (λ_ _=>False) I3 (stat fr3) st3 go;rw[hA]at d;refine thn d λr s4 ⟨u,hr,h4⟩=>?_;subst hr;refine thn h4 λ_ s5 ⟨x,H5,I5,r5,y5,st5,fr5⟩=>?_;have I5':=I5.pinned (stat fr5) (T.obj _ _ st5);have d2:=hg' _ s5 σ3 H5 x u _ I5' r5 (step x H5 y5);rw[hP,hw,hA,hxe,henv]at d2;refine thn d2 λ_ s6 ⟨σ6,H6,I6,q6⟩=>?_;have dt:=htc' _ s6 σ6 H6 _ I6 q6;rw[hP,hw,hA,hxe,henv]at dt;refine thn dt λokb s6' ⟨H6',I6',q6'⟩=>?_;cases okb with
    |false=>
     obtain⟨m',hm,w7⟩:=q6';refine#[m',hm,i+1,σ6,H6',I6'.unpinned,T.keep _ _ _ st5 λb hb o e=>(I6'.pin (b,o) (Az _ (Az _ (kJ hb e)))).1,λb hb=>?_,w7];obtain⟨o,e,d⟩:=T.obj _ _ st5 b hb;exact(I6'.pin (b,o) (Az _ (Az _ (kJ hb e)))).2.1
    |true=>
    have d3:=he' _ s6' σ6 H6' _ I6' q6';rw[hP,hw,hA,hxe,henv]at d3;refine thn d3 λy7 s7 ⟨v7,H7,I7,r7,ys,e7,l7,m',hm,w7⟩=>?_;have d4:=yV (X:=X') _ s7 σ6 H7 (.ref s2.heap.objs.size) [v7] (.ref s2.heap.objs.size) [y7] (λ_ H8=>W (i+1) m' σ6 H8) I7 rfl (.cons r7 .nil) #[_,ys,v7,rfl,rfl,e7,l7,w7];rw[hP,hw,hA,hxe]at d4;refine thn d4 λ_ s8 ⟨v8,H8,I8,_,w8⟩=>?_;refine#[m',hm,i+1,σ6,H8,I8.unpinned,T.keep _ _ _ st5 λb hb o e=>(I8.pin (b,o) (Az _ (Az _ (kJ hb e)))).1,λb hb=>?_,w8];obtain⟨o,e,d⟩:=T.obj _ _ st5 b hb;exact(I8.pin (b,o) (Az _ (Az _ (kJ hb e)))).2.1
  ·rw[aJ (below b (hfps b hb)).2];exact(hf b hb).1
 exact codeAny_compStart_list (loop _ rfl) (T.self _ 0 _ _ _ (T.keep _ _ _ st λb hb o e=>old b o e) (loop _ rfl))
def dY.noC{cap:#v[11]}(S:dY X scope cap cl):qT X scope cap cl:=#[S.clos,S.kind,S.names,S.sub,S.has,λp _ h=>S.nocell _ h rfl,S.cap]
def dY.cx{cap:#v[11]}(S:dY X scope cap cl)(Nc:List Str)(C:Addr)(s2:Ai)(H2:Hp)(fp:List Addr):cT X Nc scope cl C s2 H2 fp=cW X Nc scope cl C s2 H2 fp:=by
 have e:(λx=>decide (scope.names.lookup x=some Ds))=λ_=>false:=funext λx=>Aa6 λh=>S.nocell _ (By h) rfl;unfold cT cW;rw[e];rfl
def zZ
  (S:dY X scope cap cl) (hc:X.calm=true) (I:Inv X aa σ H2 s2) (T:Turn X.prog X.w X.K tg J fp it tn) (st:tn 0 s2.heap) (hf:∀b∈fp,aE5 X aa H2 b)
  (hg:∀C s2 H2 fp,PG #v[5] tg g) (htc:∀C s2 H2 fp,PTs #v[5] cis tc) (he:∀C s2 H2 fp,PE #v[5] elt te)
  (W:Nat->Nat->St->Hp->Prop) (w0:∃m,W 0 m (oN own.length cap σ) (upd H2 s2.heap.objs.size (.lst [])))
  (turn:∀i m σc H3,W i m σc H3->(J.stop i H3/\Q (.ref s2.heap.objs.size) H3)∨(J.go i H3/\∀x H4,J.yld i H3 x H4->g x σc H4 λσ5 H5=>tc σ5 H5 λok H5'=>if ok=true then te σ5 H5' λy H6=>∃ys,H6 s2.heap.objs.size=some (.lst ys)/\ys.length<sizeLine/\∃m',m'<m/\W (i+1) m' σ5 (upd H6 s2.heap.objs.size (.lst (ys++[y])))else∃m',m'<m/\W (i+1) m' σ5 H5'))
  {RR:Value->Addr->Ou->Ai->Prop}
  (hRR:∀C H' s' m,s2.heap.objs.size<=C->s'.heap.Ns C m->H' C=none->Inv X aa σ H' s'->(∀h',Em C s'.heap h'->Inv X aa σ H' {s' with heap:=h'})->Q (.ref s2.heap.objs.size) H'->RR (.ref s2.heap.objs.size) C (.ok .next) s')
  :
  Bc #v[a] X.A (Wc []) (λag s₃=>Bc #v[a] X.A (Nu scope X.env.globals cl [] X.env.qual none .none (some X.env)) (λcenv s₄=>
   Ii #v[a] X.A (.compStart #v[10] 0 (.ref it) ag {cenv with scope:=relabel scope X.env}) (RR ag cenv.locals) s₄) E s₃) E s2:=
 zY S.noC hc I T st hf (λcs _ e C s2 H2 fp=>by rw[e S.nocell,S.cx];exact hg C s2 H2 fp) (λcs _ e C s2 H2 fp=>by rw[e S.nocell,S.cx];exact htc C s2 H2 fp) (λcs _ e C s2 H2 fp=>by rw[e S.nocell,S.cx];exact he C s2 H2 fp) W w0 turn hRR
def aQ3
  (S:dY X scope cap cl) (hc:X.calm=true) (hi:PI X tg iter wi)
  (hg:∀C s2 H2 fp,PG #v[5] tg g) (htc:∀C s2 H2 fp,PTs #v[5] cis tc) (he:∀C s2 H2 fp,PE #v[5] elt te)
  (hs:FS X iter):PE X #v[10] (aRw own.length cap wi g tc te):=by
 intro aa s σ H Q I h;rw[eval_ListComp];refine Lr (use:=none) rfl hs S.clos S.kind S.names (thn (hi aa s σ H _ I h) λv s1 h1=>thn h1 λitv s2 h2=>?_);obtain⟨it,fp,tn,J,H2,e,I2,T,st2,f2,rd⟩:=h2;subst e;obtain⟨W,w0,turn⟩:=rd _ (I2.hok.fresh (Am _));exact zZ (RR:=λag C=>compPost #v[a] X.A X.xe none (EP X aa σ Q) ag C) S hc I2 T st2 f2 hg htc he W w0 turn
  λC H' s' m _ hm _ _ hback q=>#[m,hm,λh' hs'=>#[.ref s2.heap.objs.size,H',hback h' hs',rfl,q]]
def aHq{x:Str}{pos spos py:Pos}
  (hN:X.N.Nodup) (hi':X.N[i]? =some x) (hx:Loc X.env.scope x) (S:dY X scope cap cl) (hc:X.calm=true) (hi:PI X tg iter wi)
  (hg:∀C s2 H2 fp,PG #v[5] tg g) (htc:∀C s2 H2 fp,PTs #v[5] cis tc) (he:∀C s2 H2 fp,PE #v[5] elt te)
  (hsw:Ed #v[10] (some (.Name x py)) spos.line X.env=pure true)
  (hs:FS X iter) (hf:FL X x):
  PS X (.Assign [.Name x py] #v[10] spos) (aNk (aRw own.length cap wi g tc te) (tO i)):=by
 intro aa s σ H D I h;rw[Uy _ _ _ _ hsw];refine Aa (Md (Aa ?_));show Bc _ X.A (do let _<-comprehension #v[10] scope X.env _ (Wc []) false (eval iter X.env) (some (assign (.Name x py) X.env))) _ _ s;refine Aa (Ep (Lr (use:=some (assign (.Name x py) X.env)) (Q:=λ_ s'=>SP X aa D .next s') rfl hs S.clos S.kind S.names
  (thn (hi aa s σ H _ I h) λv s1 h1=>thn h1 λitv s2 h2=>?_)) (λ_ s' hq=>Ad (Ad hq)) λ_ _ e=>e)
 obtain⟨it,fp,tn,J,H2,e,I2,T,st2,f2,rd⟩:=h2;subst e;obtain⟨W,w0,turn⟩:=rd _ (I2.hok.fresh (Am _));refine zZ (Q:=λx H1=>tO i x σ H1 D.nx) (RR:=λag C=>compPost #v[a] X.A X.xe (some (assign (.Name x py) X.env)) (λ_ s'=>SP X aa D .next s') ag C) S hc I2 T st2 f2 hg htc he W w0 turn
  λC H' s' m hCle hm hCn I' hback q=>?_
 refine Pk (zT (v:=.ref s2.heap.objs.size) I' hN hi' hx rfl (λs'' I'' ⟨a,hsa,ha⟩=>?_) hf);have hCa:C≠a:=by
  rcases ha with z|z
  ·rw[z];exact Cq (iH I2.lt hCle)
  ·obtain⟨v,q'⟩:=I2.cell x a z;exact Cq (iH q'.lt hCle)
 refine#[m,hm.sameBut hsa hCa,λh' hs'=>#[_,H',?_,q]];have hC0:X.s₀.heap.objs.size<=C:=Bs I2.sz hCle;have hnp:∀p∈X.pn++aa,p.1≠C:=λp hp=>iH (As (I2.pin p hp).1) hCle;have hcl:∀y c,X.env.cells.lookup y=some c->c≠C:=λy c e=>by
  obtain⟨v,q'⟩:=I2.cell y c e;exact iH q'.lt hCle
 have hL:C≠X.env.locals:=Cq (iH I2.lt hCle);exact I''.turned (t':=s''.toks) (it:=C) (λb o hb e=>(hs'.2 b hb).trans e) hCn hL (.inr hC0) hcl hnp
def aLf
  (S:dY X scope cap cl) (hc:X.calm=true) (hi:PI X tg iter wi)
  (hg:∀C s2 H2 fp,PG #v[5] tg g) (he:∀C s2 H2 fp,PE #v[5] elt te)
  (hs:FS X iter:=by intro _;rfl):PE X #v[7] (aCv own.length cap wi g te):=
 aQ3 (tc:=aUp) S hc hi hg (λ_ _ _ _=>aFz) he hs
def aJ3{x:Str}{pos spos py:Pos}
  (hN:X.N.Nodup) (hi':X.N[i]? =some x) (hx:Loc X.env.scope x) (S:dY X scope cap cl) (hc:X.calm=true) (hi:PI X tg iter wi)
  (hg:∀C s2 H2 fp,PG #v[5] tg g) (he:∀C s2 H2 fp,PE #v[5] elt te)
  (hsw:Ed #v[7] (some (.Name x py)) spos.line X.env=pure true:=by rfl)
  (hs:FS X iter:=by intro _;rfl) (hf:FL X x:=by trivial):
  PS X (.Assign [.Name x py] #v[7] spos) (aNk (aCv own.length cap wi g te) (tO i)):=
 aHq (tc:=aUp) hN hi' hx S hc hi hg (λ_ _ _ _=>aFz) he hsw hs hf
def Ite(K:Ac)(a:Addr):It:=
 #[λi H=>∃xs x,SqL K H a xs/\xs[i]? =some x,λi H y H'=>∃p x,H p=none/\y=.ref p/\H'=upd H p (.tup [.int i,x])/\∀xs,SqL K H a xs->xs[i]? =some x,λi H=>∃xs,SqL K H a xs/\xs.length<=i]
def aNn{P:Aj}{w:Bd}{K:Ac}{es:List Bu}(a e it:Addr)(hei:e≠it):
  Turn P w K (.Tuple es k pos) (Ite K a) [e,it] e (λi h=>(∃old,IsEnum h e it ((i:Nat):Int) old)/\h.IsListIter it a i) where
 mem:=by simp
 obj:=λi h st b hb=>by
  obtain⟨⟨old,he⟩,⟨o,e1,c,d⟩⟩:=st;rcases Ax.mp hb with rfl|hb
  ·exact⟨_,he,λv z=>by
    have z':To _=Pg v:=z;cases z'⟩
  ·have e2:b=it:=by simpa using hb
   subst e2;exact#[o,e1,λv z=>by rw[d]at z;cases z]
 keep:=λi h h' st k=>by
  obtain⟨⟨old,he⟩,hit⟩:=st;exact#[#[old,k e (by simp) _ he],hit.at λo e'=>k it (by simp) o e']
 item:=by
  intro X hP hw hK hc i aa s σ H E I hf st hg;subst hP hw hK;obtain⟨⟨old,he⟩,hit⟩:=st;obtain⟨xs,x,hq,hx⟩:=hg;obtain⟨ae,rv,p,hz⟩:=I.list hq;obtain⟨u,hu,ru⟩:=rv.get hx;refine wpAny_pyNext_enum_item he hit p.isList (x:=u) (by simpa using hu) hei λh' heo hit' ht hz' hk=>?_;refine#[_,rfl,wpAny_letOwnedTupleGo_enum heo λh'' he'' hs''=>?_];have hT:H #v[0]=none:=I.hok.fresh (Am _);have heT:e≠#v[0]:=Aw (As he);have hfe:=hf e (by simp);have hfi:=hf it (by simp);have keep:∀b o,b≠e->b≠it->s.heap.get? b=some o->h''.get? b=some o:=λb o h1 h2 h3=>(hs''.2 b h1).trans (hk b o h1 h2 h3);have keepc:∀b o,b∉[e,it]->s.heap.get? b=some o->h''.get? b=some o:=λb o h1 h3=>keep b o (λz=>h1 (by simp[z])) (λz=>h1 (by simp[z])) h3;have tup:=(hs''.2 _ (Cq heT)).trans ht;have nf:∀b u,H b=some u->b≠e/\b≠it:=λb u q=>#[λz=>(by rw[z,hfe.1]at q;cases q),λz=>(by rw[z,hfi.1]at q;cases q)];have nT:∀b u,H b=some u->b≠#v[0]:=λb u q=>aV q hT;have iti:it≠#v[0]:=by obtain⟨o,e1,_⟩:=hit;exact Aw (As e1)
  refine#[.ref #v[0],upd H #v[0] (.tup [.int i,x]),?_,rfl,#[_,x,hT,rfl,rfl,λys hy=>by rw[I.list_inj hy hq];exact hx],#[#[_,he''],?_],λb hb=>?_]
  ·show Inv X aa σ (upd H #v[0] (.tup [.int i,x])) {s with heap:=h'',gens:=s.gens,drawn:=s.drawn,toks:=s.toks+1};refine Inv.step (s:=s) (h':=h'') (t':=s.toks+1) (g':=s.gens) (d':=s.drawn) (ch:=[e,it]) I (λb hb=>?_) (λb o _ _ hc' q _=>keepc b o hc' q) (λb o _ _ hc' q _=>#[o.slots,keepc b o hc' q]) (λb o _ q n=>by rw[aJ (Aw (As q))];exact n)
    (λb o hc' q=>#[o,keepc b o hc' q]) (λb ys q=>by rw[aJ (nT b _ q)];exact q) (λb o' ys q=>by rw[aJ (nT b _ q)];exact q) (λb ps q=>#[(List.toArray []),by rw[aJ (nT b _ q),q];simp]) (λm hm=>?_) (λb ob q=>?_) I.bare
   ·rcases Ax.mp hb with rfl|hb
    ·exact#[hfe.2.2.2.1,hfe.2.1,hfe.2.2.2.2.1,hfe.2.2.2.2.2]
    ·have e2:b=it:=by simpa using hb
     subst e2;exact#[hfi.2.2.2.1,hfi.2.1,hfi.2.2.2.2.1,hfi.2.2.2.2.2]
   ·obtain⟨o,es,ep,ho,r⟩:=hm;exact#[o,es,ep,keep _ o (Cq hfe.2.1) (Cq hfi.2.1) ho,r]
   ·by_cases hb:b=#v[0]
    ·subst hb;rw[aL]at q;cases q;exact#[show 2<=sizeLine by decide,[.int i s.toks,u],.cons #[_,rfl] (.cons ru .nil),#[_,tup,rfl,_,rfl]]
    ·rw[aJ hb]at q;refine(I.hok b ob q).stay (λc w' hc' q'=>?_) (λc q'=>by rw[aJ (nT c _ q')];exact q') (λc ys q'=>by rw[aJ (nT c _ q')];exact q');have hne:c≠e/\c≠it:=by
      rcases hc' with rfl|hc'
      ·exact nf _ _ q
      ·exact nf _ _ hc'
     exact keep c w' hne.1 hne.2 q'
  ·exact hit'.at λo e'=>(hs''.2 it (Cq hei)).trans e'
  ·rcases Ax.mp hb with rfl|hb
   ·rw[aJ heT];exact hfe.1
   ·have e2:b=it:=by simpa using hb
    subst e2;rw[aJ iti];exact hfi.1
 done:=by
  intro X hP hw hK hc i aa s σ H E I hf st hg;subst hP hw hK;obtain⟨⟨old,he⟩,hit⟩:=st;obtain⟨xs,hq,hx⟩:=hg;obtain⟨ae,rv,p,hz⟩:=I.list hq;obtain⟨f0,f1,f2,f3,f4,f5⟩:=hf it (by simp);have hl:=rv.length;exact wpAny_pyNext_enum_end (I.ok.hd hc) he hit p.isList (by simp;lia) λh' eb=>#[rfl,I.turned (t':=s.toks) (λb o hb q=>eb b o hb q) f0 f1 f3 f4 f5]
 self:=λ_ _ _ _ _ st h=>by
  obtain⟨⟨old,he⟩,hit⟩:=st;exact Xr he h
def aZ9(K:Ac)(ta:TA):TI:=λσ H R=>ta σ H λvs H1=>∃a,vs=[.ref a]/\(∃xs,SqL K H1 a xs)/\R (Ite K a) H1
def aT3{es:List Bu}{pos':Pos}{a:Bu}{ta:TA}{p pos:Pos}(hg:Gl X "enumerate")(hm:X.mg "enumerate"=none)(ha:PA X [a] ta)(hs:Bz [a] X.env=[(false,eval a X.env)]:=by rfl):
  PI X (.Tuple es k pos') (.Call (.Name "enumerate" p) [a] [] pos) (aZ9 X.K ta):=by
 intro aa s σ H R I h;refine Call_ (tR I hg hm boot_enumerate (Fe (thn (ha pos aa s σ H _ I h) λus s1 ⟨vs,H1,I1,r1,q1⟩=>?_) hs rfl));obtain⟨l,e,⟨xs,hq⟩,q⟩:=q1;subst e;cases r1 with
 |cons r rr=>
  cases rr;cases r;obtain⟨ae,rv,pl,hz⟩:=I1.list hq;refine call_enumerate_list pl.isList λh' he hit hz' hk=>Xr he ?_;have I2:Inv X aa σ H1 {s1 with heap:=h'}:=I1.kept (t':=s1.toks) λb o e=>hk b o e;have hne:s1.heap.objs.size+1≠s1.heap.objs.size:=Nat.succ_ne_self _;refine#[s1.heap.objs.size+1,[s1.heap.objs.size+1,s1.heap.objs.size],_,_,H1,rfl,I2,aNn l _ _ hne,#[#[_,he],hit],λb hb=>?_,q];rcases Ax.mp hb with rfl|hb
  ·exact I1.fpOk (Iy _) (I1.hok.fresh (Iy _))
  ·have e2:b=s1.heap.objs.size:=by simpa using hb
   subst e2;exact I1.fpOk (Am _) (I1.hok.fresh (Am _))
def aGz:gQ X (.builtin "isinstance") (λxs H Q=>∃x n t b,xs=[x,.ty n]/\wN X.K H x t/\Ov X.K t (.type n)=some b/\Q (.bl b) H):=by
 intro aa s σ H xs us Q I r h;obtain⟨x,n,t,b,rfl,ty,e,q⟩:=h;obtain⟨u,w',rfl,ru,rw'⟩:=vals2 r;cases rw';exact aMj I ru ty e λtk=>#[.bl b,H,I.tok tk,rfl,q]
def aQy:OpR X (Gw .Add) (λx y H Q=>∃a b ys,x=.ref a/\y=.ref b/\SqT X.K H a []/\SqT X.K H b ys/\Q (.ref b) H):=by
 intro aa s σ H x y v u Q I rx ry h;obtain⟨a,b,ys,rfl,rfl,ha,hb,q⟩:=h;cases rx;cases ry;obtain⟨ae,r1,p1,_⟩:=I.tuple ha;obtain⟨its2,r2,p2,_⟩:=I.tuple hb;cases r1;obtain⟨⟨cls,dd,data,sl⟩,ho,hc,n,hd⟩:=id p1;obtain⟨⟨cls2,dd2,data2,sl2⟩,ho2,hc2,n2,hd2⟩:=id p2;simp only at hc hd hc2 hd2;subst hc hd hc2 hd2;exact Va #[_,ho,rfl] #[_,ho2,rfl] Ql Tw Ky Ks (Kh _ _)
   (tuple_addW0 a b _ _ n n2 dd dd2 sl sl2 (by simp)) #[ho,ho2,#[.ref b,H,I,rfl,q]]
def aG4{x:V}(h:sO x=true):eqV x x=true:=by
 cases x<;>first|rfl|exact Ab0 _|(exact(Au h).elim)
def tG(e:Nat->Bool)(n:Nat):(Dl (n+1)).all e=(e 0 && (Dl n).all λj=>e (j+1)):=by
 rw[List.range_succ_eq_map,Xh,List.all_map];rfl
section
variable {X:Cx}{aa:#v[4]}{σ:St}{H:Hp}{s:Ai}{A:Bp}
end
theorem qC(env:Env):∀(names:List (Str×Iz))(ag:List (Str×Addr)),(∀y∈names,y.2=.free->∃c,env.cells.lookup y.1=some c)->(∀x c,ag.lookup x=some c->env.cells.lookup x=some c)->
  ∃cl,(forIn names ag (λ(x:Str×Iz)(cs:List (Str×Addr))=>(if(x.2==Dh)=true then(do let a<-cellOf env x.1;pure (Hr ((x.1,a)::cs)):Sem _)else pure (Hr cs))):Sem (List (Str×Addr)))=pure cl/\
   (∀x c,cl.lookup x=some c->env.cells.lookup x=some c)/\(∀x,(∃c,ag.lookup x=some c)∨(x,Dh)∈names->∃c,cl.lookup x=some c)
 | [],ag,_,h2=>#[ag,rfl,h2,λx hx=>hx.elim id λz=>(by cases z)]
 |(n,k)::r,ag,h1,h2=>by
  by_cases hk:k=.free
  ·subst hk;obtain⟨c,hc⟩:=h1 (n,.free) Ag rfl;obtain⟨cl,e,a,b⟩:=qC env r ((n,c)::ag) (λy hy=>h1 y (Ah _ hy)) (λx c' hx=>by
    cases hxn:x==n with
    |true=>
     simp only[Bk,hxn]at hx;have:x=n:=Aa8 hxn;subst this;cases hx;exact hc
    |false=>
     simp only[Bk,hxn]at hx;exact h2 x c' hx)
   refine#[cl,?_,a,λx hx=>b x ?_]
   ·rw[<-e,Jy];have ec:cellOf env n=pure c:=by unfold cellOf;rw[hc]
    simp only[Ab0,Ab2,ec];rfl
   ·rcases hx with ⟨c',hx⟩|hx
    ·refine .inl ?_;cases hxn:x==n with
     |true=>exact#[c,by simp only[Bk,hxn]]
     |false=>exact#[c',by simp only[Bk,hxn];exact hx]
    ·rcases Ax.mp hx with z|z
     ·cases z;exact .inl #[c,by simp[Bk]]
     ·exact .inr z
  ·obtain⟨cl,e,a,b⟩:=qC env r ag (λy hy=>h1 y (Ah _ hy)) h2;refine#[cl,?_,a,λx hx=>b x ?_]
   ·rw[<-e,Jy];have hb:(k==Dh)=false:=by simpa using hk
    simp only[hb,Dr,Ab1];rfl
   ·rcases hx with hx|hx
    ·exact .inl hx
    ·rcases Ax.mp hx with z|z
     ·cases z;exact Aa2 rfl hk
     ·exact .inr z
def aI4{X:Cx}(hcell:HC X)(kind:scope.kind=.function)(nocell:∀y∈scope.names,y.2≠.cell)
  (names:∀y∈scope.names,y.2=.local->scope.names.lookup y.1=some .local) (free:∀y∈scope.names,y.2=.free->X.env.scope.names.lookup y.1=some .cell)
  (hcap:∀p∈cap,X.N[p.2]? =some p.1/\scope.names.lookup p.1=some .free/\X.env.scope.names.lookup p.1=some .cell):∃cl,dY X scope cap cl:=by
 obtain⟨cl,e,a,b⟩:=qC X.env scope.names [] (λy hy hf=>hcell _ (free y hy hf)) (λx c h=>by simp at h);refine#[cl,?_,kind,nocell,names,a,λx hx=>b x (.inr (By hx)),hcap];unfold Lu;refine Zd ?_ e;simp only[bind_pure]
def aB0:gQ X (.builtin "all") (λxs H Q=>∃(p:Addr)(bs:List Bool),xs=[.ref p]/\SqL X.K H p (bs.map V.bl)/\X.calm=true/\Q (.bl (bs.all id)) H):=by
 intro aa s σ H xs us Q I r h;obtain⟨p,bs,rfl,hq,hc,q⟩:=h;obtain⟨u,rfl,ru⟩:=vals1 r;cases ru;obtain⟨ae,rv,pl,hz⟩:=I.list hq;have hl:=rv.length;rw[Ab]at hl;refine call_all_walk (Jj pl.isList ?_);have hlt:p<#v[0]:=by obtain⟨o,e,_⟩:=pl.isList;exact As e
 have hne:p≠#v[0]:=Aw hlt;have hd:X.A.in1.handled=none:=I.ok.hd hc;refine#[#v[0],_,_,_,_,_,λi=>bs.getD i true,rfl,Qc hd #v[0] p hne ae.toArray,#[#[_,Ar _ rfl,rfl,rfl],pl.isList.push _],λi v s' Q' E' hv hQ=>?_,λh' tk hk=>?_]
 ·have hv':ae[i]? =some v:=by simpa using hv
  have hi:i<ae.length:=(Be.mp hv').1;have hi':i<bs.length:=by lia
  have e1:(bs.map V.bl)[i]? =some (V.bl bs[i]):=by simp[hi']
  obtain⟨u,hu,ru⟩:=rv.get e1;rw[hv']at hu;cases hu;have ru':v=Kq bs[i]:=ru;subst ru';have e2:bs.getD i true=bs[i]:=by simp[hi']
  have hQ':Q' (bs.getD i true) s':=hQ;rw[e2]at hQ';exact Dn hQ'
 ·refine#[.bl (bs.all id),H,?_,?_,q]
  ·exact I.kept (t':=tk) λb o e=>hk b o (by simp;exact Aw (As e)) (Ae _ e)
  ·show Kq _=Kq _;congr 1;have e:ae.toArray.size=bs.length:=by rw[Al];lia
   rw[e];have:∀l:List Bool,(Dl l.length).all (λi=>l.getD i true)=l.all id:=by
    intro l;induction l with
    |nil=>rfl
    |cons b l ih=>
     rw[An,tG,Xh, <-ih];congr 1
   exact this bs
theorem aC4:∀{us:List Value}{ns:List Int},Nj us ns->Vals (ns.map V.int) us
 |_,_,.nil=> .nil
 |_,_,.cons i t r=> .cons #[t,rfl] (aC4 r)
theorem aCq(f:Nat->Int)(ns:List Int)(h:∀j,j<ns.length->f j=ns.getD j 0):∀n,n<=ns.length->preSum f n=(ns.take n).sum
 |0,_=>by simp[preSum]
 |n+1,hn=>by
  show preSum f n+f n=_;rw[aCq f ns h n ∅,h n hn,Wk];have e:ns[n]? =some (ns.getD n 0):=by simp[show n<ns.length from hn]
  rw[e,Vv];simp
theorem aAj:∀(ns:List Int)(b:Int),(∀n∈ns,0<=n/\n<=b)->0<=b->∀j,0<=(ns.take j).sum/\(ns.take j).sum<=ns.length*b
 | [],b,_,hb,j=>by simp
 |n::ns,b,h,hb,0=>by
  simp;exact Int.mul_nonneg ∅ hb
 |n::ns,b,h,hb,j+1=>by
  have ih:=aAj ns b (λm hm=>h m (Ah _ hm)) hb j;have hn:=h n Ag;rw[List.take_succ_cons,List.sum_cons,An];have:((ns.length+1:Nat):Int)*b=ns.length*b+b:=by rw[Mn,Zu];simp
  rw[this]
  lia
inductive aVp(K:Ac)(xs:List V)(H:Hp)(Q:VK):Prop
 |mk (p:Addr) (ns:List Int) (q0_:xs=[.ref p]) (q1_:SqL K H p (ns.map V.int)) (q2_:ns.length<=1000) (q3_:(∀n∈ns,0<=n/\n<=1000)) (q4_:Q (.int ns.sum) H):aVp K xs H Q
def bBa(K:Ac):List V->Hp->VK->Prop:=λxs H Q=>aVp K xs H Q
def aOq(hc:X.calm=true):gQ X (.builtin "sum") (bBa X.K):=by
 intro aa s σ H xs us Q I r h;obtain⟨p,ns,rfl,hq,hln,hb,q⟩:=h;obtain⟨u,rfl,ru⟩:=vals1 r;cases ru;obtain⟨ae,rv,pl,hz⟩:=I.list hq;have hi:Nj ae ns:=intsAre_of rv;obtain⟨ys,e⟩:=hi.allInts.items;have hns:ns=ys.toList.map (·.1):=by
  rw[<-hi.numsOf, <-nums_intItems, <-e]
 have hsz:ys.size=ns.length:=by rw[hns,Ab,Bg]
 have hl:=pl.isList;rw[e]at hl;have hat:∀j,j<ns.length->numAt ys j=ns.getD j 0:=λj hj=>by
  rw[numAt_eq,hns]
 have hps:∀n,n<=ns.length->preSum (numAt ys) n=(ns.take n).sum:=aCq _ _ hat;have hsum:=aAj ns 1000 hb ⋯;have hbig:(ns.length:Int)*1000<=1000000:=by lia
 refine sum_intList (I.ok.hd hc) hl (λj hj=>#[?_,?_]) λh' tk t' hk=>?_
 ·have hj':j<ns.length:=by lia
  rw[hat j hj'];have:=hb (ns.getD j 0) (by simp[hj']);exact#[∅,∅]
 ·rw[hps (j+1) ∅];have:=hsum (j+1);exact#[∅,∅]
 ·refine#[.int _,H,I.kept (t':=tk) hk,#[t',rfl],?_];rw[hsz,hps _ (Am _),Vf];exact q
section
variable {X:Cx}{aa:#v[4]}{σ:St}{H:Hp}{s:Ai}{d:Addr}{ab:List (Key×V)}{o:Obj}
end
variable {o:Bu}{tg:Bu}{te:TE}{apos cpos:Pos}
section
variable {prog:Aj}{w:Bd}{A:Bp}{E:#v[c]}{s:Ai}
end
section
variable {prog:Aj}{w:Bd}{A:Bp}{s:Ai}{R:Ou->Ai->Prop}
end
section
variable {prog:Aj}{w:Bd}{A:Bp}{g:Bool}{num:Nat->Int}
def aKq(g:Bool)(x d:Value):Wz (cond g "max" "min") #[[x],[(Fs "default",d)]]:=by
 cases g<;>(unfold Wz;kernel_rfl)
def bt(g:Bool)(num:Nat->Int)(i j:Nat):Bool:=cond g (decide (num i>num j)) (decide (num i<num j))
def aZu{i j t:Nat}:bt g num j i=true->bt g num t i=false->bt g num t j=false:=by cases g<;>simp[bt]<;>lia
def aOk{i j t:Nat}(h:t<j+1)(a:bt g num j i=false)(b:t<j->bt g num t i=false):bt g num t i=false:=by
 by_cases e:t<j
 ·exact b e
 ·rw[show t=j by lia];exact a
def aKs(i:Nat):bt g num i i=false:=by cases g<;>simp[bt]
def aZr(g:Bool)(num:Nat->Int)(P:Nat->Value->Prop)(j:Nat):Option (Nat×Value)->Prop
 |none=>j=0
 |some (i,v)=>i<j/\P i v/\∀t,t<j->bt g num t i=false
def aS3(o:Option (Nat×Value)):Array Value:=match o with
 |none=> (List.toArray [])
 |some (_,v)=> (List.toArray [v,v])
def aRh:∀g:Bool,plainId (cond g "max.loop" "min.loop")=true:=by
 intro g;cases g
 ·exact Pw
 ·exact Px
def aPx{It Bx:Addr}{fp wr:List Addr}{n:Nat}{P:Nat->Value->Prop}{St:Nat->Heap->Prop}{R:Ou->Ai->Prop}{d:Value}(W:Walks prog w A.in1 It fp wr n P St)(cm:CmpOf prog w A.in1 (cond g .Gt .Lt) P (bt g num))(apart:Bx∉fp):
  ∀(k j:Nat)(s:Ai)(o:Option (Nat×Value))(c:Nat),n=j+k->St j s.heap->aZr g num P j o->s.heap.get? Bx=some {cls:=.type "list",dict:=none,data:=.seq (aS3 o) c,slots:= (List.toArray [])}->
   (∀v h' tk,(n=0/\v=d∨∃o',o'=some v/\∃i,aZr g num P n (some (i,v)))->(∀b ob,b∉wr->b≠Bx->s.heap.get? b=some ob->h'.get? b=some ob)->R (.ok (.ret v)) {s with heap:=h',toks:=tk})->
   Ii #v[b] A (.builtin (cond g "max.loop" "min.loop") #[[.ref It,.none,.ref Bx],[("default",d)]]) R s:=by
 intro k;induction k with
 |zero=>
  intro j s o c en at_ top hS fin;have outw:Bx∉wr:=λz=>apart (W.sub _ z);cases en;cases g
  all_goals dsimp only[cond]at*
  case' false=>
   refine De Xl ?_;rw[Cf Pw _]
  case' true=>
   refine De Xm ?_;rw[Cf Px _]
  all_goals
   show Bc _ A.in1 (Oq (.ref Bx)>>=_) _ _ s;refine Aa (Cy hS rfl ?_);show Bc _ A.in1 (tryCatch (Ia (.ref It)) _>>=_) _ _ s;refine Aa (Nt (W.done s _ _ at_ λh' tk kept=>?_));have hS2:=kept Bx _ outw hS;cases o with
   |none=>
    have z:j=0:=top;show Bc _ A.in1 (rule _>>=_) _ _ _;exact Aa (Il (Ad (fin d h' tk (.inl #[z,rfl]) λb ob h1 _ h3=>kept b ob h1 h3)))
   |some q=>
    show Bc _ A.in1 (Uu Bx (λ_=> (List.toArray []))>>=_) _ _ _;refine Aa (Kl (hz:=by show 2<=sizeLine;decide) hS2 rfl (Aa (Me (Ad (fin q.2 _ tk (.inr #[_,rfl,q.1,top]) λb ob h1 h2 h3=>?_)))));exact(Dt _ _ (Cq h2)).trans (kept b ob h1 h3)
 |succ k ih=>
  intro j s o c en at_ top hS fin;have outw:Bx∉wr:=λz=>apart (W.sub _ z);have more:j<n:=by lia
  have nm:(toString "max"++toString ".loop":String)="max.loop"/\(toString "min"++toString ".loop":String)="min.loop":=by decide
  have qt:=aRh g;cases g
  all_goals dsimp only[cond]at*
  case' false=>
   refine De Xl ?_;rw[Cf Pw _]
  case' true=>
   refine De Xm ?_;rw[Cf Px _]
  all_goals
   show Bc _ A.in1 (Oq (.ref Bx)>>=_) _ _ s;refine Aa (Cy hS rfl ?_);show Bc _ A.in1 (tryCatch (Ia (.ref It)) _>>=_) _ _ s;refine Aa (Nt (W.item j s _ _ more at_ λv h' tk pv at2 kept=>?_));have hS2:=kept Bx _ outw hS;have step:=λ(o2:Option (Nat×Value))(c2:Nat)(h2:Heap)(t2:Nat) top2 hS3(k2:∀b ob,b≠Bx->h'.get? b=some ob->h2.get? b=some ob)=>ih (j+1) {s with heap:=h2,toks:=t2} o2 c2 ∅ (W.frame _ _ _ at2 λb hb ob e=>k2 b ob (λz=>apart (z▸hb)) e) top2 hS3 λv3 h3 t3 r3 k3=>fin v3 h3 t3 r3 λb ob a1 a2 a3=>k3 b ob a1 a2 (k2 b ob a2 (kept b ob a1 a3));cases o with
   |none=>
    have z:j=0:=top;subst z;show Bc _ A.in1 (Uu Bx (λ_=> (List.toArray [v,v]))>>=_) _ _ _;refine Aa (Kl hS2 rfl ?_);simp only[nm];refine Ad #[Fc qt _,step (some (0,v)) _ _ _ #[Nat.one_pos,pv,λt ht=>?_] (Cv _ hS2 rfl) λb ob hb e=>(Dt _ _ (Cq hb)).trans e];obtain rfl:t=0:=by lia
    exact aKs _
   |some q=>
    obtain⟨i,vb⟩:=q;obtain⟨hi,pb,best⟩:=top;show Bc _ A.in1 (tryCatch (holding [v,v] (richCompare _ v vb>>=_)) _>>=_) _ _ _;refine Aa (Nt (Ci (Aa (cm j i v vb _ _ _ pv pb ?_))));refine Aa (Ci (Dn (Aa (Me (Ad ?_)))));dsimp only;split<;>rename_i hb
    ·refine Aa (Kl (hz:=by show 2<=sizeLine;decide) hS2 rfl (Aa (Me ?_)));simp only[nm];exact Ad #[Fc qt _,step (some (j,v)) _ _ _ #[Ge j,pv,λt ht=>aOk ht (aKs _) λh=>aZu hb (best t h)] (Cv _ hS2 rfl) λb ob hb e=>(Dt _ _ (Cq hb)).trans e]
    ·refine Aa (Me ?_);simp only[nm];exact Ad #[Fc qt _,step (some (i,vb)) _ _ _ #[∅,pb,λt ht=>aOk ht (Ur.mpr hb) (best t)] hS2 λb ob _ e=>e]
end
def aNz(X:Cx)(f:Value)(ks:List Str)(r:List V->List V->Hp->VK->Prop):Prop:=
 ∀(aa:#v[4])(s:Ai)(σ:St)(H:Hp)(xs ys:List V)(us ws:List Value)(Q:VK),#v[3]->Vals xs us->Vals ys ws->r xs ys H Q->Bc #v[a] X.A (call f us (ks.zip ws)) (EP X aa σ Q) X.xe s
def bC8(r:List V->List V->Hp->VK->Prop)(t tk:TA):TE:=λσ H Q=>t σ H λxs H1=>tk σ H1 λys H2=>r xs ys H2 Q
def aNa{X:Cx}{x:Str}{id:String}{ks:List Str}{r:List V->List V->Hp->VK->Prop}{e:Bu}{es:List Bu}{kws:List Ij}{t tk:TA}{p pos:Pos}(hc:aNz X (.builtin id) ks r)(hg:Gl X x)(hm:X.mg x=none)(hv:Fx x=some (.builtin id))(ha:PA X (e::es) t)(hkw:PK X kws tk)
  (hall:(Ft pos (Cz kws X.env)).all (·.1.isSome)=true:=by rfl) (hks:(Ft pos (Cz kws X.env)).filterMap (·.1)=ks:=by rfl) (hn:x≠"__name__":=by decide) (hdb:ND x:=by decide)
  (he:SE X e es:=by rfl) (hpl:(Im pos (Bz (e::es) X.env)).any (·.1)=false:=by rfl) (hpk:(Ft pos (Cz kws X.env)).any (·.1.isNone)=false:=by rfl):PE X (.Call (.Name x p) (e::es) kws pos) (bC8 r t tk):=by
 intro aa s σ H Q I h;refine Hf (tR I hg hm hv ?_ hn hdb);refine Ys (thn (ha pos aa s σ H _ I h) λus s1 ⟨vs,H1,I1,r1,q1⟩=>?_) (by rw[he];rfl) hpl hall hpk;refine thn (hkw pos aa s1 σ H1 _ I1 q1) λws s2 ⟨zs,H2,I2,rz,q2⟩=>?_;rw[hks];exact hc aa s2 σ H2 vs zs us ws Q I2 r1 rz q2
inductive aZl(g:Bool)(K:Ac)(xs:List V)(ys:List V)(H:Hp)(Q:VK):Prop
 |mk (p ns d:_) (q0_:xs=[.ref p]) (q1_:ys=[d]) (q2_:SqL K H p (ns.map V.int)) (q3_:(ns=[]->Q d H)) (q4_:∀m:Int,m∈ns->(∀a∈ns,cond g (a<=m) (m<=a))->Q (.int m) H):aZl g K xs ys H Q
def rMD(g:Bool)(K:Ac):List V->List V->Hp->VK->Prop:=λxs ys H Q=>aZl g K xs ys H Q
def aSt{X:Cx}{g:Bool}(hc:X.calm=true):aNz X (.builtin (cond g "max" "min")) ["default"] (rMD g X.K):=by
 intro aa s σ H xs ys us ws Q I r rk h;obtain⟨p,ns,d,rfl,rfl,hq,q0,q1⟩:=h;obtain⟨u,rfl,ru⟩:=vals1 r;obtain⟨dv,rfl,rd⟩:=vals1 rk;cases ru;obtain⟨ae,rv,pl,hz⟩:=I.list hq;have hi:Nj ae ns:=intsAre_of rv;obtain⟨ys,e⟩:=hi.allInts.items;have hns:ns=ys.toList.map (·.1):=by rw[<-hi.numsOf, <-nums_intItems, <-e]
 have hl:=pl.isList;rw[e]at hl;have nm:(toString "max"++toString ".loop":String)="max.loop"/\(toString "min"++toString ".loop":String)="min.loop":=by decide
 have qt:=aRh g;have bd:∀nm:String,Ih nm ["key","default"] 0 #[[],[(Fs "default",dv)]]=pure [none,some dv]:=λnm=>rfl;have tn:=@aPx X.prog X.w X.A g (numAt ys);have cm:CmpOf X.prog X.w X.A.in1 (cond g .Gt .Lt) (λi v=>(Qt ys)[i]? =some v) (bt g (numAt ys)):=by
  cases g
  ·exact CmpOf.ints_lt _ λ_ _=>Wd
  ·exact CmpOf.ints_gt _ λ_ _=>Wd
 cases g
 all_goals dsimp only[cond]at*
 case' false=>
  refine kmb_tree F.kind_min F.plain_min F.entry_min (aKq false _ _) ?_;show Bc _ X.A.in1 (Ih "min" ["key","default"] 0 #[[],[(Fs "default",dv)]]>>=_) _ _ s
 case' true=>
  refine kmb_tree F.kind_max F.plain_max F.entry_max (aKq true _ _) ?_;show Bc _ X.A.in1 (Ih "max" ["key","default"] 0 #[[],[(Fs "default",dv)]]>>=_) _ _ s
 all_goals
  refine Aa (Nz (bd _) (Aa (Ad ?_)));refine Aa (iter_intList hl λs₂ es st hfp hlI=>?_);refine Aa (Ck ?_);have apart:s₂.heap.objs.size∉[#v[0],p]:=λz=>Gr _ (hfp _ z);simp only[nm];have W:=Qc (prog:=X.prog) (w:=X.w) (A:=X.A.in1) (I.ok.hd hc) #v[0] p hlI (Qt ys);refine Ad #[Fc qt _,tn W cm apart _ 0 _ none _ (by rw[Oi]) (W.frame _ _ _ st λb _ o eb=>Ae _ eb) rfl (Ar _ rfl) λv h' tk res kept=>?_];subst es;have old:∀b o,s.heap.get? b=some o->h'.get? b=some o:=λb o eb=>by
   have lt:=As eb;refine kept b o (λz=>?_) (λz=>?_) (Ae _ (Ae _ eb))
   ·have z':=Bf.mp z;exact Aa2 lt (by rw[z'];exact Gr _)
   ·rw[Cw]at z;exact Aa2 lt (by rw[z];exact Vd.mpr (Iy _))
  rcases res with ⟨n0,rfl⟩|⟨_,_,i,hin,pv,best⟩
  ·refine#[d,H,I.kept (t':=tk) old,rd,q0 ?_];rw[hns];have:ys.size=0:=by simpa[Qt]using n0
   rw[Bo, <-Bg]at*;exact List.eq_nil_of_length_eq_zero (by rw[Bg];exact this)
  ·obtain⟨t,rfl⟩:=Wd (by simpa[Qt]using pv);have hin':i<ys.size:=by simpa[Qt]using hin
   refine#[.int _,H,I.kept (t':=tk) old,#[t,rfl],q1 _ ?_ λa ha=>?_]
   ·rw[hns,numAt_eq];exact getD_mem (by rw[Ab,Bg];lia)
   ·rw[hns]at ha;obtain⟨j,hj,rfl⟩:=mem_getD ha;rw[Ab,Bg]at hj;have:=best j (by simpa[Qt]using hj);rw[<-numAt_eq];simpa[bt]using this
inductive D where
 |fl (x:V)
 |tp (l:List D)
 |ls (l:List D)
mutual
def Den(K:Ac)(H:Hp):D->V->Prop
 |.fl x,v=>v=x/\sO x=true
 |.tp l,v=>∃a xs,v=.ref a/\SqT K H a xs/\vM K H l xs
 |.ls l,v=>∃a xs,v=.ref a/\SqL K H a xs/\vM K H l xs
def vM(K:Ac)(H:Hp):List D->List V->Prop
 | [],xs=>xs=[]
 |d::l,xs=>∃x r,xs=x::r/\Den K H d x/\vM K H l r
end
mutual
def D.eq:D->D->Bool
 |.fl x,.fl y=>eqV x y
 |.tp l,.tp m=>D.eqs l m
 |.ls l,.ls m=>D.eqs l m
 |_,_=>false
def D.eqs:List D->List D->Bool
 | [],[]=>true
 |x::l,y::m=>D.eq x y && D.eqs l m
 |_,_=>false
end
mutual
def D.dep:D->Nat
 |.fl _=>0
 |.tp l=>D.deps l+1
 |.ls l=>D.deps l+1
def D.deps:List D->Nat
 | []=>0
 |x::l=>max (D.dep x) (D.deps l)
end
section
variable {X:Cx}{aa:#v[4]}{σ:St}{H:Hp}{s:Ai}
def Inv.not_both{xs ys:List V}(I:#v[3])(h:SqL X.K H a xs)(h':SqT X.K H a ys):False:=by
 obtain⟨ae,r1,p1,_⟩:=I.list h;obtain⟨its2,r2,p2,_⟩:=I.tuple h';obtain⟨o,ho,hc,_⟩:=p1.isList;obtain⟨o2,ho2,hc2,_⟩:=p2;rw[ho]at ho2;cases ho2;rw[hc]at hc2;simp at hc2
mutual
theorem aB7(I:#v[3]):∀(d e:D){v:V},Den X.K H d v->Den X.K H e v->d.eq e=true
 |.fl x,.fl y,v,h,h'=>by
  obtain⟨rfl,f⟩:=h;obtain⟨rfl,_⟩:=h';rw[D.eq];exact aG4 f
 |.fl x,.tp m,v,h,h'=>by
  obtain⟨rfl,f⟩:=h;obtain⟨a,xs,rfl,_⟩:=h';exact(Au f).elim
 |.fl x,.ls m,v,h,h'=>by
  obtain⟨rfl,f⟩:=h;obtain⟨a,xs,rfl,_⟩:=h';exact(Au f).elim
 |.tp l,.fl x,v,h',h=>by
  obtain⟨rfl,f⟩:=h;obtain⟨a,xs,rfl,_⟩:=h';exact(Au f).elim
 |.ls l,.fl x,v,h',h=>by
  obtain⟨rfl,f⟩:=h;obtain⟨a,xs,rfl,_⟩:=h';exact(Au f).elim
 |.tp l,.tp m,v,h,h'=>by
  obtain⟨a,xs,rfl,h1,h2⟩:=h;obtain⟨b,ys,e,h3,h4⟩:=h';cases e;rw[I.tuple_inj h3 h1]at h4;rw[D.eq];exact yN I l m h2 h4
 |.ls l,.ls m,v,h,h'=>by
  obtain⟨a,xs,rfl,h1,h2⟩:=h;obtain⟨b,ys,e,h3,h4⟩:=h';cases e;rw[I.list_inj h3 h1]at h4;rw[D.eq];exact yN I l m h2 h4
 |.tp l,.ls m,v,h,h'=>by
  obtain⟨a,xs,rfl,h1,h2⟩:=h;obtain⟨b,ys,e,h3,h4⟩:=h';cases e;exact(I.not_both h3 h1).elim
 |.ls l,.tp m,v,h,h'=>by
  obtain⟨a,xs,rfl,h1,h2⟩:=h;obtain⟨b,ys,e,h3,h4⟩:=h';cases e;exact(I.not_both h1 h3).elim
theorem yN(I:#v[3]):∀(l m:List D){xs:List V},vM X.K H l xs->vM X.K H m xs->D.eqs l m=true
 | [],[],xs,h,h'=>by rw[D.eqs]
 | [],_::_,xs,h,h'=>by
  obtain⟨x,r,rfl,_⟩:=h';cases (show(x::r)=[]from h)
 |_::_,[],xs,h',h=>by
  obtain⟨x,r,rfl,_⟩:=h';cases (show(x::r)=[]from h)
 |d::l,e::m,xs,h,h'=>by
  obtain⟨x,r,rfl,h1,h2⟩:=h;obtain⟨y,r',q,h3,h4⟩:=h';cases q;rw[D.eqs,aB7 I d e h1 h3,yN I l m h2 h4];rfl
end
mutual
theorem aO1(I:#v[3]):∀(d e:D){v v':V}{u u':Value}{A:Bp},RelV v u->RelV v' u'->Den X.K H d v->Den X.K H e v'->A.units+d.dep+e.dep<cLine->Kr A s u u' (d.eq e)
 |.fl x,.fl y,v,v',u,u',A,r,r',h,h',hu=>by
  obtain⟨rfl,f⟩:=h;obtain⟨rfl,f'⟩:=h';rw[D.eq];exact aWy r r' f f'
 |.fl x,.tp m,v,v',u,u',A,r,r',h,h',hu=>by
  obtain⟨rfl,f⟩:=h;obtain⟨a,xs,rfl,hb,_⟩:=h';cases r';obtain⟨its2,r2,p2,_⟩:=I.tuple hb;rw[show D.eq (.fl v) (.tp m)=false by simp[D.eq]];have hu':A.units<cLine:=by lia
  cases v with
  |non=>cases r;exact SeqAt.EqAt.none_tuple p2 hu'
  |bl c=>cases r;exact SeqAt.EqAt.bool_tuple c p2 hu'
  |int c=>obtain⟨t,rfl⟩:=r;exact SeqAt.EqAt.int_tuple c t p2 hu'
  |str c=>obtain⟨t,rfl⟩:=r;exact SeqAt.EqAt.str_tuple c t p2 hu'
  |_=>exact(Au f).elim
 |.fl x,.ls m,v,v',u,u',A,r,r',h,h',hu=>by
  obtain⟨rfl,f⟩:=h;obtain⟨a,xs,rfl,hb,_⟩:=h';cases r';obtain⟨its2,r2,p2,_⟩:=I.list hb;rw[show D.eq (.fl v) (.ls m)=false by simp[D.eq]];have hu':A.units<cLine:=by lia
  cases v with
  |non=>cases r;exact SeqAt.EqAt.none_list p2.isList hu'
  |bl c=>cases r;exact SeqAt.EqAt.bool_list c p2.isList hu'
  |int c=>obtain⟨t,rfl⟩:=r;exact SeqAt.EqAt.int_list c t p2.isList hu'
  |str c=>obtain⟨t,rfl⟩:=r;exact SeqAt.EqAt.str_list c t p2.isList hu'
  |_=>exact(Au f).elim
 |.tp l,.fl x,v',v,u',u,A,r',r,h',h,hu=>by
  obtain⟨rfl,f⟩:=h;obtain⟨a,xs,rfl,hb,_⟩:=h';cases r';obtain⟨its2,r2,p2,_⟩:=I.tuple hb;rw[show D.eq (.tp l) (.fl v)=false by simp[D.eq]];have hu':A.units<cLine:=by lia
  cases v with
  |non=>cases r;exact SeqAt.EqAt.tuple_none p2 hu'
  |bl c=>cases r;exact SeqAt.EqAt.tuple_bool c p2 hu'
  |int c=>obtain⟨t,rfl⟩:=r;exact SeqAt.EqAt.tuple_int c t p2 hu'
  |str c=>obtain⟨t,rfl⟩:=r;exact SeqAt.EqAt.tuple_str c t p2 hu'
  |_=>exact(Au f).elim
 |.ls l,.fl x,v',v,u',u,A,r',r,h',h,hu=>by
  obtain⟨rfl,f⟩:=h;obtain⟨a,xs,rfl,hb,_⟩:=h';cases r';obtain⟨its2,r2,p2,_⟩:=I.list hb;rw[show D.eq (.ls l) (.fl v)=false by simp[D.eq]];have hu':A.units<cLine:=by lia
  cases v with
  |non=>cases r;exact SeqAt.EqAt.list_none p2.isList hu'
  |bl c=>cases r;exact SeqAt.EqAt.list_bool c p2.isList hu'
  |int c=>obtain⟨t,rfl⟩:=r;exact SeqAt.EqAt.list_int c t p2.isList hu'
  |str c=>obtain⟨t,rfl⟩:=r;exact SeqAt.EqAt.list_str c t p2.isList hu'
  |_=>exact(Au f).elim
 |.tp l,.ls m,v,v',u,u',A,r,r',h,h',hu=>by
  obtain⟨a,xs,rfl,h1,_⟩:=h;obtain⟨b,ys,rfl,h3,_⟩:=h';cases r;cases r';obtain⟨ae,r1,p1,_⟩:=I.tuple h1;obtain⟨its2,r2,p2,_⟩:=I.list h3;rw[show D.eq (.tp l) (.ls m)=false by simp[D.eq]];exact SeqAt.EqAt.tuple_list p1 p2.isList ∅
 |.ls l,.tp m,v,v',u,u',A,r,r',h,h',hu=>by
  obtain⟨a,xs,rfl,h1,_⟩:=h;obtain⟨b,ys,rfl,h3,_⟩:=h';cases r;cases r';obtain⟨ae,r1,p1,_⟩:=I.list h1;obtain⟨its2,r2,p2,_⟩:=I.tuple h3;rw[show D.eq (.ls l) (.tp m)=false by simp[D.eq]];exact SeqAt.EqAt.list_tuple p1.isList p2 ∅
 |.tp l,.tp m,v,v',u,u',A,r,r',h,h',hu=>by
  by_cases hab:v=v'
  ·subst hab;rw[aB7 I _ _ h h'];rw[show u'=u from by obtain⟨a,xs,rfl,_⟩:=h;cases r;cases r';rfl];exact Nl _
  ·obtain⟨a,xs,rfl,h1,h2⟩:=h;obtain⟨b,ys,rfl,h3,h4⟩:=h';cases r;cases r';obtain⟨ae,r1,p1,_⟩:=I.tuple h1;obtain⟨its2,r2,p2,_⟩:=I.tuple h3;rw[D.dep,D.dep]at hu;obtain⟨e,he,ee⟩:=wW (A:=A.in1) I l m r1 r2 h2 h4 (by show A.units+1+_+_<_;lia);have key:=Qw (A:=A) (s:=s) (l:=a) (b:=b) (items:=ae.toArray) (items2:=its2.toArray) (e:=e) p1 p2 ∅ (λj g1 g2=>by
    have:=he j (by simpa using g1) (by simpa using g2);simpa using this)
   rw[Al,Al,ee]at key;rw[D.eq];exact Qn (λz=>hab (by rw[z])) key
 |.ls l,.ls m,v,v',u,u',A,r,r',h,h',hu=>by
  by_cases hab:v=v'
  ·subst hab;rw[aB7 I _ _ h h'];rw[show u'=u from by obtain⟨a,xs,rfl,_⟩:=h;cases r;cases r';rfl];exact Nl _
  ·obtain⟨a,xs,rfl,h1,h2⟩:=h;obtain⟨b,ys,rfl,h3,h4⟩:=h';cases r;cases r';obtain⟨ae,r1,p1,_⟩:=I.list h1;obtain⟨its2,r2,p2,_⟩:=I.list h3;rw[D.dep,D.dep]at hu;obtain⟨e,he,ee⟩:=wW (A:=A.in1) I l m r1 r2 h2 h4 (by show A.units+1+_+_<_;lia);rw[D.eq];refine Qn (λz=>hab (by rw[z])) ?_;by_cases hz:ae.toArray.size=its2.toArray.size
   ·have key:=Rp (A:=A) (s:=s) (l:=a) (b:=b) (items:=ae.toArray) (items2:=its2.toArray) (e:=e) p1.isList p2.isList hz ∅ (λj g1 g2=>by
     have:=he j (by simpa using g1) (by simpa using g2);simpa using this)
    rw[Al,Al]at hz;rw[<-hz,Yw,Ab0,Xo]at ee;rw[Al,ee]at key;exact key
   ·have hb':(ae.length==its2.length)=false:=by simpa using hz
    rw[hb',Ja]at ee;rw[<-ee];exact SeqAt.RcAt.lists_lengths p1.isList p2.isList (by simpa using hz) ∅
theorem wW(I:#v[3]){A:Bp}:∀(l m:List D){xs ys:List V}{us ws:List Value},Vals xs us->Vals ys ws->vM X.K H l xs->vM X.K H m ys->A.units+D.deps l+D.deps m<cLine->
  ∃e:Nat->Bool,(∀j(h1:j<us.length)(h2:j<ws.length),Kr A s us[j] ws[j] (e j))/\((Dl (min us.length ws.length)).all e && us.length==ws.length)=D.eqs l m
 | [],m,xs,ys,us,ws,r,r',h,h',hu=>by
  cases (show xs=[]from h);cases r;refine#[λ_=>true,λj h1 _=>Aa2 h1 (Eh j),?_];cases m with
  |nil=>cases (show ys=[]from h');cases r';rw[D.eqs];rfl
  |cons e m=>
   obtain⟨y,t,rfl,_⟩:=h';cases r';simp[D.eqs]
 |d::l,[],xs,ys,us,ws,r,r',h,h',hu=>by
  obtain⟨x,t,rfl,_⟩:=h;cases (show ys=[]from h');cases r;cases r';exact#[λ_=>true,λj _ h1=>Aa2 h1 (Eh j),by simp[D.eqs]]
 |d::l,e::m,xs,ys,us,ws,r,r',h,h',hu=>by
  obtain⟨x,t,rfl,h1,h2⟩:=h;obtain⟨y,t',rfl,h3,h4⟩:=h';cases r with
  |@cons _ u0 _ us0 ru rus=>
  cases r' with
  |@cons _ w0 _ ws0 rw0 rws=>
  have hu1:A.units+d.dep+e.dep<cLine:=by
   rw[D.deps,D.deps]at hu;have:=Mm d.dep (D.deps l);have:=Mm e.dep (D.deps m)
   lia
  have hu2:A.units+D.deps l+D.deps m<cLine:=by
   rw[D.deps,D.deps]at hu;have:=Ll d.dep (D.deps l);have:=Ll e.dep (D.deps m)
   lia
  have E0:=aO1 I d e (A:=A) ru rw0 h1 h3 hu1;obtain⟨e',he,ee⟩:=wW I l m rus rws h2 h4 hu2;refine#[λj=>match j with|0=>d.eq e|j+1=>e' j,λj g1 g2=>?_,?_]
  ·cases j with
   |zero=>exact E0
   |succ j=>exact he j (by simpa using g1) (by simpa using g2)
  ·have hmin:min (u0::us0).length (w0::ws0).length=min us0.length ws0.length+1:=by
    rw[An,An]
    lia
   rw[hmin,tG,D.eqs, <-ee];show(d.eq e && (Dl (min us0.length ws0.length)).all e' && _)=_;rw[Bool.and_assoc];congr 2;rw[Bool.eq_iff_iff];simp
end
end
def aX7{A:Bp}{y x:V}{u v:Value}(ry:RelV y u)(rx:RelV x v)(fy:sO y=true)(fx:sO x=true):Yq A s u v (eqV y x)/\Xb A s u v (!eqV y x):=by
 cases y<;>first|exact(Au fy).elim|(cases x<;>first|exact(Au fx).elim|skip)
 all_goals first|obtain⟨t1,rfl⟩:=ry|cases ry
 all_goals first|obtain⟨t2,rfl⟩:=rx|cases rx
 ·exact#[.none_none,.none_none]
 ·exact#[.none_bool _,.none_bool _]
 ·exact#[.none_int _ _,.none_int _ _]
 ·exact#[.none_str _ _,.none_str _ _]
 ·exact#[.bool_none _,.bool_none _]
 ·exact#[.bool_bool _ _,.bool_bool _ _]
 ·exact#[.bool_int _ _ _,.bool_int _ _ _]
 ·exact#[.bool_str _ _ _,.bool_str _ _ _]
 ·exact#[.int_none _ _,.int_none _ _]
 ·exact#[.int_bool _ _ _,.int_bool _ _ _]
 ·exact#[.int_int _ _ _ _,.int_int _ _ _ _]
 ·exact#[.int_str _ _ _ _,.int_str _ _ _ _]
 ·exact#[.str_none _ _,.str_none _ _]
 ·exact#[.str_bool _ _ _,.str_bool _ _ _]
 ·exact#[.str_int _ _ _ _,.str_int _ _ _ _]
 ·exact#[.str_str _ _ _ _,.str_str _ _ _ _]
section
variable {X:Cx}{aa:#v[4]}{σ:St}{H:Hp}{s:Ai}
def aRn(I:#v[3])(d e:D){v v':V}{A:Bp}(r:RelV v u)(r':RelV v' u')(h:Den X.K H d v)(h':Den X.K H e v')(hu:A.units+d.dep+e.dep<cLine):
  Yq A s u u' (d.eq e)/\Xb A s u u' (!d.eq e):=by
 have hu':A.units<cLine:=by lia
 match d,e,h,h',hu with
 |.fl x,.fl y,h,h',hu=>
  obtain⟨rfl,f⟩:=h;obtain⟨rfl,f'⟩:=h';rw[D.eq];exact aX7 r r' f f'
 |.fl x,.tp m,h,h',hu=>
  obtain⟨rfl,f⟩:=h;obtain⟨a,xs,rfl,hb,_⟩:=h';cases r';obtain⟨its2,r2,p2,_⟩:=I.tuple hb;rw[show D.eq (.fl v) (.tp m)=false by simp[D.eq]];cases v with
  |non=>cases r;exact#[.none_tuple p2 hu',.none_tuple p2 hu']
  |bl c=>cases r;exact#[.bool_tuple c p2 hu',.bool_tuple c p2 hu']
  |int c=>obtain⟨t,rfl⟩:=r;exact#[.int_tuple c t p2 hu',.int_tuple c t p2 hu']
  |str c=>obtain⟨t,rfl⟩:=r;exact#[.str_tuple c t p2 hu',.str_tuple c t p2 hu']
  |_=>exact(Au f).elim
 |.fl x,.ls m,h,h',hu=>
  obtain⟨rfl,f⟩:=h;obtain⟨a,xs,rfl,hb,_⟩:=h';cases r';obtain⟨its2,r2,p2,_⟩:=I.list hb;rw[show D.eq (.fl v) (.ls m)=false by simp[D.eq]];have p2:=p2.isList;cases v with
  |non=>cases r;exact#[.none_list p2 hu',.none_list p2 hu']
  |bl c=>cases r;exact#[.bool_list c p2 hu',.bool_list c p2 hu']
  |int c=>obtain⟨t,rfl⟩:=r;exact#[.int_list c t p2 hu',.int_list c t p2 hu']
  |str c=>obtain⟨t,rfl⟩:=r;exact#[.str_list c t p2 hu',.str_list c t p2 hu']
  |_=>exact(Au f).elim
 |.tp m,.fl x,h',h,hu=>
  obtain⟨rfl,f⟩:=h;obtain⟨a,xs,rfl,hb,_⟩:=h';cases r;obtain⟨its2,r2,p2,_⟩:=I.tuple hb;rw[show D.eq (.tp m) (.fl v')=false by simp[D.eq]];cases v' with
  |non=>cases r';exact#[.tuple_none p2 hu',.tuple_none p2 hu']
  |bl c=>cases r';exact#[.tuple_bool c p2 hu',.tuple_bool c p2 hu']
  |int c=>obtain⟨t,rfl⟩:=r';exact#[.tuple_int c t p2 hu',.tuple_int c t p2 hu']
  |str c=>obtain⟨t,rfl⟩:=r';exact#[.tuple_str c t p2 hu',.tuple_str c t p2 hu']
  |_=>exact(Au f).elim
 |.ls m,.fl x,h',h,hu=>
  obtain⟨rfl,f⟩:=h;obtain⟨a,xs,rfl,hb,_⟩:=h';cases r;obtain⟨its2,r2,p2,_⟩:=I.list hb;rw[show D.eq (.ls m) (.fl v')=false by simp[D.eq]];have p2:=p2.isList;cases v' with
  |non=>cases r';exact#[.list_none p2 hu',.list_none p2 hu']
  |bl c=>cases r';exact#[.list_bool c p2 hu',.list_bool c p2 hu']
  |int c=>obtain⟨t,rfl⟩:=r';exact#[.list_int c t p2 hu',.list_int c t p2 hu']
  |str c=>obtain⟨t,rfl⟩:=r';exact#[.list_str c t p2 hu',.list_str c t p2 hu']
  |_=>exact(Au f).elim
 |.tp l,.ls m,h,h',hu=>
  obtain⟨a,xs,rfl,h1,_⟩:=h;obtain⟨b,ys,rfl,h3,_⟩:=h';cases r;cases r';obtain⟨ae,r1,p1,_⟩:=I.tuple h1;obtain⟨its2,r2,p2,_⟩:=I.list h3;rw[show D.eq (.tp l) (.ls m)=false by simp[D.eq]];exact#[.tuple_list p1 p2.isList hu',.tuple_list p1 p2.isList hu']
 |.ls l,.tp m,h,h',hu=>
  obtain⟨a,xs,rfl,h1,_⟩:=h;obtain⟨b,ys,rfl,h3,_⟩:=h';cases r;cases r';obtain⟨ae,r1,p1,_⟩:=I.list h1;obtain⟨its2,r2,p2,_⟩:=I.tuple h3;rw[show D.eq (.ls l) (.tp m)=false by simp[D.eq]];exact#[.list_tuple p1.isList p2 hu',.list_tuple p1.isList p2 hu']
 |.tp l,.tp m,h,h',hu=>
  obtain⟨a,xs,rfl,h1,h2⟩:=h;obtain⟨b,ys,rfl,h3,h4⟩:=h';cases r;cases r';obtain⟨ae,r1,p1,_⟩:=I.tuple h1;obtain⟨its2,r2,p2,_⟩:=I.tuple h3;rw[D.dep,D.dep]at hu;obtain⟨e,he,ee⟩:=wW (A:=A.in1) I l m r1 r2 h2 h4 (by show A.units+1+_+_<_;lia);have hj:∀j(g1:j<ae.toArray.size)(g2:j<its2.toArray.size),Kr A.in1 s ae.toArray[j] its2.toArray[j] (e j):=λj g1 g2=>by
   have:=he j (by simpa using g1) (by simpa using g2);simpa using this
  have k1:=Qw p1 p2 hu' hj;have k2:=Yo p1 p2 hu' hj;rw[Al,Al,ee]at k1 k2;rw[D.eq];exact#[k1,k2]
 |.ls l,.ls m,h,h',hu=>
  obtain⟨a,xs,rfl,h1,h2⟩:=h;obtain⟨b,ys,rfl,h3,h4⟩:=h';cases r;cases r';obtain⟨ae,r1,p1,_⟩:=I.list h1;obtain⟨its2,r2,p2,_⟩:=I.list h3;rw[D.dep,D.dep]at hu;obtain⟨e,he,ee⟩:=wW (A:=A.in1) I l m r1 r2 h2 h4 (by show A.units+1+_+_<_;lia);have hj:∀j(g1:j<ae.toArray.size)(g2:j<its2.toArray.size),Kr A.in1 s ae.toArray[j] its2.toArray[j] (e j):=λj g1 g2=>by
   have:=he j (by simpa using g1) (by simpa using g2);simpa using this
  rw[D.eq];by_cases hz:ae.toArray.size=its2.toArray.size
  ·have k1:=Rp p1.isList p2.isList hz hu' hj;have k2:=Yp p1.isList p2.isList hz hu' hj;rw[Al,Al]at hz;rw[<-hz,Yw,Ab0,Xo]at ee;rw[Al,ee]at k1 k2;exact#[k1,k2]
  ·have hb':(ae.length==its2.length)=false:=by simpa using hz
   rw[hb',Ja]at ee;rw[<-ee];exact#[.lists_lengths p1.isList p2.isList (by simpa using hz) hu',.lists_lengths p1.isList p2.isList (by simpa using hz) hu']
def Den.inj(I:#v[3]):∀(d:D)(e:D){v:V},Den X.K H d v->Den X.K H e v->d=e:=by
 have key:∀(n:Nat)(d e:D){v:V},d.dep<=n->Den X.K H d v->Den X.K H e v->d=e:=by
  intro n;induction n with
  |zero=>
   intro d e v hn h h';match d,e,h,h',hn with
   |.fl x,.fl y,h,h',_=>rw[<-h.1, <-h'.1]
   |.fl x,.tp m,h,h',_=>obtain⟨rfl,f⟩:=h;obtain⟨a,xs,rfl,_⟩:=h';exact(Au f).elim
   |.fl x,.ls m,h,h',_=>obtain⟨rfl,f⟩:=h;obtain⟨a,xs,rfl,_⟩:=h';exact(Au f).elim
   |.tp l,_,_,_,hn=>rw[D.dep]at hn;lia
   |.ls l,_,_,_,hn=>rw[D.dep]at hn;lia
  |succ n ih=>
   have items:∀(l m:List D){xs:List V},D.deps l<=n->vM X.K H l xs->vM X.K H m xs->l=m:=by
    intro l;induction l with
    |nil=>
     intro m xs _ h h';cases (show xs=[]from h);cases m with
     |nil=>rfl
     |cons e m=>obtain⟨y,t,q,_⟩:=h';cases q
    |cons d l il=>
     intro m xs hn h h';obtain⟨x,t,rfl,h1,h2⟩:=h;cases m with
     |nil=>cases (show(x::t)=[]from h')
     |cons e m=>
      obtain⟨y,t',q,h3,h4⟩:=h';cases q;rw[D.deps]at hn;have a1:=Mm d.dep (D.deps l);have a2:=Ll d.dep (D.deps l);rw[ih d e ∅ h1 h3,il m ∅ h2 h4]
   intro d e v hn h h';match d,e,h,h',hn with
   |.fl x,.fl y,h,h',_=>rw[<-h.1, <-h'.1]
   |.fl x,.tp m,h,h',_=>obtain⟨rfl,f⟩:=h;obtain⟨a,xs,rfl,_⟩:=h';exact(Au f).elim
   |.fl x,.ls m,h,h',_=>obtain⟨rfl,f⟩:=h;obtain⟨a,xs,rfl,_⟩:=h';exact(Au f).elim
   |.tp m,.fl x,h',h,_=>obtain⟨rfl,f⟩:=h;obtain⟨a,xs,rfl,_⟩:=h';exact(Au f).elim
   |.ls m,.fl x,h',h,_=>obtain⟨rfl,f⟩:=h;obtain⟨a,xs,rfl,_⟩:=h';exact(Au f).elim
   |.tp l,.ls m,h,h',_=>obtain⟨a,xs,rfl,h1,_⟩:=h;obtain⟨b,ys,e,h3,_⟩:=h';cases e;exact(I.not_both h3 h1).elim
   |.ls l,.tp m,h,h',_=>obtain⟨a,xs,rfl,h1,_⟩:=h;obtain⟨b,ys,e,h3,_⟩:=h';cases e;exact(I.not_both h1 h3).elim
   |.tp l,.tp m,h,h',hn=>
    obtain⟨a,xs,rfl,h1,h2⟩:=h;obtain⟨b,ys,e,h3,h4⟩:=h';cases e;rw[I.tuple_inj h3 h1]at h4;rw[D.dep]at hn;rw[items l m ∅ h2 h4]
   |.ls l,.ls m,h,h',hn=>
    obtain⟨a,xs,rfl,h1,h2⟩:=h;obtain⟨b,ys,e,h3,h4⟩:=h';cases e;rw[I.list_inj h3 h1]at h4;rw[D.dep]at hn;rw[items l m ∅ h2 h4]
 exactλd e v h h'=>key _ d e (Am _) h h'
inductive aVg(K:Ac)(neg:Bool)(x:V)(y:V)(H:Hp)(Q:VK):Prop
 |mk (d e:_) (q0_:Den K H d x) (q1_:Den K H e y) (q2_:d.dep+e.dep<=100) (q3_:Q (.bl (if neg then !d.eq e else d.eq e)) H):aVg K neg x y H Q
def aX3(K:Ac)(neg:Bool):R2:=λx y H Q=>aVg K neg x y H Q
def cH(hu:X.A.units+101<cLine):OpR X (Ee .Eq) (aX3 X.K false):=by
 intro aa s σ H x y v u Q I rx ry h;obtain⟨d,e,h1,h2,hd,q⟩:=h;exact(aRn (A:=X.A) I d e rx ry h1 h2 ∅).1 _ _ _ _ #[.bl _,H,I,rfl,q]
def yZ(hu:X.A.units+101<cLine):OpR X (Ee .NotEq) (aX3 X.K true):=by
 intro aa s σ H x y v u Q I rx ry h;obtain⟨d,e,h1,h2,hd,q⟩:=h;exact(aRn (A:=X.A) I d e rx ry h1 h2 ∅).2 _ _ _ _ #[.bl _,H,I,rfl,q]
inductive aVh(K:Ac)(neg:Bool)(x:V)(y:V)(H:Hp)(Q:VK):Prop
 |mk (d p xs l:_) (q0_:Den K H d x) (q1_:y=.ref p) (q2_:(SqL K H p xs∨SqT K H p xs)) (q3_:vM K H l xs) (q4_:d.dep+D.deps l<=99) (q5_:Q (.bl (if neg then !(l.any λe=>e.eq d)else l.any λe=>e.eq d)) H):aVh K neg x y H Q
def aX4(K:Ac)(neg:Bool):R2:=λx y H Q=>aVh K neg x y H Q
open Classical in
def qG(I:#v[3]){x:V}{v:Value}(rx:RelV x v)(hx:Den X.K H d x){A:Bp}:∀{l:List D}{xs:List V}{us:List Value},Vals xs us->vM X.K H l xs->A.units+d.dep+D.deps l<cLine->
  ∃e:Value->Bool,(e=λw=>decide (∃d' x',RelV x' w/\Den X.K H d' x'/\d'.eq d=true))/\(∀w∈us,Kr A s w v (e w))/\us.any e=l.any λe=>e.eq d:=by
 intro l;induction l with
 |nil=>
  intro xs us r h hu;cases (show xs=[]from h);cases r;exact#[_,rfl,λw hw=>(by cases hw),rfl]
 |cons d0 l ih=>
  intro xs us r h hu;obtain⟨x0,t,rfl,h1,h2⟩:=h;cases r with
  |@cons _ u0 _ us0 r0 rr=>
  rw[D.deps]at hu;have a1:=Mm d0.dep (D.deps l);have a2:=Ll d0.dep (D.deps l);obtain⟨e,ee,i1,i2⟩:=ih rr h2 ∅;have e0:e u0=d0.eq d:=by
   rw[ee];by_cases hq:d0.eq d=true
   ·rw[hq];exact Aa5 #[d0,x0,r0,h1,hq]
   ·rw[Vo]at hq;rw[hq];refine Aa6 ?_;rintro⟨d',x',r',h',q'⟩;cases RelV.inj r' r0;rw[Den.inj I d' d0 h' h1,hq]at q';cases q'
  refine#[e,ee,λw hw=>?_,?_]
  ·rcases Ax.mp hw with rfl|hw
   ·rw[e0];exact aO1 I d0 d r0 rx h1 hx ∅
   ·exact i1 w hw
  ·rw[Ig,Ig,i2,e0]
def aXj(hu:X.A.units+101<cLine):OpR X (Ee .In) (aX4 X.K false):=by
 intro aa s σ H x y v u Q I rx ry h;obtain⟨d,p,xs,l,h1,rfl,hq,h2,hd,q⟩:=h;cases ry;rcases hq with hq|hq
 ·obtain⟨ae,r,pl,hz⟩:=I.list hq;obtain⟨e,_,i1,i2⟩:=qG (A:=X.A.in1) I rx h1 r h2 (by show X.A.units+1+_+_<_;lia);refine SeqAt.in_listAt e pl.isList (λw hw=>i1 w (by simpa using hw)) #[.bl _,H,I,rfl,?_];rw[show ae.toArray.any e=ae.any e by simp,i2];exact q
 ·obtain⟨ae,r,pl,hz⟩:=I.tuple hq;obtain⟨e,_,i1,i2⟩:=qG (A:=X.A.in1) I rx h1 r h2 (by show X.A.units+1+_+_<_;lia);refine SeqAt.in_tupleAt e pl (λw hw=>i1 w (by simpa using hw)) #[.bl _,H,I,rfl,?_];rw[show ae.toArray.any e=ae.any e by simp,i2];exact q
def aM9(hu:X.A.units+101<cLine):OpR X (Ee .NotIn) (aX4 X.K true):=by
 intro aa s σ H x y v u Q I rx ry h;obtain⟨d,p,xs,l,h1,rfl,hq,h2,hd,q⟩:=h;cases ry;rcases hq with hq|hq
 ·obtain⟨ae,r,pl,hz⟩:=I.list hq;obtain⟨e,_,i1,i2⟩:=qG (A:=X.A.in1) I rx h1 r h2 (by show X.A.units+1+_+_<_;lia);refine SeqAt.notIn_listAt e pl.isList (λw hw=>i1 w (by simpa using hw)) #[.bl _,H,I,rfl,?_];rw[show ae.toArray.any e=ae.any e by simp,i2];exact q
 ·obtain⟨ae,r,pl,hz⟩:=I.tuple hq;obtain⟨e,_,i1,i2⟩:=qG (A:=X.A.in1) I rx h1 r h2 (by show X.A.units+1+_+_<_;lia);refine SeqAt.notIn_tupleAt e pl (λw hw=>i1 w (by simpa using hw)) #[.bl _,H,I,rfl,?_];rw[show ae.toArray.any e=ae.any e by simp,i2];exact q
end
mutual
def vL(Av:Addr->Prop)(H:Hp):D->V->Prop
 |.fl x,v=>v=x/\sO x=true
 |.tp l,v=>∃p xs,v=.ref p/\H p=some (.tup xs)/\eX Av H l xs
 |.ls l,v=>∃p xs,v=.ref p/\¬Av p/\H p=some (.lst xs)/\eX Av H l xs
def eX(Av:Addr->Prop)(H:Hp):List D->List V->Prop
 | [],xs=>xs=[]
 |d::l,xs=>∃x r,xs=x::r/\vL Av H d x/\eX Av H l r
end
variable {Av:Addr->Prop}{H H':Hp}
mutual
theorem vL.mono(k1:∀b xs,H b=some (.tup xs)->H' b=some (.tup xs))(k2:∀b xs,¬Av b->H b=some (.lst xs)->H' b=some (.lst xs)):∀(d:D){v:V},vL Av H d v->vL Av H' d v
 |.fl x,v,h=>h
 |.tp l,v,h=>by
  obtain⟨p,xs,e,hp,t⟩:=h;exact#[p,xs,e,k1 _ _ hp,eX.mono k1 k2 l t]
 |.ls l,v,h=>by
  obtain⟨p,xs,e,n,hp,t⟩:=h;exact#[p,xs,e,n,k2 _ _ n hp,eX.mono k1 k2 l t]
theorem eX.mono(k1:∀b xs,H b=some (.tup xs)->H' b=some (.tup xs))(k2:∀b xs,¬Av b->H b=some (.lst xs)->H' b=some (.lst xs)):∀(l:List D){xs:List V},eX Av H l xs->eX Av H' l xs
 | [],xs,h=>h
 |d::l,xs,h=>by
  obtain⟨x,r,e,h1,h2⟩:=h;exact#[x,r,e,vL.mono k1 k2 d h1,eX.mono k1 k2 l h2]
end
mutual
theorem vL.den(K:Ac):∀(d:D){v:V},vL Av H d v->Den K H d v
 |.fl x,v,h=>h
 |.tp l,v,h=>by
  obtain⟨p,xs,e,hp,t⟩:=h;exact#[p,xs,e,SqT.of hp,eX.dens K l t]
 |.ls l,v,h=>by
  obtain⟨p,xs,e,n,hp,t⟩:=h;exact#[p,xs,e,SqL.of hp,eX.dens K l t]
theorem eX.dens(K:Ac):∀(l:List D){xs:List V},eX Av H l xs->vM K H l xs
 | [],xs,h=>h
 |d::l,xs,h=>by
  obtain⟨x,r,e,h1,h2⟩:=h;exact#[x,r,e,vL.den K d h1,eX.dens K l h2]
end
mutual
theorem vL.weak(k:∀b,Bv b->Av b):∀(d:D){v:V},vL Av H d v->vL Bv H d v
 |.fl x,v,h=>h
 |.tp l,v,h=>by
  obtain⟨p,xs,e,hp,t⟩:=h;exact#[p,xs,e,hp,eX.weak k l t]
 |.ls l,v,h=>by
  obtain⟨p,xs,e,n,hp,t⟩:=h;exact#[p,xs,e,λz=>n (k p z),hp,eX.weak k l t]
theorem eX.weak(k:∀b,Bv b->Av b):∀(l:List D){xs:List V},eX Av H l xs->eX Bv H l xs
 | [],xs,h=>h
 |d::l,xs,h=>by
  obtain⟨x,r,e,h1,h2⟩:=h;exact#[x,r,e,vL.weak k d h1,eX.weak k l h2]
end
mutual
theorem vL.refl:∀(d:D){v:V},vL Av H d v->d.eq d=true
 |.fl x,v,h=>by
  rw[D.eq];exact aG4 h.2
 |.tp l,v,h=>by
  obtain⟨p,xs,e,hp,t⟩:=h;rw[D.eq];exact eX.refl l t
 |.ls l,v,h=>by
  obtain⟨p,xs,e,n,hp,t⟩:=h;rw[D.eq];exact eX.refl l t
theorem eX.refl:∀(l:List D){xs:List V},eX Av H l xs->D.eqs l l=true
 | [],xs,h=>by rw[D.eqs]
 |d::l,xs,h=>by
  obtain⟨x,r,e,h1,h2⟩:=h;rw[D.eqs,vL.refl d h1,eX.refl l h2];rfl
end
structure Cal(P:Aj)(w:Bd)(K:Ac)(mg:Str->#v[9])(base:Heap)(CX:CXT)(k:Nat)(x:Str)(ps:List Str)(sp:Sp):Prop where
 ex:∃f fd,aX P w K mg base CX k f fd ps sp/\mg x=some (.ref f)/\Hi K (.ref f)=true/\Binds K fd ps []
def aXn{X:Cx}{x:Str}{t:TA}{p pos:Pos}(C:Cal X.prog X.w X.K X.mg X.base CX k x ps sp)(hr:cV k X.A)(hg:Gl X x)(hx:tD CX X E)
  (ha:PA X (e::es) t) (hdb:ND x:=by decide) (he:SE X e es:=by rfl) (hpl:BT X pos es:=by rfl):
  PE X (.Call (.Name x p) (e::es) [] pos) (aWe sp [] E t):=by
 obtain⟨f,fd,F,hm,hk,hb⟩:=C.ex;exact aTw F hr hg hm hk hb .nil hx ha hdb he hpl
abbrev aBo(scope sc0:Scope)(cap:#v[11])(N:List Str):Prop:=scope.kind=.function/\(∀y∈scope.names,y.2≠.cell)/\(∀y∈scope.names,y.2=.local->scope.names.lookup y.1=some .local)/\
 (∀y∈scope.names,y.2=.free->sc0.names.lookup y.1=some .cell)/\(∀p∈cap,N[p.2]? =some p.1/\scope.names.lookup p.1=some .free/\sc0.names.lookup p.1=some .cell)
def aVt(hs:X.env.scope=sc0)(hN:X.N=N0)(hcell:HC X)(ok:aBo scope sc0 cap N0):∃cl,dY X scope cap cl:=by
 subst hs hN;exact aI4 hcell ok.1 ok.2.1 ok.2.2.1 ok.2.2.2.1 ok.2.2.2.2
def bAu{elt iter tg:Bu}{te:TE}(sc0:Scope)(N0:List Str)(hsc:X.env.scope=sc0)(hN:X.N=N0)(hcell:HC X)
  (ok:aBo scope sc0 cap N0) (hc:X.calm=true) (hi:PI X tg iter wi)
  (hg:∀cl C s2 H2 fp,PG #v[5] tg g) (he:∀cl C s2 H2 fp,PE #v[5] elt te)
  (hs:FS X iter:=by intro _;rfl):PE X #v[7] (aCv own.length cap wi g te):=by
 obtain⟨cl,S⟩:=aVt hsc hN hcell ok;exact aLf S hc hi (hg cl) (he cl) hs
def bAz{x:Str}{elt iter tg:Bu}{pos spos py:Pos}{te:TE}(hnd:X.N.Nodup)(hi':X.N[i]? =some x)(hx:Loc X.env.scope x)
  (sc0:Scope) (N0:List Str) (hsc:X.env.scope=sc0) (hN:X.N=N0) (hcell:HC X)
  (ok:aBo scope sc0 cap N0) (hc:X.calm=true) (hi:PI X tg iter wi)
  (hg:∀cl C s2 H2 fp,PG #v[5] tg g) (he:∀cl C s2 H2 fp,PE #v[5] elt te)
  (hsw:Ed #v[7] (some (.Name x py)) spos.line X.env=pure true:=by rfl)
  (hs:FS X iter:=by intro _;rfl) (hf:FL X x:=by trivial):
  PS X (.Assign [.Name x py] #v[7] spos) (aNk (aCv own.length cap wi g te) (tO i)):=by
 obtain⟨cl,S⟩:=aVt hsc hN hcell ok;exact aJ3 hnd hi' hx S hc hi (hg cl) (he cl) hsw hs hf
abbrev aKj(scope sc0:Scope)(cap:#v[11])(N:List Str):Prop:=scope.kind=.function/\(∀y∈scope.names,y.2=.local->scope.names.lookup y.1=some .local)/\
 (∀y∈scope.names,y.2=.free->sc0.names.lookup y.1=some .cell)/\(∀p∈cap,¬(p.1,Ds)∈scope.names)/\(∀p∈cap,N[p.2]? =some p.1/\scope.names.lookup p.1=some .free/\sc0.names.lookup p.1=some .cell)
abbrev aWq(scope fsc:Scope)(x:Str):Prop:=scope.names.lookup x=some .cell∨(scope.names.lookup x=some .free/\fsc.names.lookup x=some .cell)
abbrev aIp(isc scope fsc:Scope)(icap:#v[11])(N:List Str):Prop:=isc.kind=.function/\(∀y∈isc.names,y.2≠.cell)/\(∀y∈isc.names,y.2=.local->isc.names.lookup y.1=some .local)/\
 (∀y∈isc.names,y.2=.free->aWq scope fsc y.1)/\(∀p∈icap,N[p.2]? =some p.1/\isc.names.lookup p.1=some .free/\aWq scope fsc p.1)
theorem xP{env:Env}:∀{names:List (Str×Iz)}{x:Str},names.lookup x=some .cell->
  (names.map λ(n,k)=>if(k==Dh && env.scope.kind== .function && env.kindOf n==some .cell)then(n,Ds)else(n,k)).lookup x=some .cell
 | [],_,h=>by simp at h
 |(n,k)::r,x,h=>by
  have ih:=@xP env r x;show Gm x ((if(k==Dh && env.scope.kind== .function && env.kindOf n==some .cell)=true then(n,Ds)else(n,k))::_)=_;cases hx:x==n with
  |true=>
   simp only[Bk,hx]at h;cases h;rw[Aa0 (by simp)];simp[Bk,hx]
  |false=>
   simp only[Bk,hx]at h;by_cases hcc:(k==Dh && env.scope.kind== .function && env.kindOf n==some .cell)=true
   ·rw[Aa1 hcc];simp only[Bk,hx];exact ih h
   ·rw[Aa0 hcc];simp only[Bk,hx];exact ih h
def aWw(hs:X.env.scope=sc0)(hN:X.N=N0)(hcell:HC X)(ok:aKj scope sc0 cap N0):∃cl,qT X scope cap cl:=by
 subst hs hN;obtain⟨k,nm,fr,cn,cp⟩:=ok;obtain⟨cl,e,a,b⟩:=qC X.env scope.names [] (λy hy hf=>hcell _ (fr y hy hf)) (λx c h=>by simp at h);refine#[cl,?_,k,nm,a,λx hx=>b x (.inr (By hx)),cn,cp];unfold Lu;refine Zd ?_ e;simp only[bind_pure]
def aSx{scope isc fsc:Scope}{s2:Ai}{H2:Hp}(cf:fU X scope cs)(hfs:X.env.scope=fsc)(hk:fsc.kind=.function)(ok:aIp isc scope fsc icap Nc):
  ∃cl,dY (cT X Nc scope cs C s2 H2 fp) isc icap cl:=by
 subst hfs;obtain⟨k,nc,nm,fr,cp⟩:=ok;have up:∀x,aWq scope X.env.scope x->(relabel scope X.env).names.lookup x=some .cell:=λx h=>by
  rcases h with h|⟨h,h'⟩
  ·exact xP h
  ·exact gZ hk h h'
 obtain⟨cl,e,a,b⟩:=qC (cT X Nc scope cs C s2 H2 fp).env isc.names [] (λy hy hf=>cf _ (fr y hy hf)) (λx c h=>by simp at h);refine#[cl,?_,k,nc,nm,a,λx hx=>b x (.inr (By hx)),λp hp=>#[(cp p hp).1,(cp p hp).2.1,up _ (cp p hp).2.2]];unfold Lu;refine Zd ?_ e;simp only[bind_pure]
section
variable {X:Cx}{B:St->Hp->Prop}{R:Hp->V->Prop}
end
def aRi(K:Ac):List V->Hp->VK->Prop:=λxs H Q=>∃p ys,xs=[.ref p]/\(SqL K H p ys∨SqT K H p ys)/\∀l,H l=none->Q (.ref l) (upd H l (.lst ys))
def aLh(K:Ac):List V->Hp->VK->Prop:=λxs H Q=>∃p ys,xs=[.ref p]/\((SqL K H p ys/\∀l,H l=none->Q (.ref l) (upd H l (.tup ys)))∨(SqT K H p ys/\Q (.ref p) H))
def iY{X:Cx}{K:Ac}(h:X.K=K):gQ X (.type "list") (aRi K):=by
 subst h;exact aFh
def tK{X:Cx}{K:Ac}(h:X.K=K):gQ X (.type "tuple") (aLh K):=by
 subst h;exact aDf
def aZg(_ j:Int):Prop:=0<j/\j<2 ^ 62
def xK:OpR X (Gw .FloorDiv) (rI aZg λi j=> .int (i / j)):=opI λi j _ _ _ _ _ hc q=>by
 have h1:(0:Int)<j:=hc.1;have h2:j<2 ^ 62:=hc.2;refine floordiv_int ∅ (by rw[Qh i ∅];exact q) (.inl (PyProof.noPylong_of_log2 ?_));have h3:j.natAbs<2 ^ 62:=by lia
 have:=(Zq ∅).mpr h3
 lia
variable {K:Ac}
def aXo{elt iter tg:Bu}{scope isc:Scope}{s2:Ai}{H2:Hp}{te:TE}(fsc:Scope)(cf:fU X scope cs)(hfs:X.env.scope=fsc)(hk:fsc.kind=.function)
  (ok:aIp isc scope fsc icap Nc) (hc:X.calm=true) (hi:PI (cT X Nc scope cs C s2 H2 fp) tg iter wi)
  (hg:∀cl C' s3 H3 fp',PG (cW (cT X Nc scope cs C s2 H2 fp) (fD own icap) isc cl C' s3 H3 fp') tg g) (he:∀cl C' s3 H3 fp',PE (cW (cT X Nc scope cs C s2 H2 fp) (fD own icap) isc cl C' s3 H3 fp') elt te)
  (hs:∀x,Pn iter (cT X Nc scope cs C s2 H2 fp).env x=pure x:=by intro _;rfl):PE (cT X Nc scope cs C s2 H2 fp) (.ListComp elt [#[tg,iter,[],0]] isc pos) (aCv own.length icap wi g te):=by
 obtain⟨cl,S⟩:=aSx (C:=C) (s2:=s2) (H2:=H2) (fp:=fp) cf hfs hk ok;exact aLf S hc hi (hg cl) (he cl) hs
def aHp{x:Str}{elt iter tg:Bu}{pos spos py:Pos}{te:TE}
  (hN:X.N.Nodup) (hi':X.N[i]? =some x) (hx:Loc X.env.scope x) (S:qT X scope cap cl) (hc:X.calm=true) (hi:PI X tg iter wi) (gm:∀x σ H(Q Q':St->Hp->Prop),(∀σ H,Q σ H->Q' σ H)->g x σ H Q->g x σ H Q')
  (hg:∀cs,fU X scope cs->∀C s2 H2 fp,PG (cT X (fD own cap) scope cs C s2 H2 fp) tg g) (he:∀cs,fU X scope cs->∀C s2 H2 fp,PE (cT X (fD own cap) scope cs C s2 H2 fp) elt te)
  (hsw:Ed #v[7] (some (.Name x py)) spos.line X.env=pure true:=by rfl)
  (hs:FS X iter:=by intro _;rfl) (hf:FL X x:=by trivial):
  PS X (.Assign [.Name x py] #v[7] spos) (aNk (aCv own.length cap wi g te) (tO i)):=by
 intro aa s σ H D I h;rw[Uy _ _ _ _ hsw];refine Aa (Md (Aa ?_));show Bc _ X.A (do let _<-comprehension #v[7] scope X.env _ (Wc []) false (eval iter X.env) (some (assign (.Name x py) X.env))) _ _ s;refine Aa (Ep (Lr (use:=some (assign (.Name x py) X.env)) (Q:=λ_ s'=>SP X aa D .next s') rfl hs S.clos S.kind S.names
  (thn (hi aa s σ H _ I h) λv s1 h1=>thn h1 λitv s2 h2=>?_)) (λ_ s' hq=>Ad (Ad hq)) λ_ _ e=>e)
 obtain⟨it,fp,tn,J,H2,e,I2,T,st2,f2,rd⟩:=h2;subst e;obtain⟨W,w0,turn⟩:=rd _ (I2.hok.fresh (Am _));refine zY (Q:=λx H1=>tO i x σ H1 D.nx) (RR:=λag C=>compPost #v[a] X.A X.xe (some (assign (.Name x py) X.env)) (λ_ s'=>SP X aa D .next s') ag C) S hc I2 T st2 f2 (λcs cf _=>hg cs cf) (λ_ _ _ _ _ _ _=>aFz) (λcs cf _=>he cs cf) W w0 (λi m σc H3 h3=>(turn i m σc H3 h3).imp id λ⟨go,step⟩=>#[go,λx H4 y=>gm _ _ _ _ _ (λσ5 H5 q=>by unfold aUp;dsimp only;rw[Aa1 rfl];exact q) (step x H4 y)])
  λC H' s' m hCle hm hCn I' hback q=>?_
 refine Pk (zT (v:=.ref s2.heap.objs.size) I' hN hi' hx rfl (λs'' I'' ⟨a,hsa,ha⟩=>?_) hf);have hCa:C≠a:=by
  rcases ha with z|z
  ·rw[z];exact Cq (iH I2.lt hCle)
  ·obtain⟨v,q'⟩:=I2.cell x a z;exact Cq (iH q'.lt hCle)
 refine#[m,hm.sameBut hsa hCa,λh' hs'=>#[_,H',?_,q]];have hC0:X.s₀.heap.objs.size<=C:=Bs I2.sz hCle;have hnp:∀p∈X.pn++aa,p.1≠C:=λp hp=>iH (As (I2.pin p hp).1) hCle;have hcl:∀y c,X.env.cells.lookup y=some c->c≠C:=λy c e=>by
  obtain⟨v,q'⟩:=I2.cell y c e;exact iH q'.lt hCle
 have hL:C≠X.env.locals:=Cq (iH I2.lt hCle);exact I''.turned (t':=s''.toks) (it:=C) (λb o hb e=>(hs'.2 b hb).trans e) hCn hL (.inr hC0) hcl hnp
def mF(P:Aj)(w:Bd)(a:Addr)(xs:List ((Int×List Int)×Addr))(h:Heap):Prop:=∃o es ep t,h.get? a=some o/\o.ExactSet/\o.data=.set es ep t/\es.toList=xs.map (λx=>((iI (Eb P w)).hash x.1,Ao x.2))/\t.Good/\t.place.size=es.size/\(xs.map (·.1)).Nodup/\
 (∀(i j:Nat)(x:(Int×List Int)×Addr),t.place[i]? =some j->xs[i]? =some x->SetTable.vA t ((iI (Eb P w)).hash x.1) j)/\t.Small/\t.plain=true/\t.led= !w.params.followText "set-order"
def TKy(H:Hp)(x:List Int×Addr):Prop:=H x.2=some (.tup (x.1.map V.int))
def PKy(H:Hp)(x:(Int×List Int)×Addr):Prop:=∃q,H x.2=some (.tup [.int x.1.1,.ref q])/\TKy H (x.1.2,q)
section
variable {P:Aj}{w:Bd}{H:Hp}{h:Heap}{a:Addr}{s:Ai}{xs:List ((Int×List Int)×Addr)}
def mF.stay(h1 h2:Heap)(p:mF P w a xs h1)(k:∀o,h1.get? a=some o->h2.get? a=some o):mF P w a xs h2:=let⟨o,es,ep,t,e,c⟩:=p;#[o,es,ep,t,k _ e,c]
def mF.of(I:mG (iI (Eb P w)) s a (!w.params.followText "set-order") xs):mF P w a xs s.heap:=by
 obtain⟨o,es,ep,t,S,r1,r2,r3⟩:=I;exact#[o,es,ep,t,S.ho,S.hex,S.hd,S.he,S.good,S.size,S.nd,S.way,r1,r2,r3]
def mF.is(I:mF P w a xs s.heap)(keys:∀x∈xs,bK (Eb P w) s.heap x.1 x.2):mG (iI (Eb P w)) s a (!w.params.followText "set-order") xs:=by
 obtain⟨o,es,ep,t,a1,a2,a3,a4,a5,a6,a7,a8,r1,r2,r3⟩:=I;exact#[o,es,ep,t,#[a1,a2,a3,a4,a5,a6,keys,a7,a8],r1,r2,r3]
def aNl{ns:List Int}:∀{us:List Value},Vals (ns.map V.int) us->ItemsAre (Eb P w) ns us:=by
 induction ns with
 |nil=>intro us r;rw[Fq]at r;cases r;exact .nil
 |cons n ns ih=>
  intro us r;rw[Br]at r;cases r with
  |@cons _ v _ _ r1 t=>
   obtain⟨tk,rfl⟩:=r1;exact .cons (by show Kw n (.int n tk)=true;simp[Kw]) (ih t)
def aBk{x:List Int×Addr}(ok:HOk P w H h)(e:TKy H x):Jl (Eb P w) h x.1 x.2:=by
 obtain⟨_,ae,r,o,h1,h2,n,h3⟩:=(show bL P w H h x.2 (.tup (x.1.map V.int))from ok _ _ e);exact#[o,ae.toArray,n,h1,h2,h3,aNl r]
def rC{x:(Int×List Int)×Addr}(ok:HOk P w H h)(e:PKy H x):bK (Eb P w) h x.1 x.2:=by
 obtain⟨q,e1,e2⟩:=e;obtain⟨_,ae,r,o,h1,h2,n,h3⟩:=(show bL P w H h x.2 (.tup [.int x.1.1,.ref q])from ok _ _ e1);obtain⟨u,v,rfl,ru,rv⟩:=vals2 r;obtain⟨tk,rfl⟩:=ru;obtain rfl:v=Ao q:=rv;exact#[o,_,q,n,h1,h2,h3,(by show Kw _ (.int _ tk)=true;simp[Kw]),aBk ok e2]
end
theorem aC0:∀{ps:List ((Int×List Int)×Addr)}{us:List Value},Vals (ps.map λx=>V.ref x.2) us->us=ps.map λx=>Ao x.2
 | [],_,.nil=>rfl
 |_::_,_,.cons (r1:_=Ao _) t=>by subst r1;rw[Br,aC0 t]
theorem aCz:∀{ps:List ((Int×List Int)×Addr)},Vals (ps.map λx=>V.ref x.2) (ps.map λx=>Ao x.2)
 | []=> .nil
 |_::_=> .cons rfl aCz
inductive aN6(P:Aj)(w:Bd)(K:Ac)(xs:List V)(H:Hp)(Q:VK):Prop
 |mk (p:Addr) (ps:List ((Int×List Int)×Addr)) (q0_:xs=[.ref p]) (q1_:SqL K H p (ps.map λx=>V.ref x.2)) (q2_:(∀x∈ps,PKy H x)) (q3_:ps.length<=1000) (q4_:(∃ks:List (Int×List Int),ks.length<=4/\∀x∈ps,x.1∈ks)) (q5_:∀(l:Addr)(zs:List ((Int×List Int)×Addr)),H l=none->(zs.map (·.1)).Nodup->(∀x∈zs,x∈ps)->(∀x∈ps,∃z∈zs,z.1=x.1)->zs.length<=ps.length->Q (.ref l) (upd H l (.ext (mF P w l zs)))):aN6 P w K xs H Q
def bA9(P:Aj)(w:Bd)(K:Ac):List V->Hp->VK->Prop:=λxs H Q=>aN6 P w K xs H Q
inductive aD1(P:Aj)(w:Bd)(xs:List V)(H:Hp)(Q:VK):Prop
 |mk (p:Addr) (ps:List ((Int×List Int)×Addr)) (q0_:xs=[.ref p]) (q1_:H p=some (.ext (mF P w p ps))) (q2_:(∀x∈ps,PKy H x)) (q3_:ps.length<64) (q4_:∀(l:Addr)(ys:List ((Int×List Int)×Addr)),H l=none->ys.Perm ps->ys.Pairwise (λx y=>aAt x.1 y.1=true)->Q (.ref l) (upd H l (.lst (ys.map λx=>V.ref x.2)))):aD1 P w xs H Q
def aRk(P:Aj)(w:Bd):List V->Hp->VK->Prop:=λxs H Q=>aD1 P w xs H Q
def aL7(hu:X.A.units+20<cLine)(hc:X.calm=true):gQ X (.type "set") (bA9 X.prog X.w X.K):=by
 intro aa s σ H xs us Q I r h;obtain⟨p,ps,rfl,hq,hk,hln,⟨ks,kl,km⟩,q⟩:=h;obtain⟨u,rfl,ru⟩:=vals1 r;cases ru;obtain⟨ae,rv,pl,hz⟩:=I.list hq;have ei:=aC0 rv;have hlen:ae.length=ps.length:=by rw[ei,Ab]
 have at_:∀i,i<ps.length->ps.getD i ((0,[]),0)∈ps:=λi hi=>by simp[Nm,hi]
 refine aB2 (knd:=iI (Eb X.prog X.w)) (items:=ae.toArray) (val:=λi=>(ps.getD i ((0,[]),0)).1) (adr:=λi=>(ps.getD i ((0,[]),0)).2) (aQz λk v hv=>?_) (λA' hA=>?_) (I.ok.hd hc) pl.isList (λi v hv=>?_) (λj hj=>?_) (λi xs hi M nd nx=>?_) λh' tk zs S M hk'=>?_
 ·obtain⟨t,rfl⟩:=Fp hv;exact#[_,_,rfl]
 ·show A'.units+1<cLine
  lia
 ·have hi:i<ae.toArray.size:=(Ke.mp hv).1;rw[Al,hlen]at hi;rw[List.getElem?_toArray,ei]at hv;simp[hi]at hv;rw[<-hv];simp[Nm,hi]
 ·rw[Al,hlen]at hj;exact rC I.hok (hk _ (at_ j hj))
 ·rw[Al,hlen]at hi;have:=(Ef.mpr #[λz=>(let⟨x,hx,e⟩:=Ay.mp z;nx x hx e),nd]).length_le_of_subset (l₂:=ks) λk hk=>by
   rcases Ax.mp hk with rfl|hk
   ·exact km _ (at_ i hi)
   obtain⟨x,hx,rfl⟩:=Ay.mp hk;obtain⟨j,hj,e⟩:=M.from' x hx;rw[e];exact km _ (at_ j ∅)
  rw[An,Ab]at this
  lia
 ·have kp:∀b o,s.heap.get? b=some o->h'.get? b=some o:=λb o e=>hk' b o (As e) e;have so:=mF.of S;have nd:(zs.map (·.1)).Nodup:=by obtain⟨_,_,_,_,S,_⟩:=S;exact S.nd
  refine#[.ref #v[0],_,I.laid (t':=tk) (o:=.ext (mF X.prog X.w #v[0] zs)) kp (Am _) #[so,?_,λh1 h2 p k=>mF.stay h1 h2 p k],rfl,q _ zs (I.hok.fresh (Am _)) nd (λx hx=>?_) (λx hx=>?_) ?_]
  ·obtain⟨o,_,_,_,e,_⟩:=so;exact#[o,e]
  ·obtain⟨j,hj,e⟩:=M.from' x hx;rw[Al,hlen]at hj;rw[e];exact at_ j hj
  ·obtain⟨j,hj,e⟩:=Mw hx;obtain⟨z,hz,ez⟩:=M.all j (by rw[Al,hlen];exact hj);refine#[z,hz,?_];rw[ez, <-e];simp[Nm,hj]
  ·have:=M.len;rw[Al,hlen]at this;exact this
def aFj(hu:X.A.units+40<cLine)(hc:X.calm=true):gQ X (.builtin "sorted") (aRk X.prog X.w):=by
 intro aa s σ H xs us Q I r h;obtain⟨p,ps,rfl,hp,hk,h64,q⟩:=h;obtain⟨u,rfl,ru⟩:=vals1 r;cases ru;obtain⟨so,_,_⟩:=(show bL X.prog X.w H s.heap p (.ext (mF X.prog X.w p ps))from I.hok p _ hp);refine aJ9 (aTs λk v hv=>by obtain⟨t,rfl⟩:=Fp hv;exact#[_,_,rfl]) ∅ (I.ok.hd hc) (so.is λx hx=>rC I.hok (hk x hx)) (λ_ _=>trivial) h64 λh' tk l e ys py hy hl hg kp=>?_;refine#[.ref l,_,I.laid (t':=tk) (o:=.lst (ys.map λx=>V.ref x.2)) kp hl #[?_,_,e,aCz,hg],rfl,q l ys (I.hok.fresh hl) py hy];rw[Ab,py.length_eq,Ez]
 lia
def aD2(w:Bd)(a:Addr)(x:Nat)(b:Bool)(h:Heap):Prop:=∃o ep tk,h.get? a=some o/\o.ExactSet/\o.data=.set (lG (zs1 x b) tk) ep (aDu (!w.params.followText "set-order") (zs1 x b))
def aAd(l:List Nat):List V:=l.map λk:Nat=> .int (k:Int)
inductive aN4(w:Bd)(K:Ac)(xs:List V)(H:Hp)(Q:VK):Prop
 |mk (p:Addr) (ns:List Nat) (x:Nat) (q0_:xs=[.ref p]) (q1_:SqL K H p (aAd ns)) (q2_:(∀n∈ns,n=x)) (q3_:x∈[1,2,3]) (q4_:∀l:Addr,H l=none->Q (.ref l) (upd H l (.ext (aD2 w l x (decide (0<ns.length)))))):aN4 w K xs H Q
def bA7(w:Bd)(K:Ac):List V->Hp->VK->Prop:=λxs H Q=>aN4 w K xs H Q
inductive aD0(w:Bd)(xs:List V)(H:Hp)(Q:VK):Prop
 |mk (p:Addr) (x:Nat) (b:Bool) (q0_:xs=[.ref p]) (q1_:H p=some (.ext (aD2 w p x b))) (q2_:x∈[1,2,3]) (q3_:∀l,H l=none->Q (.ref l) (upd H l (.lst (aAd (zs1 x b))))):aD0 w xs H Q
def aRj(w:Bd):List V->Hp->VK->Prop:=λxs H Q=>aD0 w xs H Q
theorem aIa{x:Nat}:∀{ns:List Nat}{us:List Value},(∀n∈ns,n=x)->Vals (aAd ns) us->∀(i:Nat)(v:Value),us[i]? =some v->∃t,v=.int x t
 | [],_,_,.nil,i,v,h=>by simp at h
 |n::ns,u::us,hn,.cons r t,0,v,h=>by
  obtain⟨tk,e⟩:=r;have:u=v:=by simpa using h
  exact#[tk,by rw[<-this,e, <-hn n Ag]]
 |n::ns,u::us,hn,.cons r t,i+1,v,h=>aIa (λm hm=>hn m (Ah _ hm)) t i v (by simpa using h)
def aL6(hc:X.calm=true):gQ X (.type "set") (bA7 X.w X.K):=by
 intro aa s σ H xs us Q I r h;obtain⟨p,ns,x,rfl,hq,hn,h3,q⟩:=h;obtain⟨u,rfl,ru⟩:=vals1 r;cases ru;obtain⟨ae,rv,pl,hz⟩:=I.list hq;have hlen:ae.length=ns.length:=by rw[<-Vals.length rv];unfold aAd;rw[Ab]
 refine aB1 (items:=ae.toArray) (I.ok.hd hc) pl.isList (λi v hv=>aIa hn rv i v (by simpa using hv)) h3 λh' tk S kp'=>?_;have kp:∀b o,s.heap.get? b=some o->h'.get? b=some o:=λb o e=>kp' b o (As e) e;rw[show ae.toArray.size=ns.length by rw[Al,hlen]]at S;have so:aD2 X.w #v[0] x (decide (0<ns.length)) h':=S;refine#[.ref #v[0],_,I.laid (t':=tk) (o:=.ext (aD2 X.w #v[0] _ _)) kp (Am _) #[so,?_,λh1 h2 p k=>?_],rfl,q _ (I.hok.fresh (Am _))]
 ·obtain⟨o,_,_,e,_⟩:=so;exact#[o,e]
 ·obtain⟨o,ep,tk,e,c⟩:=p;exact#[o,ep,tk,k _ e,c]
def aFi(hc:X.calm=true):gQ X (.builtin "sorted") (aRj X.w):=by
 intro aa s σ H xs us Q I r h;obtain⟨p,x,b,rfl,hp,hx,q⟩:=h;obtain⟨u,rfl,ru⟩:=vals1 r;cases ru;obtain⟨so,_,_⟩:=(show bL X.prog X.w H s.heap p (.ext (aD2 X.w p x b))from I.hok p _ hp);obtain⟨o,ep,tk,ho,hex,hd⟩:=so;have l3:(zs1 x b).length<=1:=by cases b<;>simp[zs1]
 refine Pz kind_sorted plain_sorted entry_sorted (args_sorted1 _) ?_;unfold Builtin.«sorted»;refine Aa (m:=checkCount "sorted" 1 1 _) (Ad ?_);have rise:SetTable.vO (aDu (!X.w.params.followText "set-order") (zs1 x b)).place:=by
  intro i j h1 h2;have:j<1:=Ba h2 (by show(zs1 x b).toArray.size<=1;rw[Al];exact l3)
  lia
 refine Aa (pF (by simpa using I.ok.hd hc) ho hex hd (aPg hx) rise rfl rfl (by have:=aWd (x:=x) b tk;rw[Ez];lia) λh' tk' s1 hk=>?_);have ey:iC X.w p (lG (zs1 x b) tk) ep=(zs1 x b).map λz:Nat=>Dx (z:Int) (tk z):=by
  have:=lM X.w p (lG (zs1 x b) tk) ep;cases b
  ·exact this.eq_nil
  ·exact Th.mp this
 rw[ey];have hi:Nj ((zs1 x b).map λz:Nat=>Dx (z:Int) (tk z)) ((zs1 x b).map λz:Nat=>(z:Int)):=by
  cases b
  ·exact .nil
  ·exact .cons _ _ .nil
 generalize ((zs1 x b).map λz:Nat=>Dx (z:Int) (tk z))=vs at hi;have hal:vs.length=(zs1 x b).length:=by rw[hi.length,Ab]
 refine Aa (Tt ?_ (by rw[Ez];lia));have hoL:(h'.push (Jh "list" vs.toArray 0)).get? h'.objs.size=some (Jh "list" vs.toArray 0):=Ar _ rfl;refine Aa (Ci (Co slot_list_sort #[_,hoL,rfl] entry_list_sort (list_sort_tree hoL hi ∅ λout ms a1 a2 a3=>#[_,rfl,?_]) (args_list_sort _)));refine Ad #[_,rfl,?_];obtain⟨e,he⟩:=sortedHeap_at (vs:=vs) (out:=out) hoL;have hsz:h'.objs.size<(h'.push (Jh "list" vs.toArray 0)).objs.size:=by rw[Cw];exact Ge _
 have keep:∀b o,s.heap.get? b=some o->(Sz (h'.push (Jh "list" vs.toArray 0)) h'.objs.size vs out).get? b=some o:=λb o eb=>by
  have e1:=hk b o eb;have hlt:=As e1;rw[sortedHeap_old (Aw hlt) (Hx hlt hsz)];exact Ae _ e1
 have hge:#v[0]<=h'.objs.size:=Hy s1;have es:ms=(zs1 x b).map λz:Nat=>(z:Int):=by
  cases b
  ·exact a2.eq_nil
  ·exact Th.mp a2
 have en:ms.map V.int=aAd (zs1 x b):=by rw[es,Ce];rfl
 refine#[.ref h'.objs.size,_,I.laid (t':=tk') (o:=.lst (ms.map V.int)) keep hge #[?_,out.toList,e,aC4 a1,by simpa using he],rfl,by rw[en];exact q _ (I.hok.fresh hge)];rw[Ab,a2.length_eq,Ab,Ez]
 lia
structure Dis(P:Aj)(w:Bd)(K:Ac)(mg:Str->#v[9])(base:Heap)(CX:CXT)(k:Nat)(Cs:Addr->Prop)(m:Str)(ps:List Str)(sp:Addr->Sp):Prop where
 ex:∀C,Cs C->Cls K C/\∃f fd,Meth K C m f/\aX P w K mg base CX k f fd ps (sp C)/\Binds K fd ps []
def aKb(Cs:Addr->Prop)(m:Str)(sp:Addr->Sp)(E:XK)(ta:TE)(t:TA):TE:=λσ H Q=>ta σ H λx H1=>∃a C dx fs,x=.ref a/\H1 a=some (.ins C dx fs)/\Cs C/\fs.lookup m=none/\t σ H1 λvs H2=>sp C (.ref a::vs) H2 Q E
section
variable {X:Cx}{CX:CXT}{k:Nat}{Cs:Addr->Prop}{m:Str}{ps:List Str}{sp:Addr->Sp}{E:XK}{o e:Bu}{es:List Bu}{ta:TE}{t:TA}{apos pos:Pos}
def aQ5(he:PE X o ta)(D:Dis X.prog X.w X.K X.mg X.base CX k Cs m ps sp)(hr:cV k X.A)(hx:tD CX X E)(ha:PA X (e::es) t)
  (hst:SE X e es:=by rfl) (hpl:BT X pos es:=by rfl)
  (ht:eval (.Call (.Attribute o m apos) (e::es) [] pos) X.env=(do
   let ov<-eval o X.env
   Mg apos.atName
   let(f,first)<-holding [ov] (Ls ov m pl)
   Qu pos f first (Im pos (Bz (e::es) X.env)) (Ft pos (Cz [] X.env))):=by rfl):
  PE X (.Call (.Attribute o m apos) (e::es) [] pos) (aKb Cs m sp E ta t):=by
 intro aa s σ H Q I h;refine Le (pl:=pl) (thn (he aa s σ H _ I h) λu s1 ⟨x,H1,I1,rx,a,C,dx,fs,ex,ea,hC,l,q⟩=>?_) ht;subst ex;obtain rfl:u=Ao a:=rx;obtain⟨c,f,fd,hm,F,hb⟩:=D.ex C hC;refine vR I1 ea c hm l ?_;refine Jv (first:=[.ref a]) (h₀:=X.base) I.ok.mod.kin hm.kp (thn (ha pos aa s1 σ H1 _ I1 q) λus s2 ⟨vs,H2,I2,r,q2⟩=>#[I2.kIn,?_]) hst hpl;exact aF1 (us:=.ref a::us) (vs:=.ref a::vs) F hr hb .nil hx I2 (.cons rfl r) (by rw[Bi];exact q2)
def aNb(he:PE X o ta)(D:Dis X.prog X.w X.K X.mg X.base CX k Cs m ps sp)(hr:cV k X.A)(hx:tD CX X E)
  (ht:eval (.Call (.Attribute o m apos) [] [] pos) X.env=(do
   let ov<-eval o X.env
   Mg apos.atName
   let(f,first)<-holding [ov] (Ls ov m pl)
   Qu pos f first (Im pos (Bz [] X.env)) (Ft pos (Cz [] X.env))):=by rfl):
  PE X (.Call (.Attribute o m apos) [] [] pos) (aKb Cs m sp E ta aUn):=by
 intro aa s σ H Q I h;refine Le (pl:=pl) (thn (he aa s σ H _ I h) λu s1 ⟨x,H1,I1,rx,a,C,dx,fs,ex,ea,hC,l,q⟩=>?_) ht;subst ex;obtain rfl:u=Ao a:=rx;obtain⟨c,f,fd,hm,F,hb⟩:=D.ex C hC;refine vR I1 ea c hm l ?_;exact PySem.W.callWith_K0 (first:=[.ref a]) I1.kIn hm.kp (aF1 (us:=[.ref a]) (vs:=[.ref a]) F hr hb .nil hx I1 (.cons rfl .nil) q)
end
def bBe(td te:TE):TE:=λσ H Q=>td σ H λx H1=>∃a,x=.ref a/\IsD H1 a/\te σ H1 λy H2=>∃b ab more,y=.ref b/\H2 a=some (.dK ab)/\H2 b=some (.dK more)/\a≠b/\ab.length+more.length<=1000/\Q .non (upd H2 a (.dK (rB ab more)))
section
variable {X:Cx}{o e:Bu}{apos cpos:Pos}{td ty:TE}
def aTz(ho:PE X o td)(he:PE X e ty)(m:M1 X o "update" apos e cpos):PE X (.Call (.Attribute o "update" apos) [e] [] cpos) (bBe td ty):=by
 intro aa s σ H Q I h;refine wpAny_Call_method m.base m.few m.line PySem.F.plainAttrs_dict Pb PySem.F.type_dict_update (thn (ho aa s σ H _ I h) λu s1 ⟨x,H1,I1,rx,a,ex,d,q1⟩=>?_);subst ex;obtain rfl:u=Ao a:=rx;obtain⟨t1,t2,_⟩:=aW2 I1 d;refine#[t1,t2,?_];rw[m.trees];refine Rc rfl (Se (Tp (thn (he aa s1 σ H1 _ I1 q1) λiv s2 ⟨y,H2,I2,ry,b,ab,more,ey,ea,eb,ne,hl,q2⟩=>Uh ?_)));subst ey;obtain rfl:iv=Ao b:=ry;obtain⟨z,hd,vs,rel,dd⟩:=aKv I2.hok ea;obtain⟨z',hd',vs',rel',dd'⟩:=aKv I2.hok eb;have hz:ab.length+more.length<=sizeLine:=Bs hl ⋯;refine call_meetsIn Pb dd.typeIs PySem.F.entry_dict_update (PySem.F.args_dict_update_2 _ _) (meets_dict_update (eG X.prog X.w) a b ne hd') #[vs,vs',dd,dd',by rw[<-rel.length, <-rel'.length];exact hz,λh' dn _ hs=>?_];have hx:∃q,h'.get? a=some q:=let⟨q,_,_,hq,_⟩:=dn;#[q,hq];exact#[.non,_,wV (t':=s2.toks) I2 (by rw[ea];exact Er) hs hx (aFn (Bs (pN more ab) hz) hd (rel'.merge rel) dn),rfl,q2]
def aNy(i j:Int):Prop:=i.natAbs<2 ^ 2000/\j.natAbs<2 ^ 2000
def aOj{i:Int}(h:i.natAbs<2 ^ 2000):Qa i<=2000:=by
 unfold Qa;split
 ·exact Bt _
 ·rename_i hn;have h0:i.natAbs≠0:=λz=>hn (by rw[Int.natAbs_eq_zero.mp z];rfl);exact(Zq h0).mpr h
def aNy.ok{i j:Int}(h:aNy i j):IntMulOk i j:=by
 have h1:=aOj h.1;have h2:=aOj h.2;unfold IntMulOk;intro z;rw[Hs]at z;have z2:=z.2;unfold Zx at z2;have z3:=Aa3 z2;have:(4000:Int)<=bitsLine:=by decide
 lia
def aTq:OpR X (Gw .Mult) (rI aNy λi j=> .int (i*j)):=opI λ_ _ _ _ _ _ _ hc q=>mul_int q hc.ok
end
structure Opq where
 φ:(Addr->Prop)->(Addr->Prop)->Hp->V->Prop
 mono:∀{W B B' H H'}{v:V},(∀b o,¬B b->H b=some o->¬B' b/\H' b=some o)->φ W B H v->φ W B' H' v
 wm:∀{W W' B H}{v:V},(∀p,W p->W' p)->φ W B H v->φ W' B H v
inductive U where
 |v (x:V)
 |tp (l:List U)
 |ls (l:List U)
 |ob (C:Addr) (ns:List Str) (us:List U)
 |dk (ns:List Str) (us:List U)
 |op (o:Opq)
 |wl
abbrev U.n(i:Int):U:=.v (.int i)
abbrev U.b(c:Bool):U:=.v (.bl c)
abbrev U.s(x:Str):U:=.v (.str x)
abbrev U.no:U:=.v .non
def Wll(H:Hp)(a:Addr):Prop:=∃x y z:Int,H a=some (.lst [.int x,.int y,.int z])
section
variable (W B:Addr->Prop)(H:Hp)
mutual
def DU:U->V->Prop
 |.v x,y=>y=x/\sO x=true
 |.tp l,y=>∃p xs,y=.ref p/\¬B p/\H p=some (.tup xs)/\DUs l xs
 |.ls l,y=>∃p xs,y=.ref p/\¬B p/\H p=some (.lst xs)/\DUs l xs
 |.ob C ns us,y=>∃p dx xs,y=.ref p/\¬B p/\H p=some (.ins C dx (ns.zip xs))/\ns.length=xs.length/\DUs us xs
 |.dk ns us,y=>∃p xs,y=.ref p/\¬B p/\H p=some (.dK ((ns.map Cm).zip xs))/\ns.length=xs.length/\DUs us xs
 |.op o,y=>o.φ W B H y
 |.wl,y=>∃p,y=.ref p/\W p
def DUs:List U->List V->Prop
 | [],xs=>xs=[]
 |u::l,xs=>∃x r,xs=x::r/\DU u x/\DUs l r
end
end
section
variable {W B B':Addr->Prop}{H H':Hp}
mutual
theorem DU.mono(k:∀b o,¬B b->H b=some o->¬B' b/\H' b=some o):∀(u:U){v:V},DU W B H u v->DU W B' H' u v
 |.v _,_,h=>h
 |.tp l,_,⟨p,xs,e,nb,hp,t⟩=>#[p,xs,e,(k _ _ nb hp).1,(k _ _ nb hp).2,DUs.mono k l t]
 |.ls l,_,⟨p,xs,e,nb,hp,t⟩=>#[p,xs,e,(k _ _ nb hp).1,(k _ _ nb hp).2,DUs.mono k l t]
 |.ob _ _ us,_,⟨p,dx,xs,e,nb,hp,hl,t⟩=>#[p,dx,xs,e,(k _ _ nb hp).1,(k _ _ nb hp).2,hl,DUs.mono k us t]
 |.dk _ us,_,⟨p,xs,e,nb,hp,hl,t⟩=>#[p,xs,e,(k _ _ nb hp).1,(k _ _ nb hp).2,hl,DUs.mono k us t]
 |.op o,_,h=>o.mono k h
 |.wl,_,h=>h
theorem DUs.mono(k:∀b o,¬B b->H b=some o->¬B' b/\H' b=some o):∀(l:List U){xs:List V},DUs W B H l xs->DUs W B' H' l xs
 | [],_,h=>h
 |u::l,_,⟨x,r,e,h,t⟩=>#[x,r,e,DU.mono k u h,DUs.mono k l t]
end
def DUs.length:∀{l:List U}{xs:List V},DUs W B H l xs->l.length=xs.length
 | [],_,h=>by rw[show _=[]from h];rfl
 |_::_,_,⟨_,_,e,_,t⟩=>by rw[e,An,An,DUs.length t]
def DUs.get:∀{l:List U}{xs:List V}{i:Nat}{u:U},DUs W B H l xs->l[i]? =some u->∃x,xs[i]? =some x/\DU W B H u x
 | [],_,_,_,_,e=>by simp at e
 |_::_,_,0,_,⟨x,_,e,h,_⟩,q=>by simp at q;subst q e;exact#[x,rfl,h]
 |_::_,_,i+1,_,⟨_,_,e,_,t⟩,q=>by
  obtain⟨y,h1,h2⟩:=DUs.get (i:=i) t (by simpa using q);exact#[y,by rw[e];simpa using h1,h2]
def DUs.getV{l:List U}{xs:List V}{x:V}(h:DUs W B H l xs)(e:xs[i]? =some x):∃u,l[i]? =some u/\DU W B H u x:=by
 have hi:i<l.length:=by rw[h.length];exact(Be.mp e).1
 obtain⟨y,h1,h2⟩:=h.get (Af hi);rw[e]at h1;cases h1;exact#[_,Af hi,h2]
def DUs.app:∀{l m:List U}{xs ys:List V},DUs W B H l xs->DUs W B H m ys->DUs W B H (l++m) (xs++ys)
 | [],_,_,_,h,t=>by rw[show _=[]from h];exact t
 |_::_,_,_,_,⟨x,r,e,h,t⟩,t'=>#[x,_,by rw[e];rfl,h,DUs.app t t']
def DUs.drop:∀{l:List U}{xs:List V}(i:Nat),DUs W B H l xs->DUs W B H (l.drop i) (xs.drop i)
 |_,_,0,h=>h
 | [],_,_+1,h=>by rw[show _=[]from h];rfl
 |_::_,_,i+1,⟨_,_,e,_,t⟩=>by rw[e];exact DUs.drop i t
def DUs.take:∀{l:List U}{xs:List V}(i:Nat),DUs W B H l xs->DUs W B H (l.take i) (xs.take i)
 |_,_,0,_=>rfl
 | [],_,_+1,h=>by rw[show _=[]from h];rfl
 |_::_,_,i+1,⟨x,_,e,h,t⟩=>by rw[e];exact#[x,_,rfl,h,DUs.take i t]
def DUs.one{x:V}(h:DU W B H u x):DUs W B H [u] [x]:=#[x,[],rfl,h,rfl]
end
section
variable {W W' B:Addr->Prop}{H:Hp}
mutual
theorem DU.wm(k:∀p,W p->W' p):∀(u:U){v:V},DU W B H u v->DU W' B H u v
 |.v _,_,h=>h
 |.tp l,_,⟨p,xs,e,nb,hp,t⟩=>#[p,xs,e,nb,hp,DUs.wm k l t]
 |.ls l,_,⟨p,xs,e,nb,hp,t⟩=>#[p,xs,e,nb,hp,DUs.wm k l t]
 |.ob _ _ us,_,⟨p,dx,xs,e,nb,hp,hl,t⟩=>#[p,dx,xs,e,nb,hp,hl,DUs.wm k us t]
 |.dk _ us,_,⟨p,xs,e,nb,hp,hl,t⟩=>#[p,xs,e,nb,hp,hl,DUs.wm k us t]
 |.op o,_,h=>o.wm k h
 |.wl,_,⟨p,e,h⟩=>#[p,e,k p h]
theorem DUs.wm(k:∀p,W p->W' p):∀(l:List U){xs:List V},DUs W B H l xs->DUs W' B H l xs
 | [],_,h=>h
 |u::l,_,⟨x,r,e,h,t⟩=>#[x,r,e,DU.wm k u h,DUs.wm k l t]
end
end
structure Fw(W:Addr->Prop)(H H':Hp):Prop where
 fr:∀b o,¬W b->H b=some o->H' b=some o
 wo:∀p,W p->Wll H' p
def Fw.trans{H H1 H2:Hp}(a:Fw W H H1)(b:Fw W H1 H2):Fw W H H2:=#[λc o n h=>b.fr c o n (a.fr c o n h),b.wo]
def Mt:HO->Prop
 |.lst _=>True
 |.ext _=>True
 |.dK _=>True
 |.tbl _=>True
 |_=>False
structure EB(W B:Addr->Prop)(H:Hp):Prop where
 bl:∀p,B p->∃o,H p=some o/\Mt o
 wb:∀p,W p->B p
 wo:∀p,W p->Wll H p
structure Own where
 φ:(Addr->Prop)->(Addr->Prop)->(Addr->Prop)->Hp->Addr->Prop
 mono:∀{W B B' S H H'}{p:Addr},(∀b o,¬B b->H b=some o->¬B' b/\H' b=some o)->(∀b,S b->H' b=H b)->φ W B S H p->φ W B' S H' p
 wm:∀{W W' B S H}{p:Addr},(∀p,W p->W' p)->φ W B S H p->φ W' B S H p
 th:∀{W B S H}{p:Addr},φ W B S H p->∀b,S b->∃o,H b=some o/\Mt o
def Own.fz(o:Own):Opq:=#[λW B H v=>∃p S,v=.ref p/\(∀b,S b->¬B b)/\o.φ W B S H p,λk ⟨p,S,e,n,h⟩=>#[p,S,e,λb hb=>let⟨x,q,_⟩:=o.th h b hb;(k b x (n b hb) q).1,o.mono k (λb hb=>let⟨x,q,_⟩:=o.th h b hb;(k b x (n b hb) q).2.trans q.symm) h],λk ⟨p,S,e,n,h⟩=>#[p,S,e,n,o.wm k h]]
def bCr:Opq:=#[λ_ _ _ _=>True,λ_ _=>trivial,λ_ _=>trivial]
inductive Sl where
 |no
 |sh (u:U)
 |ow (l:List U)
 |br (l:List U)
 |oo (o:Own)
 |bo (o:Own)
abbrev EV:=List Sl
def Sl.rd:Sl->U
 |.sh u=>u
 |.ow l=> .ls l
 |.br l=> .ls l
 |.no=> .wl
 |_=> .op bCr
def Sl.es:Sl->(U->Prop)->Prop
 |.sh u,R=>R u
 |.ow l,R=>R (.ls l)
 |.oo o,R=>R (.op o.fz)
 |_,_=>False
def lsO(l:List U):Own:=#[λW B S H p=>(∀b,S b↔b=p)/\∃xs,H p=some (.lst xs)/\DUs W B H l xs,λk e ⟨s,xs,h,d⟩=>#[s,xs,(e _ ((s _).mpr rfl)).trans h,DUs.mono k l d],λk ⟨s,xs,h,d⟩=>#[s,xs,h,DUs.wm k l d],λ⟨s,_,h,_⟩ b hb=>by rw[(s b).mp hb];exact#[_,h,trivial]]
def Sl.hold:Sl->Option Own
 |.ow l=>some (lsO l)
 |.br l=>some (lsO l)
 |.oo o=>some o
 |.bo o=>some o
 |_=>none
section
variable (W B:Addr->Prop)(H H':Hp)
def RO:Sl->V->Prop
 |.sh u,y=>DU W B H' u y
 |.ow l,y=>∃p xs,y=.ref p/\H p=none/\H' p=some (.lst xs)/\DUs W (λb=>B b∨b=p) H' l xs
 |.br l,y=>∃p xs,y=.ref p/\¬W p/\H' p=some (.lst xs)/\DUs W B H' l xs
 |.oo o,y=>∃p S,y=.ref p/\(∀b,S b->H b=none)/\o.φ W (λb=>B b∨S b) S H' p
 |.bo o,y=>∃p S,y=.ref p/\(∀b,S b->¬W b)/\o.φ W B S H' p
 |.no,_=>False
def DB(u:U)(y:V):Prop:=DU W B H u y∨∃l p xs,u=.ls l/\y=.ref p/\¬W p/\H p=some (.lst xs)/\DUs W B H l xs
structure EE(ρ:EV)(σ:St):Prop where
 eb:EB W B H
 len:ρ.length=σ.length
 sh:∀(i:Nat)(u:U),ρ[i]? =some (Sl.sh u)->∃v,σ[i]? =some (some v)/\DU W B H u v
 hd:∀(i:Nat)(s:Sl)(o:Own),ρ[i]? =some s->s.hold=some o->∃p S,σ[i]? =some (some (V.ref p))/\(∀b,S b->¬W b)/\o.φ W B S H p
end
def EE.ow{W B:Addr->Prop}{H:Hp}{σ:St}(e:EE W B H ρ σ)(i:Nat)(l:List U)(h:ρ[i]? =some (Sl.ow l)∨ρ[i]? =some (Sl.br l)):∃p xs,σ[i]? =some (some (V.ref p))/\¬W p/\H p=some (.lst xs)/\DUs W B H l xs:=by
 obtain⟨p,S,h1,h2,s,xs,h3⟩:∃p S,σ[i]? =some (some (V.ref p))/\(∀b,S b->¬W b)/\(lsO l).φ W B S H p:=h.elim (λh=>e.hd i _ _ h rfl) λh=>e.hd i _ _ h rfl;exact#[p,xs,h1,h2 p ((s p).mpr rfl),h3]
section
variable {W B:Addr->Prop}{H H' H2:Hp}{ρ:EV}{σ:St}
def EB.keep(e:EB W B H)(f:Fw W H H'):∀b o,¬B b->H b=some o->¬B b/\H' b=some o:=λb o n h=>#[n,f.fr b o (λw=>n (e.wb b w)) h]
def EB.dm(e:EB W B H):∀p,B p->H p≠none:=λp h n=>by
 obtain⟨xs,q,_⟩:=e.bl p h;rw[q]at n;cases n
def EB.to(e:EB W B H)(f:Fw W H H'):EB W B H':=by
 refine#[λp hp=>?_,e.wb,f.wo];by_cases w:W p
 ·obtain⟨x,y,z,q⟩:=f.wo p w;exact#[_,q,trivial]
 ·obtain⟨xs,q,m⟩:=e.bl p hp;exact#[xs,f.fr p _ w q,m]
def EB.refl(e:EB W B H):Fw W H H:=#[λ_ _ _ h=>h,e.wo]
def EB.new(e:EB W B H){o:HO}(n:H p=none):Fw W H (upd H p o):=⟨λb u _ h=>by
 rw[aJ (aV h n)];exact h,λq hq=>by
 obtain⟨x,y,z,h⟩:=e.wo q hq;exact#[x,y,z,by rw[aJ (aV h n)];exact h]⟩
def EB.nw(e:EB W B H)(n:H p=none):¬B p:=λh=>e.dm p h n
def EB.same(e:EB W B H)(s:aOc H H'):Fw W H H':=⟨λb o _ h=>s b o h,λp hp=>by
 obtain⟨x,y,z,h⟩:=e.wo p hp;exact#[x,y,z,s _ _ h]⟩
def Own.to(o:Own)(e:EB W B H)(f:Fw W H H')(n:∀b,S b->¬W b)(h:o.φ W B S H p):o.φ W B S H' p:=o.mono (e.keep f) (λb hb=>let⟨x,q,_⟩:=o.th h b hb;(f.fr b x (n b hb) q).trans q.symm) h
def Own.less(o:Own){S T:Addr->Prop}(h:o.φ W (λb=>B b∨T b) S H p):o.φ W B S H p:=o.mono (λ_ _ n h=>#[λz=>n (.inl z),h]) (λ_ _=>rfl) h
def EE.to(e:EE W B H ρ σ)(f:Fw W H H'):EE W B H' ρ σ:=
 #[e.eb.to f,e.len,λi u h=>let⟨v,h1,h2⟩:=e.sh i u h;#[v,h1,DU.mono (e.eb.keep f) u h2],λi s o h hs=>let⟨p,S,h1,h2,h3⟩:=e.hd i s o h hs;#[p,S,h1,h2,o.to e.eb f h2 h3]]
def Fw.none_(f:Fw W H H')(n1:H' p=none):H p=none:=by
 cases hp:H p with
 |none=>rfl
 |some o=>
  by_cases w:W p
  ·obtain⟨_,_,_,z⟩:=f.wo p w;rw[z]at n1;cases n1
  ·rw[f.fr p o w hp]at n1;cases n1
def RO.back(f:Fw W H H')(h:RO W B H' H2 s v):RO W B H H2 s v:=by
 match s,h with
 |.sh u,h=>exact h
 |.ow l,⟨p,xs,e1,n1,h2,h3⟩=>exact#[p,xs,e1,f.none_ n1,h2,h3]
 |.br l,h=>exact h
 |.oo o,⟨p,S,e1,n1,h⟩=>exact#[p,S,e1,λb hb=>f.none_ (n1 b hb),h]
 |.bo o,h=>exact h
def DB.to(h:DB W B H u v)(e:EB W B H)(f:Fw W H H'):DB W B H' u v:=by
 rcases h with h|⟨l,p,xs,e1,e2,w,h1,h2⟩
 ·exact .inl (DU.mono (e.keep f) u h)
 ·exact .inr #[l,p,xs,e1,e2,w,f.fr _ _ w h1,DUs.mono (e.keep f) l h2]
def DUs.less{l:List U}{xs:List V}(h:DUs W (λb=>B b∨b=p) H l xs):DUs W B H l xs:=DUs.mono (λ_ _ n e=>#[λz=>n (.inl z),e]) l h
def RO.db(e:EB W B H)(h:RO W B H H' s v):DB W B H' s.rd v:=by
 match s,h with
 |.sh u,h=>exact .inl h
 |.ow l,⟨p,xs,e1,h1,h2,h3⟩=>exact .inl #[p,xs,e1,e.nw h1,h2,h3.less]
 |.br l,⟨p,xs,e1,h1,h2,h3⟩=>exact .inr #[l,p,xs,rfl,e1,h1,h2,h3]
 |.oo _,_=>exact .inl trivial
 |.bo _,_=>exact .inl trivial
def RO.du{R:U->Prop}(e:EB W B H)(h:RO W B H H' s v)(r:s.es R):∃u,R u/\DU W B H' u v:=by
 match s,h,r with
 |.sh u,h,r=>exact#[u,r,h]
 |.ow l,⟨p,xs,e1,h1,h2,h3⟩,r=>exact#[.ls l,r,p,xs,e1,e.nw h1,h2,h3.less]
 |.oo o,⟨p,S,e1,h1,h2⟩,r=>exact#[.op o.fz,r,p,S,e1,λb hb=>e.nw (h1 b hb),o.less h2]
def DB.int{i:Int}(h:DB W B H (.n i) y):y=.int i:=by
 rcases h with h|⟨l,p,xs,e1,_⟩
 ·exact h.1
 ·cases e1
def DB.fl{x y:V}(h:DB W B H (.v x) y):y=x/\sO x=true:=by
 rcases h with h|⟨l,p,xs,e1,_⟩
 ·exact h
 ·cases e1
def DB.tp{l:List U}(h:DB W B H (.tp l) y):∃p xs,y=.ref p/\¬B p/\H p=some (.tup xs)/\DUs W B H l xs:=by
 rcases h with h|⟨l,p,xs,e1,_⟩
 ·exact h
 ·cases e1
def DB.ob(h:DB W B H (.ob C ns us) y):∃p dx xs,y=.ref p/\¬B p/\H p=some (.ins C dx (ns.zip xs))/\ns.length=xs.length/\DUs W B H us xs:=by
 rcases h with h|⟨l,p,xs,e1,_⟩
 ·exact h
 ·cases e1
def DB.dk(h:DB W B H (.dk ns us) y):∃p xs,y=.ref p/\¬B p/\H p=some (.dK ((ns.map Cm).zip xs))/\ns.length=xs.length/\DUs W B H us xs:=by
 rcases h with h|⟨l,p,xs,e1,_⟩
 ·exact h
 ·cases e1
def DB.op{o:Opq}(h:DB W B H (.op o) y):o.φ W B H y:=by
 rcases h with h|⟨l,p,xs,e1,_⟩
 ·exact h
 ·cases e1
def DB.ls{l:List U}(e:EB W B H)(h:DB W B H (.ls l) y):∃p xs,y=.ref p/\¬W p/\H p=some (.lst xs)/\DUs W B H l xs:=by
 rcases h with ⟨p,xs,e1,nb,h1,h2⟩|⟨l,p,xs,e1,e2,w,h1,h2⟩
 ·exact#[p,xs,e1,λw=>nb (e.wb p w),h1,h2]
 ·cases e1;exact#[p,xs,e2,w,h1,h2]
end
abbrev TV:=EV->(Sl->Prop)->Prop
def VT(t:TE)(F:TV):Prop:=∀{W B:Addr->Prop}{ρ:EV}{σ:St}{H:Hp}{R:Sl->Prop}{Q:VK},EE W B H ρ σ->F ρ R->(∀s v H',R s->Fw W H H'->RO W B H H' s v->Q v H')->t σ H Q
def VE(X:Cx)(e:Bu)(F:TV):Prop:=∃t,PE X e t/\VT t F
abbrev TVc:=EV->(Bool->Prop)->Prop
def VTc(t:TT)(F:TVc):Prop:=∀{W B:Addr->Prop}{ρ:EV}{σ:St}{H:Hp}{R:Bool->Prop}{Q:Bool->Hp->Prop},EE W B H ρ σ->F ρ R->(∀c H',R c->Fw W H H'->Q c H')->t σ H Q
def VC(X:Cx)(e:Bu)(F:TVc):Prop:=∃t,PT X e t/\VTc t F
def VW(X:Cx)(e:Bu)(F:TVc):Prop:=∃t,PW X e t/\VTc t F
abbrev TVa:=EV->(List U->Prop)->Prop
def VTa(n:Nat)(t:TA)(F:TVa):Prop:=∀{W B:Addr->Prop}{ρ:EV}{σ:St}{H:Hp}{R:List U->Prop}{Q:List V->Hp->Prop},EE W B H ρ σ->F ρ R->(∀us vs H',R us->us.length=n->Fw W H H'->DUs W B H' us vs->Q vs H')->t σ H Q
def VA(X:Cx)(es:List Bu)(F:TVa):Prop:=∃t,PA X es t/\VTa es.length t F
def DBs(W B:Addr->Prop)(H:Hp):List U->List V->Prop
 | [],xs=>xs=[]
 |u::l,xs=>∃x r,xs=x::r/\DB W B H u x/\DBs W B H l r
def DBs.to{W B:Addr->Prop}{H H':Hp}(e:EB W B H)(f:Fw W H H'):∀{us:List U}{vs:List V},DBs W B H us vs->DBs W B H' us vs
 | [],_,h=>h
 |_::_,_,⟨x,r,e1,h,t⟩=>#[x,r,e1,h.to e f,DBs.to e f t]
def VTb(t:TA)(F:TVa):Prop:=∀{W B:Addr->Prop}{ρ:EV}{σ:St}{H:Hp}{R:List U->Prop}{Q:List V->Hp->Prop},EE W B H ρ σ->F ρ R->(∀us vs H',R us->Fw W H H'->DBs W B H' us vs->Q vs H')->t σ H Q
def VB(X:Cx)(es:List Bu)(F:TVa):Prop:=∃t,PA X es t/\VTb t F
def O2(r:R2)(g:U->U->(Sl->Prop)->Prop):Prop:=∀{W B:Addr->Prop}{H:Hp}{u v:U}{x y:V}{R:Sl->Prop}{Q:VK},EB W B H->DB W B H u x->DB W B H v y->g u v R->(∀s z H',R s->Fw W H H'->RO W B H H' s z->Q z H')->r x y H Q
def CB(r:List V->Hp->VK->Prop)(g:List U->(Sl->Prop)->Prop):Prop:=∀{W B:Addr->Prop}{H:Hp}{us:List U}{vs:List V}{R:Sl->Prop}{Q:VK},EB W B H->DBs W B H us vs->g us R->(∀s z H',R s->Fw W H H'->RO W B H H' s z->Q z H')->r vs H Q
def aC2(i:Nat):TV:=λρ R=>match (ρ[i]? :Option Sl)with
 |some (.sh u)=>R (.sh u)
 |some (.ow l)=>R (.br l)
 |some (.br l)=>R (.br l)
 |some (.oo o)=>R (.bo o)
 |some (.bo o)=>R (.bo o)
 |_=>False
def vC(u:U):TV:=λ_ R=>R (.sh u)
def vOp(g:U->U->(Sl->Prop)->Prop)(a b:TV):TV:=λρ R=>a ρ λs=>b ρ λs'=>g s.rd s'.rd R
def uJ(F:TV):TVc:=λρ R=>F ρ λs=>match s.rd with
 |.v (.bl c)=>R c
 |_=>False
def bDh(a b:TVc):TVc:=λρ R=>a ρ λc=>(c=true->b ρ R)/\(c=false->R false)
def vOr(a b:TVc):TVc:=λρ R=>a ρ λc=>(c=true->R true)/\(c=false->b ρ R)
def bB5(a:TVc):TVc:=λρ R=>a ρ λc=>R (!c)
def aGa:TVa:=λ_ R=>R []
def sW(a:TV)(b:TVa):TVa:=λρ R=>a ρ λs=>s.es λu=>b ρ λus=>R (u::us)
def bBs(a:TV)(b:TVa):TVa:=λρ R=>a ρ λs=>b ρ λus=>R (s.rd::us)
def bCc(a:TVa):TV:=λρ R=>a ρ λus=>R (.sh (.tp us))
def bDq(a:TVa):TV:=λρ R=>a ρ λus=>R (.ow us)
def aR3(F:List U->(Sl->Prop)->Prop)(a:TVa):TV:=λρ R=>a ρ λus=>F us R
inductive aZo(F:List U->(Sl->Prop)->Prop)(vs:List V)(H:Hp)(Q:VK)(z3_:XK):Prop
 |mk (W B us R:_) (q0_:EB W B H) (q1_:DUs W B H us vs) (q2_:F us R) (q3_:∀s v H',R s->Fw W H H'->RO W B H H' s v->Q v H'):aZo F vs H Q z3_
def spV(F:List U->(Sl->Prop)->Prop):Sp:=λvs H Q z3_=>aZo F vs H Q z3_
def aA(i:Nat){x:Str}(hN:X.N[i]? =some x:=by rfl)(hv:Vis X.env.scope x:=by trivial)(hd:ND x:=by decide)
  (hcd:NC x:=by decide):VE X (.Name x pos) (aC2 i):=⟨_,fZ hN hv hd hcd,λ{W B ρ σ H R Q} e h q=>by
 unfold aC2 at h;split at h
 ·rename_i u hu;obtain⟨v,h1,h2⟩:=e.sh i u hu;exact#[v,h1,q _ _ _ h e.eb.refl h2]
 ·rename_i l hu;obtain⟨p,xs,h1,h2,h3,h4⟩:=e.ow i l (.inl hu);exact#[_,h1,q _ _ _ h e.eb.refl #[p,xs,rfl,h2,h3,h4]]
 ·rename_i l hu;obtain⟨p,xs,h1,h2,h3,h4⟩:=e.ow i l (.inr hu);exact#[_,h1,q _ _ _ h e.eb.refl #[p,xs,rfl,h2,h3,h4]]
 ·rename_i o hu;obtain⟨p,S,h1,h2,h3⟩:=e.hd i _ o hu rfl;exact#[_,h1,q _ _ _ h e.eb.refl #[p,S,rfl,h2,h3]]
 ·rename_i o hu;obtain⟨p,S,h1,h2,h3⟩:=e.hd i _ o hu rfl;exact#[_,h1,q _ _ _ h e.eb.refl #[p,S,rfl,h2,h3]]
 ·exact h.elim⟩
def aSg{x:V}(f:sO x=true):VT (tC x) (vC (.v x)):=λe h q=>q _ _ _ h e.eb.refl #[rfl,f]
def aH{i j pos}:VE X (.Constant (.int i) j pos) (vC (.n i)):=#[_,dG,aSg rfl]
def bI{x j pos}:VE X (.Constant (.str x) j pos) (vC (.s x)):=#[_,tY,aSg rfl]
def aC6{b j pos}:VE X (.Constant (.bool b) j pos) (vC (.b b)):=#[_,bAt,aSg rfl]
def wL{j pos}:VE X (.Constant .none j pos) (vC .no):=#[_,aXr,aSg rfl]
def aLy{r:R2}{g:U->U->(Sl->Prop)->Prop}{ta tb:TE}{F G:TV}(o:O2 r g)(ha:VT ta F)(hb:VT tb G):VT (tOp r ta tb) (vOp g F G):=λe h q=>by
 refine ha e h λs v H1 h1 f1 r1=>?_;have e1:=e.to f1;refine hb e1 h1 λs' v' H2 h2 f2 r2=>?_;refine o (e1.to f2).eb ((r1.db e.eb).to e1.eb f2) (r2.db e1.eb) h2 λs3 z H3 h3 f3 r3=>?_;exact q _ _ _ h3 ((f1.trans f2).trans f3) (r3.back (f1.trans f2))
def aW{op:Operator}{r:R2}{g:U->U->(Sl->Prop)->Prop}{a b:Bu}{F G:TV}(ho:OpR X (Gw op) r)(o:O2 r g)(ha:VE X a F)(hb:VE X b G):VE X (.BinOp a op b pos) (vOp g F G):=
 let⟨_,p,f⟩:=ha;let⟨_,p',f'⟩:=hb;#[_,gW ho p p',aLy o f f']
def bA{r:R2}{g:U->U->(Sl->Prop)->Prop}{a b:Bu}{F G:TV}(ho:IxR X r)(o:O2 r g)(ha:VE X a F)(hb:VE X b G)(hs:aKp b:=by exactλ_ _=>rfl):VE X (.Subscript a b pos) (vOp g F G):=
 let⟨_,p,f⟩:=ha;let⟨_,p',f'⟩:=hb;#[_,aAf ho p p' hs,aLy o f f']
def zU{op:Rw}{r:R2}{g:U->U->(Sl->Prop)->Prop}{a b:Bu}{F G:TV}(ho:OpR X (Ee op) r)(o:O2 r g)(ha:VE X a F)(hb:VE X b G)(hm:Gh op b=false:=by first|exact aCm _|rfl):VE X (.Compare a [op] [b] pos) (vOp g F G):=
 let⟨_,p,f⟩:=ha;let⟨_,p',f'⟩:=hb;#[_,aTx ho p p' hm,aLy o f f']
def aBm{F:TV}(h:VT t F):VTc (aRy t) (uJ F):=λe h1 q=>h e h1 λs v H1 h2 f r=>by
 have d:=r.db e.eb;revert h2 d;generalize s.rd=u;intro h2 d;split at h2
 ·exact#[_,d.fl.1,q _ _ h2 f]
 ·exact h2.elim
def bH{op:Rw}{r:R2}{g:U->U->(Sl->Prop)->Prop}{a b:Bu}{F G:TV}(ho:OpR X (Ee op) r)(o:O2 r g)(ha:VE X a F)(hb:VE X b G)(hm:Gh op b=false:=by first|exact aCm _|rfl):VC X (.Compare a [op] [b] pos) (uJ (vOp g F G)):=
 let⟨_,p,f⟩:=ha;let⟨_,p',f'⟩:=hb;#[_,aBg ho p p' hm,aBm (aLy o f f')]
def gB{a:Bu}{F:TV}(ha:VE X a F)(he:∀whole,Wv a X.env whole=(do let v<-whole;Mg a.pos;holding [v] (truthy v)):=by intro _;rfl):VC X a (uJ F):=
 let⟨_,p,f⟩:=ha;#[_,aXz p he,aBm f]
def jC{a:Bu}{F:TVc}(ha:VC X a F):VC X (.UnaryOp .Not a pos) (bB5 F):=let⟨_,p,f⟩:=ha;#[_,aXy p,λe h q=>f e h λc H1 h1 f1=>q _ _ h1 f1]
def yD{a:Bu}{F:TVc}(ha:VW X a F):VC X a F:=let⟨_,p,f⟩:=ha;#[_,p.pt,f]
def sG{a:Bu}{F:TVc}(ha:VC X a F):VW X (.BoolOp .Or [a] pos) F:=let⟨_,p,f⟩:=ha;#[_,aX1 p,f]
def yC{a b:Bu}{rest:List Bu}{F G:TVc}(ha:VC X a F)(hb:VW X (.BoolOp .Or (b::rest) pos) G):VW X (.BoolOp .Or (a::b::rest) pos) (vOr F G):=
 let⟨_,p,f⟩:=ha;let⟨_,p',f'⟩:=hb;⟨_,bA2 p p',λe h q=>f e h λc H1 h1 f1=>by
  cases c with
  |true=>exact aMk (q _ _ (h1.1 rfl) f1)
  |false=>exact aCc (f' (e.to f1) (h1.2 rfl) λc H2 h2 f2=>q _ _ h2 (f1.trans f2))⟩
def vB(F:TVc):TV:=λρ R=>F ρ λc=>R (.sh (.b c))
def aY7{F:TV}{ρ:EV}{σ:St}{W B:Addr->Prop}{H:Hp}(f:VT t F)(e:EE W B H ρ σ)(h:uJ F ρ R)(q:∀c H1,R c->Fw W H H1->Q (.bl c) H1):t σ H Q:=f e h λs v H1 h1 f1 r=>by
 have d:=r.db e.eb;revert h1 d;generalize s.rd=u;intro h2 d;split at h2
 ·rw[d.fl.1];exact q _ _ h2 f1
 ·exact h2.elim
def aGb{a b:Bu}{rest:List Bu}{F G:TV}(ha:VE X a F)(hb:VE X (.BoolOp .And (b::rest) pos) G):VE X (.BoolOp .And (a::b::rest) pos) (vB (bDh (uJ F) (uJ G))):=
 let⟨ta,p,f⟩:=ha;let⟨_,p',f'⟩:=hb;⟨_,aXm p p',λe h q=>show ta _ _ _ from aY7 f e h λc H1 h1 f1=>by
  refine#[c,rfl,?_];cases c with
  |true=>exact aMk (aY7 f' (e.to f1) (h1.1 rfl) λc H2 h2 f2=>q _ _ _ h2 (f1.trans f2) #[rfl,rfl])
  |false=>exact aCc (q _ _ _ (h1.2 rfl) f1 #[rfl,rfl])⟩
def aY1{a:Bu}{F:TV}(ha:VE X a F):VE X (.UnaryOp .Not a pos) (vB (bB5 (uJ F))):=
 let⟨ta,p,f⟩:=ha;#[_,aXs p,λe h q=>show ta _ _ _ from aY7 f e h λc H1 h1 f1=>#[c,rfl,q _ _ _ h1 f1 #[rfl,rfl]]]
def aD:VA X [] aGa:=#[_,iZ,λe h q=>q _ _ _ h rfl e.eb.refl rfl]
def aB{a:Bu}{es:List Bu}{F:TV}{G:TVa}(ha:VE X a F)(hb:VA X es G)(hs:SE X a es:=by rfl):VA X (a::es) (sW F G):=
 let⟨_,p,f⟩:=ha;let⟨_,p',f'⟩:=hb;⟨_,dW p p' hs,λe h q=>f e h λs v H1 h1 f1 r1=>by
  obtain⟨u,h1,d⟩:=r1.du e.eb h1;exact f' (e.to f1) h1 λus vs H2 h2 l2 f2 d2=>q _ _ _ h2 (by rw[An,l2];rfl) (f1.trans f2) #[v,vs,rfl,DU.mono ((e.to f1).eb.keep f2) u d,d2]⟩
def aY:VB X [] aGa:=#[_,iZ,λe h q=>q _ _ _ h e.eb.refl rfl]
def aP{a:Bu}{es:List Bu}{F:TV}{G:TVa}(ha:VE X a F)(hb:VB X es G)(hs:SE X a es:=by rfl):VB X (a::es) (bBs F G):=
 let⟨_,p,f⟩:=ha;let⟨_,p',f'⟩:=hb;⟨_,dW p p' hs,λe h q=>f e h λs v H1 h1 f1 r1=>
  f' (e.to f1) h1 λus vs H2 h2 f2 d2=>q _ _ _ h2 (f1.trans f2) #[v,vs,rfl,(r1.db e.eb).to (e.to f1).eb f2,d2]⟩
def bV{es:List Bu}{x1}{F:TVa}(h:VA X es F)(hl:es.length<=100:=by decide):VE X (.Tuple es x1 pos) (bCc F):=
 let⟨_,p,f⟩:=h;⟨_,aXu p,λe h q=>f e h λus vs H1 h1 l1 f1 d=>⟨by
  have:=d.length;have:(100:Nat)<=sizeLine:=by decide
  lia,λp n=>by
  have e1:=(e.to f1).eb;have f2:=e1.new (o:=.tup vs) n;exact q _ _ _ h1 (f1.trans f2) #[p,vs,rfl,e1.nw n,aL,DUs.mono (e1.keep f2) us d]⟩⟩
def cR{es:List Bu}{F:TVa}(h:VA X es F)(hl:es.length<=100:=by decide):VE X (.List es pos) (bDq F):=
 let⟨_,p,f⟩:=h;⟨_,aXq p,λ{W B ρ σ H R Q} e h q=>f e h λus vs H1 h1 l1 f1 d=>⟨by
  have:=d.length;have:(100:Nat)<=sizeLine:=by decide
  lia,λp n=>by
  have e1:=(e.to f1).eb;have f2:=e1.new (o:=.lst vs) n;exact q _ _ _ h1 (f1.trans f2) (RO.back (s:=.ow us) f1 #[p,vs,rfl,n,aL,DUs.mono (λb o nb h=>#[λz=>z.elim nb (aV h n),(e1.keep f2 b o nb h).2]) us d])⟩⟩
def aM{x:Str}{F:List U->(Sl->Prop)->Prop}{a:Bu}{es:List Bu}{G:TVa}{p pos:Pos}(C:Cal X.prog X.w X.K X.mg X.base CX0 k x ps (spV F))(hr:cV k X.A)(hg:Gl X x)
  (ha:VA X (a::es) G) (hdb:ND x:=by decide) (he:SE X a es:=by rfl) (hpl:BT X pos es:=by rfl):
  VE X (.Call (.Name x p) (a::es) [] pos) (aR3 F G):=
 let⟨_,p,f⟩:=ha;⟨_,aXn C hr hg aCo p hdb he hpl,λe h q=>f e h λus vs H1 h1 l1 f1 d=>by
  refine#[_,_,us,_,(e.to f1).eb,(by rw[Bi];exact d),h1,λs v H2 h2 f2 r2=>q _ _ _ h2 (f1.trans f2) (r2.back f1)]⟩
structure Cfl(K:Ac)(C:Addr)(fs:List Str):Prop where
 cl:Cls K C
 na:∀f∈fs,nG K C f
def aDk(f:Str):List Str->List U->(Sl->Prop)->Prop
 |n::ns,u::us,R=>(n=f/\R (.sh u))∨(n≠f/\aDk f ns us R)
 |_,_,_=>False
theorem aK3{W B:Addr->Prop}{H:Hp}{f:Str}{R:Sl->Prop}:∀{ns:List Str}{us:List U}{xs:List V},DUs W B H us xs->aDk f ns us R->∃u v,R (.sh u)/\DU W B H u v/\(ns.zip xs).lookup f=some v
 |_::_,u::us,_,⟨x,r,e,h,t⟩,q=>by
  subst e;rcases q with ⟨rfl,q⟩|⟨n,q⟩
  ·exact#[u,x,q,h,by simp[Bk]]
  ·obtain⟨u',v,h1,h2,h3⟩:=aK3 t q;refine#[u',v,h1,h2,?_];rw[Ic,Bk,show(f==_)=false from beq_eq_false_iff_ne.mpr (Cq n)];exact h3
def vFl(C:Addr)(a:TV)(f:Str):TV:=λρ R=>a ρ λs=>match s.rd with
 |.ob C' ns us=>C'=C/\aDk f ns us R
 |_=>False
def bD{fs:List Str}{a:Bu}{f:Str}{F:TV}(c:Cfl X.K C fs)(ha:VE X a F)(hf:f∈fs:=by decide)(hb:Gi a f X.env (eval a X.env)=eval a X.env:=by rfl):VE X (.Attribute a f pos) (vFl C F f):=
 let⟨_,p,g⟩:=ha;⟨_,aXp p hb,λe h q=>g e h λs v H1 h1 f1 r1=>by
  have d:=r1.db e.eb;revert h1 d;generalize s.rd=u;intro h1 d;split at h1
  ·obtain⟨rfl,h1⟩:=h1;obtain⟨p,dx,xs,rfl,_,hp,hl,ds⟩:=d.ob;obtain⟨u,v,h2,h3,h4⟩:=aK3 ds h1;exact#[p,_,dx,_,v,rfl,hp,c.cl,c.na f hf,h4,q _ _ _ h2 f1 h3]
  ·exact h1.elim⟩
def mOb(Cs:Addr->Prop)(m:Str)(F:Addr->List U->(Sl->Prop)->Prop)(G:TVa)(ρ:EV)(R:Sl->Prop):U->Prop
 |.ob C ns us=>Cs C/\ns.elem m=false/\G ρ λvs=>F C (.ob C ns us::vs) R
 |_=>False
def aWg(Cs:Addr->Prop)(m:Str)(F:Addr->List U->(Sl->Prop)->Prop)(a:TV)(G:TVa):TV:=λρ R=>a ρ λs=>s.es (mOb Cs m F G ρ R)
theorem aGh:∀{ns:List Str}{xs:List V},ns.elem m=false->(ns.zip xs).lookup m=none
 | [],_,_=>by simp
 |_::_,[],_=>by simp
 |n::ns,x::xs,h=>by
  simp only[List.elem_cons]at h;rw[Ic,Bk];cases e:m==n with
  |true=>rw[e]at h;cases h
  |false=>
   rw[e]at h;exact aGh h
def cZ{m:Str}{F:Addr->List U->(Sl->Prop)->Prop}{o a:Bu}{es:List Bu}{apos pos:Pos}{Fo:TV}{G:TVa}{pl:Sem Bool}(ho:VE X o Fo)(D:Dis X.prog X.w X.K X.mg X.base CX0 k Cs m ps λC=>spV (F C))(hr:cV k X.A)(ha:VA X (a::es) G)
  (hst:SE X a es:=by rfl) (hpl:BT X pos es:=by rfl)
  (ht:eval (.Call (.Attribute o m apos) (a::es) [] pos) X.env=(do
   let ov<-eval o X.env
   Mg apos.atName
   let(f,first)<-holding [ov] (Ls ov m pl)
   Qu pos f first (Im pos (Bz (a::es) X.env)) (Ft pos (Cz [] X.env))):=by rfl):
  VE X (.Call (.Attribute o m apos) (a::es) [] pos) (aWg Cs m F Fo G):=
 let⟨_,p,g⟩:=ho;let⟨_,p',g'⟩:=ha;⟨_,aQ5 p D hr aCo p' hst hpl ht,λe h q=>g e h λs v H1 h1 f1 r1=>by
  obtain⟨u,h1,d⟩:=r1.du e.eb h1;match u,h1,d with
  |.ob C ns us,⟨hC,hm,h1⟩,d=>
   obtain⟨p,dx,xs,rfl,nb,hp,hl,ds⟩:=id d;refine#[p,C,dx,_,rfl,hp,hC,aGh hm,g' (e.to f1) h1 λvs ws H2 h2 _ f2 d2=>?_];have e2:=(e.to f1).eb;exact#[_,_,.ob C ns us::vs,_,e2.to f2,#[_,_,rfl,DU.mono (e2.keep f2) _ d,d2],h2,λs v H3 h3 f3 r3=>q _ _ _ h3 ((f1.trans f2).trans f3) (r3.back (f1.trans f2))]⟩
def bZ{m:Str}{F:Addr->List U->(Sl->Prop)->Prop}{o:Bu}{apos pos:Pos}{Fo:TV}{pl:Sem Bool}(ho:VE X o Fo)(D:Dis X.prog X.w X.K X.mg X.base CX0 k Cs m ps λC=>spV (F C))(hr:cV k X.A)
  (ht:eval (.Call (.Attribute o m apos) [] [] pos) X.env=(do
   let ov<-eval o X.env
   Mg apos.atName
   let(f,first)<-holding [ov] (Ls ov m pl)
   Qu pos f first (Im pos (Bz [] X.env)) (Ft pos (Cz [] X.env))):=by rfl):
  VE X (.Call (.Attribute o m apos) [] [] pos) (aWg Cs m F Fo aGa):=
 let⟨_,p,g⟩:=ho;⟨_,aNb p D hr aCo ht,λe h q=>g e h λs v H1 h1 f1 r1=>by
  obtain⟨u,h1,d⟩:=r1.du e.eb h1;match u,h1,d with
  |.ob C ns us,⟨hC,hm,h1⟩,d=>
   obtain⟨p,dx,xs,rfl,nb,hp,hl,ds⟩:=id d;exact#[p,C,dx,_,rfl,hp,hC,aGh hm,_,_,[.ob C ns us],_,(e.to f1).eb,#[_,_,rfl,d,rfl],h1,λs v H3 h3 f3 r3=>q _ _ _ h3 (f1.trans f3) (r3.back f1)]⟩
def gI(f:Int->Int->V):U->U->(Sl->Prop)->Prop
 |.v (.int i),.v (.int j),R=>R (.sh (.v (f i j)))
 |_,_,_=>False
def gIC(C:Int->Int->Prop)(f:Int->Int->V):U->U->(Sl->Prop)->Prop
 |.v (.int i),.v (.int j),R=>C i j/\R (.sh (.v (f i j)))
 |_,_,_=>False
def cU(hf:∀i j,sO (f i j)=true:=by intros;rfl):O2 (rI0 f) (gI f):=λ{W B H u v x y R Q} e d1 d2 h q=>by
 unfold gI at h;split at h
 ·rename_i i j;exact#[i,j,d1.int,d2.int,q _ _ _ h e.refl #[rfl,hf i j]]
 ·exact h.elim
def lQ{C:Int->Int->Prop}(hf:∀i j,sO (f i j)=true:=by intros;rfl):O2 (rI C f) (gIC C f):=λ{W B H u v x y R Q} e d1 d2 h q=>by
 unfold gIC at h;split at h
 ·rename_i i j;exact#[i,j,d1.int,d2.int,h.1,q _ _ _ h.2 e.refl #[rfl,hf i j]]
 ·exact h.elim
def aSo{α β:Type}{xs:List α}{ys:List β}{i:Int}{x:α}(e:xs.length=ys.length)(h:atI xs i=some x):∃(j:Nat)(y:β),xs[j]? =some x/\ys[j]? =some y/\atI ys i=some y:=by
 unfold atI at h⊢;rw[<-e];cases q:ixN xs.length i with
 |none=>rw[q]at h;cases h
 |some j=>
  rw[q]at h;have h':xs[j]? =some x:=h;have hj:=(Be.mp h').1;exact#[j,_,h',Af (by rw[<-e];exact hj),Af (by rw[<-e];exact hj)]
def DUs.atI{W B:Addr->Prop}{H:Hp}{l:List U}{xs:List V}{i:Int}{u:U}(d:DUs W B H l xs)(h:atI l i=some u):∃x,L2.atI xs i=some x/\DU W B H u x:=by
 obtain⟨j,x,h1,h2,h3⟩:=aSo d.length h;obtain⟨y,h4,h5⟩:=d.get h1;rw[h2]at h4;cases h4;exact#[x,h3,h5]
def aZ4:U->U->(Sl->Prop)->Prop
 |.ls l,.v (.int i),R=>∃u,atI l i=some u/\R (.sh u)
 |_,_,_=>False
def aZ5:U->U->(Sl->Prop)->Prop
 |.tp l,.v (.int i),R=>∃u,atI l i=some u/\R (.sh u)
 |_,_,_=>False
def aXf{K:Ac}:O2 (aX5 K) aZ4:=λ{W B H u v x y R Q} e d1 d2 h q=>by
 unfold aZ4 at h;split at h
 ·obtain⟨w,h1,h2⟩:=h;obtain⟨p,xs,rfl,_,hp,ds⟩:=d1.ls e;obtain⟨z,h3,h4⟩:=ds.atI h1;exact#[p,xs,_,z,rfl,d2.int,SqL.of hp,h3,q _ _ _ h2 e.refl h4]
 ·exact h.elim
def aXg{K:Ac}:O2 (aX6 K) aZ5:=λ{W B H u v x y R Q} e d1 d2 h q=>by
 unfold aZ5 at h;split at h
 ·obtain⟨w,h1,h2⟩:=h;obtain⟨p,xs,rfl,_,hp,ds⟩:=d1.tp;obtain⟨z,h3,h4⟩:=ds.atI h1;exact#[p,xs,_,z,rfl,d2.int,SqT.of hp,h3,q _ _ _ h2 e.refl h4]
 ·exact h.elim
mutual
def U.d:U->D
 |.v x=> .fl x
 |.tp l=> .tp (U.ds l)
 |.ls l=> .ls (U.ds l)
 |_=> .fl .non
def U.ds:List U->List D
 | []=>[]
 |u::l=>U.d u::U.ds l
end
mutual
def U.dt:Nat->U->Prop
 |_,.v _=>True
 |n+1,.tp l=>U.dts n l
 |n+1,.ls l=>U.dts n l
 |_,_=>False
def U.dts:Nat->List U->Prop
 |_,[]=>True
 |n,u::l=>U.dt n u/\U.dts n l
end
section
variable {W B:Addr->Prop}{H:Hp}{K:Ac}
mutual
theorem DU.den:∀(n:Nat)(u:U){v:V},u.dt n->DU W B H u v->Den K H u.d v
 |_,.v _,_,_,h=>h
 |n+1,.tp l,_,t,⟨p,xs,e,_,hp,ds⟩=>#[p,xs,e,SqT.of hp,DUs.dens n l t ds]
 |n+1,.ls l,_,t,⟨p,xs,e,_,hp,ds⟩=>#[p,xs,e,SqL.of hp,DUs.dens n l t ds]
theorem DUs.dens:∀(n:Nat)(l:List U){xs:List V},U.dts n l->DUs W B H l xs->vM K H (U.ds l) xs
 |_,[],_,_,h=>h
 |n,u::l,_,⟨t,t'⟩,⟨x,r,e,h,h'⟩=>#[x,r,e,DU.den n u t h,DUs.dens n l t' h']
end
mutual
theorem U.dep:∀(n:Nat)(u:U),u.dt n->u.d.dep<=n
 |_,.v _,_=>Bt _
 |n+1,.tp l,t=>Hu (U.deps n l t)
 |n+1,.ls l,t=>Hu (U.deps n l t)
theorem U.deps:∀(n:Nat)(l:List U),U.dts n l->D.deps (U.ds l)<=n
 |_,[],_=>Bt _
 |n,u::l,⟨t,t'⟩=>Nat.max_le.mpr #[U.dep n u t,U.deps n l t']
end
def DB.den(t:u.dt n)(h:DB W B H u v):Den K H u.d v:=by
 rcases h with h|⟨l,p,xs,rfl,rfl,w,h1,h2⟩
 ·exact DU.den n u t h
 ·match n,t with
  |n+1,t=>exact#[p,xs,rfl,SqL.of h1,DUs.dens n l t h2]
end
def U.eq(u v:U):Bool:=u.d.eq v.d
def gEq(neg:Bool):U->U->(Sl->Prop)->Prop:=λu v R=>u.dt 40/\v.dt 40/\R (.sh (.b (if neg then !u.eq v else u.eq v)))
def cY{K:Ac}{neg:Bool}:O2 (aX3 K neg) (gEq neg):=λ{W B H u v x y R Q} e d1 d2 ⟨t1,t2,h⟩ q=>by
 have h1:=U.dep 40 u t1;have h2:=U.dep 40 v t2;exact#[u.d,v.d,d1.den t1,d2.den t2,∅,q _ _ _ h e.refl #[rfl,rfl]]
structure nJ where
 nx:EV->Prop
 rt:Sl->Prop
 bk:EV->Prop:=λ_=>False
 ct:EV->Prop:=λ_=>False
 mr:EV->U->Prop:=λ_ _=>False
abbrev TVS:=nJ->EV->Prop
def Bx(B:Addr->Prop)(A:Nat->Addr->Prop)(p:Addr):Prop:=B p∨∃i,A i p
def Sl.brd:Sl->Bool
 |.br _=>true
 |.bo _=>true
 |_=>false
structure EO(W B:Addr->Prop)(H0:Hp)(A:Nat->Addr->Prop)(ρ:EV)(σ:St)(H:Hp):Prop where
 eb:EB W B H0
 fw:Fw W H0 H
 len:ρ.length=σ.length
 an:∀i p,A i p->H0 p=none
 aw:∀i p,A i p->∃o,H p=some o/\Mt o
 inj:∀i j p,A i p->A j p->i=j
 sh:∀(i:Nat)(u:U),ρ[i]? =some (Sl.sh u)->∃v,σ[i]? =some (some v)/\DU W (Bx B A) H u v
 hd:∀(i:Nat)(s:Sl)(w:Own),ρ[i]? =some s->s.hold=some w->∃p,σ[i]? =some (some (V.ref p))/\w.φ W (Bx B A) (A i) H p
 nb:∀(i:Nat)(s:Sl),ρ[i]? =some s->s.brd=false
def EO.ow{W B:Addr->Prop}{H0 H:Hp}{A:Nat->Addr->Prop}{σ:St}(o:EO W B H0 A ρ σ H)(i:Nat)(l:List U)(h:ρ[i]? =some (Sl.ow l)):∃p xs,σ[i]? =some (some (V.ref p))/\(∀b,A i b↔b=p)/\H p=some (.lst xs)/\DUs W (Bx B A) H l xs:=let⟨p,h1,h2,xs,h3⟩:=o.hd i _ _ h rfl;#[p,xs,h1,h2,h3]
structure aZj(W B:Addr->Prop)(H0:Hp)(E:nJ)(D:Ends):Prop where
 nx:∀{A ρ σ H},EO W B H0 A ρ σ H->E.nx ρ->D.nx σ H
 bk:∀{A ρ σ H},EO W B H0 A ρ σ H->E.bk ρ->D.bk σ H
 ct:∀{A ρ σ H},EO W B H0 A ρ σ H->E.ct ρ->D.ct σ H
 rt:∀{s v H},Fw W H0 H->RO W B H0 H s v->E.rt s->D.rt v H
 mr:∀{A ρ σ H u v},EO W B H0 A ρ σ H->DU W (Bx B A) H u v->E.mr ρ u->D.rt v H
def VTs(t:TS)(G:TVS):Prop:=∀{W B:Addr->Prop}{H0:Hp}{A:Nat->Addr->Prop}{ρ:EV}{σ:St}{H:Hp}{E:nJ}{D:Ends},EO W B H0 A ρ σ H->G E ρ->aZj W B H0 E D->t D σ H
def VS(X:Cx)(st:Stmt)(G:TVS):Prop:=∃t,PS X st t/\VTs t G
def VSs(X:Cx)(st:List Stmt)(G:TVS):Prop:=∃t,PSs X st t/\VTs t G
section
variable {W B:Addr->Prop}{H0 H H1:Hp}{A:Nat->Addr->Prop}{ρ:EV}{σ:St}
def EO.now(o:EO W B H0 A ρ σ H)(h:H0 p=none):¬B p:=λz=>o.eb.dm p z h
def EO.awn(o:EO W B H0 A ρ σ H)(h:A i p):H p≠none:=λn=>by
 obtain⟨xs,q,_⟩:=o.aw i p h;rw[q]at n;cases n
def EO.nw(o:EO W B H0 A ρ σ H)(h:A i p):¬W p:=λz=>o.now (o.an i p h) (o.eb.wb p z)
def EO.ee(o:EO W B H0 A ρ σ H):EE W (Bx B A) H ρ σ:=
 #[#[λp h=>h.elim ((o.eb.to o.fw).bl p) λ⟨i,h⟩=>o.aw i p h,λp w=> .inl (o.eb.wb p w),o.fw.wo],o.len,o.sh,λi s w h hs=>let⟨p,h1,h3⟩:=o.hd i s w h hs;#[p,_,h1,λ_=>o.nw,h3]]
def EO.to(o:EO W B H0 A ρ σ H)(f:Fw W H H1):EO W B H0 A ρ σ H1:=by
 have e:=o.ee;have e1:=e.to f;refine#[o.eb,o.fw.trans f,o.len,o.an,λi p h=>e1.eb.bl p (.inr #[i,h]),o.inj,e1.sh,λi s w h hs=>?_,o.nb];obtain⟨p,h1,h3⟩:=o.hd i s w h hs;exact#[p,h1,w.to e.eb f (λ_=>o.nw) h3]
def cB{α:Type}{l:List α}{i j:Nat}{x y:α}(h:(l.set i x)[j]? =some y):(j=i/\y=x/\i<l.length)∨(j≠i/\l[j]? =some y):=by
 rw[Kv]at h;split at h
 ·rename_i e;split at h
  ·cases h;exact .inl #[e.symm,rfl,by assumption]
  ·cases h
 ·rename_i e;exact .inr #[λz=>e z.symm,h]
def get_set{α:Type}{l:List α}{x:α}(h:i<l.length):(l.set i x)[i]? =some x:=by rw[Kv];simp[h]
def fW{α:Type}{l:List α}{i j:Nat}{x:α}(h:j≠i):(l.set i x)[j]? =l[j]? :=by rw[Kv,Aa0 (Cq h)]
def EO.kp:∀b o,¬Bx B A b->H b=some o->¬Bx B (λj q=>j≠i/\A j q) b/\H b=some o:=λb o n h=>#[λz=>n (z.elim .inl λ⟨j,h⟩=> .inr #[j,h.2]),h]
def Own.at_(w:Own){S T:Addr->Prop}(h:w.φ W B S H p)(e:∀b,T b↔S b):w.φ W B T H p:=by
 rw[show T=S from funext λb=>propext (e b)];exact h
def aJq{i j:Nat}(n:j≠i):∀b,(j≠i/\A j b)↔A j b:=λ_=>#[λh=>h.2,λh=>#[n,h]]
def EO.setSh(o:EO W B H0 A ρ σ H){u:U}(d:DU W (Bx B A) H u v):EO W B H0 (λj q=>j≠i/\A j q) (ρ.set i (.sh u)) (σ.set i (some v)) H:=by
 refine#[o.eb,o.fw,by rw[Bn,Bn,o.len],λj p h=>o.an j p h.2,λj p h=>o.aw j p h.2,λj j' p h h'=>o.inj j j' p h.2 h'.2,λj u' h=>?_,λj s w h hs=>?_,λj s h=>?_]
 ·rcases cB h with ⟨rfl,e,hl⟩|⟨ne,h⟩
  ·cases e;exact#[v,get_set (o.len▸hl),DU.mono EO.kp u d]
  ·obtain⟨v',h1,h2⟩:=o.sh j u' h;exact#[v',by rw[fW ne];exact h1,DU.mono EO.kp u' h2]
 ·rcases cB h with ⟨rfl,rfl,hl⟩|⟨ne,h⟩
  ·cases hs
  ·obtain⟨p,h1,h3⟩:=o.hd j s w h hs;exact#[p,by rw[fW ne];exact h1,w.at_ (w.mono EO.kp (λ_ _=>rfl) h3) (aJq ne)]
 ·rcases cB h with ⟨rfl,rfl,hl⟩|⟨ne,h⟩
  ·rfl
  ·exact o.nb j s h
def EO.setOo(o:EO W B H0 A ρ σ H)(f:Fw W H H1){s:Sl}{w:Own}(hs:s.hold=some w)(hb:s.brd=false)(n:∀b,S b->H b=none)(d:w.φ W (λb=>Bx B A b∨S b) S H1 p):
  EO W B H0 (λj q=>(j=i/\S q)∨(j≠i/\A j q)) (ρ.set i s) (σ.set i (some (.ref p))) H1:=by
 have o1:=o.to f;have k0:∀b o,¬(Bx B A b∨S b)->H1 b=some o->¬Bx B (λj q=>(j=i/\S q)∨(j≠i/\A j q)) b/\H1 b=some o:=λb o n h=>#[λz=>n (z.elim (λz=> .inl (.inl z)) λ⟨j,h⟩=>h.elim (λz=> .inr z.2) λz=> .inl (.inr #[j,z.2])),h];have k:∀b o,¬Bx B A b->H b=some o->¬Bx B (λj q=>(j=i/\S q)∨(j≠i/\A j q)) b/\H1 b=some o:=λb x nb h=>k0 b x (λz=>z.elim nb λz=>by rw[n b z]at h;cases h) (o.ee.eb.keep f b x nb h).2;refine#[o.eb,o1.fw,by rw[Bn,Bn,o.len],λj q h=>?_,λj q h=>?_,λj j' q h h'=>?_,λj u' h=>?_,λj s' w' h hs'=>?_,λj s' h=>?_]
 ·rcases h with ⟨_,h⟩|⟨_,h⟩
  ·exact o.fw.none_ (n q h)
  ·exact o.an j q h
 ·rcases h with ⟨_,h⟩|⟨_,h⟩
  ·exact w.th d q h
  ·exact o1.aw j q h
 ·rcases h with ⟨e1,e2⟩|⟨_,h⟩
  ·rcases h' with ⟨e3,_⟩|⟨_,h'⟩
   ·rw[e1,e3]
   ·exact(o.awn h' (n q e2)).elim
  ·rcases h' with ⟨_,e3⟩|⟨_,h'⟩
   ·exact(o.awn h (n q e3)).elim
   ·exact o.inj j j' q h h'
 ·rcases cB h with ⟨rfl,rfl,hl⟩|⟨ne,h⟩
  ·cases hs
  ·obtain⟨v',h1,h2⟩:=o.sh j u' h;exact#[v',by rw[fW ne];exact h1,DU.mono k u' h2]
 ·rcases cB h with ⟨rfl,rfl,hl⟩|⟨ne,h⟩
  ·rw[hs]at hs';cases hs';exact#[p,get_set (o.len▸hl),w.at_ (w.mono k0 (λ_ _=>rfl) d) λb=>#[λh=>h.elim (λh=>h.2) λh=>Aa2 rfl h.1,λh=> .inl #[rfl,h]]]
  ·obtain⟨q,h1,h3⟩:=o.hd j s' w' h hs';exact#[q,by rw[fW ne];exact h1,w'.at_ (w'.mono k (λb hb=>let⟨x,hx,_⟩:=w'.th h3 b hb;(f.fr b x (o.nw hb) hx).trans hx.symm) h3) λb=>#[λh=>h.elim (λh=>Aa2 h.1 ne) λh=>h.2,λh=> .inr #[ne,h]]]
 ·rcases cB h with ⟨rfl,rfl,hl⟩|⟨ne,h⟩
  ·exact hb
  ·exact o.nb j s' h
def EO.setOw(o:EO W B H0 A ρ σ H)(f:Fw W H H1){l:List U}{xs:List V}(n:H p=none)(hp:H1 p=some (.lst xs))(d:DUs W (λb=>Bx B A b∨b=p) H1 l xs):
  EO W B H0 (λj q=>(j=i/\q=p)∨(j≠i/\A j q)) (ρ.set i (.ow l)) (σ.set i (some (.ref p))) H1:=o.setOo f (s:=.ow l) (S:=(·=p)) rfl rfl (λb hb=>by rw[hb];exact n) #[λ_=>Lj,xs,hp,d]
end
section
variable {W B:Addr->Prop}{H0 H H1:Hp}{A:Nat->Addr->Prop}{ρ:EV}{σ:St}
def EO.chg(o:EO W B H0 A ρ σ H){s':Sl}{w':Own}{x:HO}{p q:Addr}(hg:σ[i]? =some (some (V.ref p)))(hq:A i q)(hs':s'.hold=some w')(hb:s'.brd=false)(d:w'.φ W (Bx B A) (A i) (upd H q x) p):EO W B H0 A (ρ.set i s') σ (upd H q x):=by
 have k:∀b y,¬Bx B A b->H b=some y->¬Bx B A b/\upd H q x b=some y:=λb y n h=>#[n,(aJ (λz:b=q=>n (by rw[z];exact .inr #[i,hq]))).trans h];refine#[o.eb,#[λb y w h=>?_,λr hr=>?_],by rw[Bn,o.len],o.an,λj r h=>?_,o.inj,λj u h=>?_,λj m v h hm=>?_,λj m h=>?_]
 ·rw[aJ (aV h (o.an i q hq))];exact o.fw.fr b y w h
 ·obtain⟨x,y,z,h⟩:=o.fw.wo r hr;exact#[x,y,z,(aJ (λe:r=q=>o.nw hq (by rw[<-e];exact hr))).trans h]
 ·by_cases e:r=q
  ·rw[e];exact w'.th d q hq
  ·rw[aJ e];exact o.aw j r h
 ·rcases cB h with ⟨rfl,rfl,hl⟩|⟨ne,h⟩
  ·cases hs'
  ·obtain⟨v',h1,h2⟩:=o.sh j u h;exact#[v',h1,DU.mono k u h2]
 ·rcases cB h with ⟨rfl,rfl,hl⟩|⟨ne,h⟩
  ·rw[hs']at hm;cases hm;exact#[p,hg,d]
  ·obtain⟨r,h1,h3⟩:=o.hd j m v h hm;exact#[r,h1,v.mono k (λb hb=>aJ (λe:b=q=>ne (o.inj j i q (by rw[<-e];exact hb) hq))) h3]
 ·rcases cB h with ⟨rfl,rfl,hl⟩|⟨ne,h⟩
  ·exact hb
  ·exact o.nb j m h
def EO.own(o:EO W B H0 A ρ σ H)(hg:σ[i]? =some (some (V.ref p)))(hp:∀b,A i b↔b=p)(d:DUs W (Bx B A) H l' xs'):EO W B H0 A (ρ.set i (.ow l')) σ (upd H p (.lst xs')):=
 o.chg hg ((hp p).mpr rfl) (s':=.ow l') rfl rfl #[hp,xs',aL,DUs.mono (λb y n h=>#[n,(aJ (λz:b=p=>n (by rw[z];exact .inr #[i,(hp p).mpr rfl]))).trans h]) l' d]
def EO.frz(o:EO W B H0 A ρ σ H){i:Nat}{s:Sl}{w:Own}{u:U}(hi:ρ[i]? =some s)(hs:s.hold=some w)(hu:∀{W B S H p},(∀b,S b->¬B b)->w.φ W B S H p->DU W B H u (.ref p)):EO W B H0 (λj q=>j≠i/\A j q) (ρ.set i (.sh u)) σ H:=by
 refine#[o.eb,o.fw,by rw[Bn,o.len],λj p h=>o.an j p h.2,λj p h=>o.aw j p h.2,λj j' p h h'=>o.inj j j' p h.2 h'.2,λj u' h=>?_,λj m v h hm=>?_,λj m h=>?_]
 ·rcases cB h with ⟨rfl,e,hl⟩|⟨ne,h⟩
  ·cases e;obtain⟨p,h1,h3⟩:=o.hd j s w hi hs;exact#[_,h1,hu (λb hb z=>z.elim (o.now (o.an j b hb)) λ⟨j',h⟩=>h.1 (o.inj j' j b h.2 hb)) (w.mono EO.kp (λ_ _=>rfl) h3)]
  ·obtain⟨v',h1,h2⟩:=o.sh j u' h;exact#[v',h1,DU.mono EO.kp u' h2]
 ·rcases cB h with ⟨rfl,rfl,hl⟩|⟨ne,h⟩
  ·cases hm
  ·obtain⟨p,h1,h3⟩:=o.hd j m v h hm;exact#[p,h1,v.at_ (v.mono EO.kp (λ_ _=>rfl) h3) (aJq ne)]
 ·rcases cB h with ⟨rfl,rfl,hl⟩|⟨ne,h⟩
  ·rfl
  ·exact o.nb j m h
def aZ0{l:List U}:∀{W B S H p},(∀b,S b->¬B b)->(lsO l).φ W B S H p->DU W B H (.ls l) (.ref p):=λn ⟨s,xs,h,d⟩=>#[_,xs,rfl,n _ ((s _).mpr rfl),h,d]
def aZ1{w:Own}:∀{W B S H p},(∀b,S b->¬B b)->w.φ W B S H p->DU W B H (.op w.fz) (.ref p):=λn h=>#[_,_,rfl,n,h]
structure Rb(W:Addr->Prop)(H0 H1:Hp):Prop where
 le:∀b o,¬W b->H0 b=some o->H1 b=some o
 no:∀p,H1 p=none->H0 p=none
def EO.un(o:EO W B H0' A ρ σ H)(e:EB W B H0)(r:Rb W H0 H0'):EO W B H0 A ρ σ H:=
 #[e,#[λb x w h=>o.fw.fr b x w (r.le b x w h),o.fw.wo],o.len,λi p h=>r.no p (o.an i p h),o.aw,o.inj,o.sh,o.hd,o.nb]
def RO.un(r:Rb W H0 H0')(h:RO W B H0' H s v):RO W B H0 H s v:=by
 match s,h with
 |.sh u,h=>exact h
 |.ow l,⟨p,xs,e1,n1,h2,h3⟩=>exact#[p,xs,e1,r.no p n1,h2,h3]
 |.br l,h=>exact h
 |.oo w,⟨p,S,e1,n1,h⟩=>exact#[p,S,e1,λb hb=>r.no b (n1 b hb),h]
 |.bo w,h=>exact h
open Classical in
def EO.reb(o:EO W B H0 A ρ σ H):∃H0',EO W B H0' A ρ σ H/\Rb W H0 H0'/\∀b x,(¬ ∃i,A i b)->H b=some x->H0' b=some x:=by
 refine#[λb=>if∃i,A i b then none else H b,?_,?_,λb x n h=>(Aa0 n).trans h]
 ·have nb:∀p,B p->¬ ∃i,A i p:=λp hp ⟨i,h⟩=>o.now (o.an i p h) hp;refine#[#[λp hp=>by rw[Aa0 (nb p hp)];exact o.ee.eb.bl p (.inl hp),o.eb.wb,λp hp=>?_],#[λb x w h=>?_,o.fw.wo],o.len,λi p h=>Aa1 #[i,h],o.aw,o.inj,o.sh,o.hd,o.nb]
  ·obtain⟨x,y,z,h⟩:=o.fw.wo p hp;exact#[x,y,z,(Aa0 (nb p (o.eb.wb p hp))).trans h]
  ·split at h
   ·cases h
   ·exact h
 ·refine#[λb x w h=>?_,λp h=>?_]
  ·refine(Aa0 λ⟨i,q⟩=>?_).trans (o.fw.fr b x w h);rw[o.an i b q]at h;cases h
  ·split at h
   ·rename_i q;obtain⟨i,q⟩:=q;exact o.an i p q
   ·cases q:H0 p with
    |none=>rfl
    |some x=>
     by_cases w:W p
     ·obtain⟨_,_,_,z⟩:=o.fw.wo p w;rw[z]at h;cases h
     ·rw[o.fw.fr p x w q]at h;cases h
end
def aYs(t u:TVS):TVS:=λE ρ=>t {E with nx:=u E} ρ
def bB4:TVS:=λE ρ=>E.nx ρ
def vIf(c:TVc)(t u:TVS):TVS:=λE ρ=>c ρ λb=>(b=true->t E ρ)/\(b=false->u E ρ)
def aNs(i:Nat)(ρ:EV)(k:EV->Prop):Sl->Prop
 |.sh u=>k (ρ.set i (.sh u))
 |.ow l=>k (ρ.set i (.ow l))
 |.oo w=>k (ρ.set i (.oo w))
 |_=>False
def aYt(i:Nat)(F:TV):TVS:=λE ρ=>F ρ (aNs i ρ E.nx)
def bDv(F:TV):TVS:=λE ρ=>F ρ λs=>match s with
 |.br _=>False
 |.bo _=>False
 |s=>E.rt s
def aR5(i:Nat):TVS:=λE ρ=>match (ρ[i]? :Option Sl)with
 |some (.sh u)=>E.rt (.sh u)
 |some (.ow l)=>E.rt (.ow l)
 |some (.oo w)=>E.rt (.oo w)
 |_=>False
def vDo(F:TV):TVS:=λE ρ=>F ρ λ_=>E.nx ρ
def bB0(i:Nat)(G:TVS):TVS:=λE ρ=>match (ρ[i]? :Option Sl)with
 |some (.ow l)=>G E (ρ.set i (.sh (.ls l)))
 |some (.oo w)=>G E (ρ.set i (.sh (.op w.fz)))
 |_=>G E ρ
def bBq(i:Nat)(F:TV):TVS:=λE ρ=>match (ρ[i]? :Option Sl)with
 |some (.ow l)=>l.length<10000/\F ρ λs=>s.es λu=>E.nx (ρ.set i (.ow (l++[u])))
 |_=>False
def aYp(i:Nat)(F:TV):TVS:=λE ρ=>match (ρ[i]? :Option Sl)with
 |some (.ow l)=>F ρ λs=>match s.rd with
  |.ls m=>l.length+m.length<10000/\E.nx (ρ.set i (.ow (l++m)))
  |_=>False
 |_=>False
abbrev TVg:=U->EV->(EV->Prop)->Prop
def VTg(g:TG)(G:TVg):Prop:=∀{W B:Addr->Prop}{H0:Hp}{A:Nat->Addr->Prop}{ρ:EV}{σ:St}{H:Hp}{u:U}{v:V}{k:EV->Prop}{Q:St->Hp->Prop},EO W B H0 A ρ σ H->DU W (Bx B A) H u v->G u ρ k->(∀A' ρ' σ',EO W B H0 A' ρ' σ' H->k ρ'->Q σ' H)->g v σ H Q
def VG(X:Cx)(tg:Bu)(G:TVg):Prop:=∃g,PG X tg g/\VTg g G
def bCp(g:TGs)(is:List Nat):Prop:=∀{W B:Addr->Prop}{H0:Hp}{A:Nat->Addr->Prop}{ρ:EV}{σ:St}{H:Hp}{us:List U}{vs:List V}{k:EV->Prop}{Q:St->Hp->Prop},EO W B H0 A ρ σ H->DUs W (Bx B A) H us vs->us.length=is.length->k ((is.zip us).foldl (λρ x=>ρ.set x.1 (.sh x.2)) ρ)->(∀A' ρ' σ',EO W B H0 A' ρ' σ' H->k ρ'->Q σ' H)->g vs σ H Q
def VGs(X:Cx)(es:List Bu)(is:List Nat):Prop:=∃g,PGs X es g/\bCp g is
def pX(i:Nat):TVg:=λu ρ k=>k (ρ.set i (.sh u))
def aLv(is:List Nat):TVg:=λu ρ k=>match u with
 |.tp us=>us.length=is.length/\k ((is.zip us).foldl (λρ x=>ρ.set x.1 (.sh x.2)) ρ)
 |_=>False
def mL(g:TVg)(b:TVS)(E:nJ):List U->EV->Prop
 | [],ρ=>E.nx ρ
 |u::r,ρ=>g u ρ λρ1=>b {E with nx:=mL g b E r,ct:=mL g b E r,bk:=E.nx} ρ1
def bDl(g:TVg)(F:TVa)(b:TVS):TVS:=λE ρ=>F ρ λl=>mL g b E l ρ
def aU:VSs X [] bB4:=#[_,mU,λo h i=>i.nx o h]
def aF{st:Stmt}{G:TVS}(h:VS X st G):VSs X [st] G:=let⟨_,p,f⟩:=h;#[_,dI p,f]
def aG{st:Stmt}{F G:TVS}(h:VS X st F)(h':VSs X rest G):VSs X (st::rest) (aYs F G):=
 let⟨_,p,f⟩:=h;let⟨_,p',f'⟩:=h';#[_,bC p p',λo h i=>f o h #[λo1 h1=>f' o1 h1 i,i.bk,i.ct,i.rt,i.mr]]
def sE{st:List Stmt}{G:TVS}(i:Nat)(h:VSs X st G):VSs X st (bB0 i G):=let⟨_,p,f⟩:=h;⟨_,p,λo h j=>by
 unfold bB0 at h;split at h
 ·rename_i hi;exact f (o.frz hi rfl aZ0) h j
 ·rename_i hi;exact f (o.frz hi rfl aZ1) h j
 ·exact f o h j⟩
def bT{c:Bu}{a b:List Stmt}{C:TVc}{F G:TVS}(hc:VC X c C)(ha:VSs X a F)(hb:VSs X b G):VS X (.If c a b pos) (vIf C F G):=
 let⟨_,p,f⟩:=hc;let⟨_,p1,f1⟩:=ha;let⟨_,p2,f2⟩:=hb;⟨_,xO p p1 p2,λo h i=>f o.ee h λc H1 h1 w=>by
  cases c with
  |true=>exact aMk (f1 (o.to w) (h1.1 rfl) i)
  |false=>exact aCc (f2 (o.to w) (h1.2 rfl) i)⟩
def aJ4{W B:Addr->Prop}{H0 H H1:Hp}{A:Nat->Addr->Prop}{ρ:EV}{σ:St}{s:Sl}{k:EV->Prop}{Q:St->Hp->Prop}(o:EO W B H0 A ρ σ H)(f:Fw W H H1)(r:RO W (Bx B A) H H1 s v)(h:aNs i ρ k s)(q:∀{A' ρ' σ'},EO W B H0 A' ρ' σ' H1->k ρ'->Q σ' H1):Q (σ.set i (some v)) H1:=by
 match s,r,h with
 |.sh u,r,h=>exact q ((o.to f).setSh r) h
 |.ow l,⟨p,xs,e1,h1,h2,h3⟩,h=>
  subst e1;exact q (o.setOw f h1 h2 h3) h
 |.oo w,⟨p,S,e1,h1,h2⟩,h=>
  subst e1;exact q (o.setOo f (s:=.oo w) rfl rfl h1 h2) h
def aR{x:Str}{e:Bu}{pos pos':Pos}{F:TV}(hN:X.N.Nodup)(he:VE X e F)(hi:X.N[i]? =some x:=by rfl)(hx:Loc X.env.scope x:=by first|exact Dy rfl|exact Ew rfl)(hs:Ed e (some (.Name x pos')) pos.line X.env=pure false:=by rfl)(hf:FL X x:=by trivial):
  VS X (.Assign [.Name x pos'] e pos) (aYt i F):=
 let⟨_,p,f⟩:=he;#[_,zE hN hi hx p hs hf,λo h j=>f o.ee h λs v H1 h1 w r=>aJ4 o w r h1 j.nx]
def aN{e:Bu}{F:TV}(he:VE X e F):VS X (.Return (some e) pos) (bDv F):=
 let⟨_,p,f⟩:=he;⟨_,vW p,λ{W B H0 A ρ σ H E D} o h j=>f o.ee h λs v H1 h1 w r=>by
  have fw:=o.fw.trans w;have less:∀{H:Hp} b(x:HO),¬Bx B A b->H b=some x->¬B b/\H b=some x:=λb x n h=>#[λz=>n (.inl z),h];match s,h1,r with
  |.sh u,h1,r=>exact j.rt fw (s:=.sh u) (DU.mono less u r) h1
  |.ow l,h1,⟨p,xs,e1,h2,h3,h4⟩=>
   refine j.rt fw (s:=.ow l) ?_ h1;exact RO.back (s:=.ow l) o.fw #[p,xs,e1,h2,h3,DUs.mono (λb x n h=>#[λz=>n (z.elim (λz=> .inl (.inl z)) .inr),h]) l h4]
  |.oo w,h1,⟨p,S,e1,h2,h3⟩=>
   refine j.rt fw (s:=.oo w) ?_ h1;exact RO.back (s:=.oo w) o.fw #[p,S,e1,h2,w.mono (λb x n h=>#[λz=>n (z.elim (λz=> .inl (.inl z)) .inr),h]) (λ_ _=>rfl) h3]
  |.no,_,r=>exact r.elim⟩
def gP{x:Str}{pos p':Pos}(i:Nat)(hN:X.N[i]? =some x:=by rfl)(hv:Vis X.env.scope x:=by trivial)(hd:ND x:=by decide)
  (hcd:NC x:=by decide):VS X (.Return (some (.Name x p')) pos) (aR5 i):=⟨_,vW (fZ hN hv hd hcd),λ{W B H0 A ρ σ H E D} o h j=>by
 unfold aR5 at h;have less:∀{H:Hp} b(x:HO),¬Bx B A b->H b=some x->¬B b/\H b=some x:=λb x n h=>#[λz=>n (.inl z),h];split at h
 ·rename_i u hs;obtain⟨v,h1,h2⟩:=o.sh i u hs;exact#[v,h1,j.rt (s:=.sh u) o.fw (DU.mono less u h2) h]
 ·rename_i l hs;obtain⟨p,xs,h1,h2,h3,h4⟩:=o.ow i l hs;exact#[_,h1,j.rt (s:=.ow l) o.fw #[p,xs,rfl,o.an i p ((h2 p).mpr rfl),h3,DUs.mono (λb x n h=>#[λz=>n (z.elim .inl λe=> .inr #[i,(h2 b).mpr e]),h]) l h4] h]
 ·rename_i w hs;obtain⟨p,h1,h3⟩:=o.hd i _ w hs rfl;exact#[_,h1,j.rt (s:=.oo w) o.fw #[p,_,rfl,o.an i,w.mono (λb x n h=>#[λz=>n (z.elim .inl λe=> .inr #[i,e]),h]) (λ_ _=>rfl) h3] h]
 ·exact h.elim⟩
def aKh{x:Str}{a:Bu}{p' apos cpos pos:Pos}{F:TV}(i:Nat)(ha:VE X a F)(hN:X.N[i]? =some x:=by rfl)(hv:Vis X.env.scope x:=by trivial)(hd:ND x:=by decide)
  (hcd:NC x:=by decide)
  (hbase:Gi (.Name x p') "append" X.env (eval (.Name x p') X.env)=eval (.Name x p') X.env:=by rfl)
  (hfew:((Im cpos (Bz [a] X.env)).all (λx=> !x.1) && (Ft cpos (Cz [] X.env)).all (λx=>x.1.isSome)
   && decide ([a].length+([]:List Ij).length+(if([]:List Ij).isEmpty then 0 else 1)<30))=true:=by rfl)
  (hline:EL apos cpos:=by rfl) (hs:SE X a []:=by rfl) (hplain:BT X cpos []:=by rfl)
  (hsw:Ed (.Call (.Attribute (.Name x p') "append" apos) [a] [] cpos) none pos.line X.env=pure false:=by rfl):
  VS X (.Expr (.Call (.Attribute (.Name x p') "append" apos) [a] [] cpos) pos) (bBq i F):=
 let⟨_,p,f⟩:=ha;⟨_,rD (aLe Hv Pa Oz yV (fZ hN hv hd hcd) (dW p iZ hs) hbase hfew hline hs hplain) hsw,λ{W B H0 A ρ σ H E D} o h j=>by
  unfold bBq at h;split at h
  ·rename_i l hi;obtain⟨q,xs,h1,h2,h3,h4⟩:=o.ow i l hi;refine#[_,h1,.inl #[rfl,_,SqL.of h3],f o.ee h.2 λs v H1 h5 w r=>?_];obtain⟨u,h6,d⟩:=r.du o.ee.eb h5;have o1:=o.to w;obtain⟨q',ys,g1,g2,g3,g4⟩:=o1.ow i l hi;rw[h1]at g1;cases g1;refine#[q,ys,v,rfl,rfl,g3,?_,j.nx (o1.own h1 h2 (g4.app (DUs.one d))) h6];have:=g4.length;have:(10000:Nat)<=sizeLine:=by decide
   lia
  ·exact h.elim⟩
def aSe{x:Str}{a:Bu}{p' apos cpos pos:Pos}{F:TV}(i:Nat)(ha:VE X a F)(hN:X.N[i]? =some x:=by rfl)(hv:Vis X.env.scope x:=by trivial)(hd:ND x:=by decide)
  (hcd:NC x:=by decide)
  (hbase:Gi (.Name x p') "extend" X.env (eval (.Name x p') X.env)=eval (.Name x p') X.env:=by rfl)
  (hfew:((Im cpos (Bz [a] X.env)).all (λx=> !x.1) && (Ft cpos (Cz [] X.env)).all (λx=>x.1.isSome)
   && decide ([a].length+([]:List Ij).length+(if([]:List Ij).isEmpty then 0 else 1)<30))=true:=by rfl)
  (hline:EL apos cpos:=by rfl) (hs:SE X a []:=by rfl) (hplain:BT X cpos []:=by rfl)
  (hsw:Ed (.Call (.Attribute (.Name x p') "extend" apos) [a] [] cpos) none pos.line X.env=pure false:=by rfl):
  VS X (.Expr (.Call (.Attribute (.Name x p') "extend" apos) [a] [] cpos) pos) (aYp i F):=
 let⟨_,p,f⟩:=ha;⟨_,rD (aLe Hv PySem.F.slot_list_extend PySem.F.type_list_extend aMq (fZ hN hv hd hcd) (dW p iZ hs) hbase hfew hline hs hplain) hsw,λ{W B H0 A ρ σ H E D} o h j=>by
  unfold aYp at h
  split at h
  ·rename_i l hi
   obtain⟨q,xs,h1,h2,h3,h4⟩:=o.ow i l hi
   refine#[_,h1,.inl #[rfl,_,SqL.of h3],f o.ee h λs v H1 h5 w r=>?_]
   have d:=r.db o.ee.eb
   revert h5 d
   generalize s.rd=u
   intro h5 d
   split at h5<;>try exact h5.elim
   rename_i m
   have o1:=o.to w
   obtain⟨q',ys,g1,g2,g3,g4⟩:=o1.ow i l hi
   rw[h1]at g1
   cases g1
   obtain⟨b,zs,rfl,_,b2,b3⟩:=d.ls (o.ee.to w).eb
   refine#[q,b,ys,zs,rfl,rfl,g3,b2,?_,j.nx (o1.own h1 h2 (g4.app b3)) h5.2]
   have:=g4.length
   have:=b3.length
   have:(10000:Nat)<=sizeLine:=by decide
   lia
  ·exact h.elim⟩
def fQ{x:Str}(hN:X.N.Nodup)(hi:X.N[i]? =some x:=by rfl)(hx:Loc X.env.scope x:=by first|exact Dy rfl|exact Ew rfl)(hf:FL X x:=by trivial):VG X (.Name x pos) (pX i):=
 #[_,bU hN hi hx hf,λo d h q=>q _ _ _ (o.setSh d) h]
def xZ:VGs X [] []:=⟨_,aFx,λ{W B H0 A ρ σ H us vs k Q} o d l h q=>by
 match us,l with
 | [],_=>exact#[d,q _ _ _ o h]⟩
def iM{x:Str}(hN:X.N.Nodup)(h2:VGs X es is)(hi:X.N[i]? =some x:=by rfl)(hx:Loc X.env.scope x:=by first|exact Dy rfl|exact Ew rfl)(hf:FL X x:=by trivial)
  (hs:(Ho (.Name x pos::es) X.env).map (·.2)=assign (.Name x pos) X.env::(Ho es X.env).map (·.2):=by rfl):VGs X (.Name x pos::es) (i::is):=
 let⟨_,p,f⟩:=h2;⟨_,tZ (bU hN hi hx hf) p hs,λ{W B H0 A ρ σ H us vs k Q} o d l h q=>by
  match us,d,l with
  |u::us,⟨v,r,e,d1,d2⟩,l=>
   refine#[v,r,e,f (o.setSh (i:=i) d1) (DUs.mono (λb x n h=>#[λz=>n (z.elim .inl λ⟨j,e⟩=> .inr #[j,e.2]),h]) us d2) (Dw l) h q]⟩
def aC7{c:Nat}(hc:X.calm=true)(h:VGs X es is)(hl:is.length=n:=by rfl)(hn:(Ho es X.env).length=n:=by rfl)(hst:(Ho es X.env).findIdx? (·.1)=none:=by rfl):VG X (.Tuple es c pos) (aLv is):=
 let⟨_,p,f⟩:=h;⟨_,aJy hc p hn hst,λ{W B H0 A ρ σ H u v k Q} o d h q=>by
  match u,d,h with
  |.tp us,⟨a,xs,e,_,ha,ds⟩,⟨l,h⟩=>exact#[a,xs,e,SqT.of ha,by rw[<-ds.length,l,hl],f o ds l h q]⟩
abbrev Tr(B:Addr->Prop)(H1:Hp)(B2:Addr->Prop)(H2:Hp):Prop:=∀b o,¬B b->H1 b=some o->¬B2 b/\H2 b=some o
structure WkU(W B:Addr->Prop)(H1:Hp)(J:It)(l:List U):Prop where
 stop:∀{B2 H2},Tr B H1 B2 H2->J.stop l.length H2
 go:∀{B2 H2} i,Tr B H1 B2 H2->i<l.length->J.go i H2
 yld:∀{B2 H2}(i:Nat){x H' u},EB W B2 H2->Tr B H1 B2 H2->l[i]? =some u->J.yld i H2 x H'->Fw W H2 H'/\DU W B2 H' u x
def VTi(wi:TI)(F:TVa):Prop:=∀{W B:Addr->Prop}{ρ:EV}{σ:St}{H:Hp}{R:List U->Prop}{Q:It->Hp->Prop},EE W B H ρ σ->F ρ R->(∀l J H',R l->Fw W H H'->WkU W B H' J l->Q J H')->wi σ H Q
def VI(X:Cx)(tg iter:Bu)(F:TVa):Prop:=∃wi,PI X tg iter wi/\VTi wi F
def vLs(F:TV):TVa:=λρ R=>F ρ λs=>s.es λu=>match u with
 |.ls l=>R l
 |_=>False
def vTp(F:TV):TVa:=λρ R=>F ρ λs=>s.es λu=>match u with
 |.tp l=>R l
 |_=>False
def aU8{W B:Addr->Prop}{H:Hp}{K:Ac}{l:List U}{xs:List V}(nb:¬B a)(ha:H a=some (.lst xs))(ds:DUs W B H l xs):WkU W B H (Itl K a) l:=
 ⟨λt=>#[xs,SqL.of (t a _ nb ha).2,by rw[ds.length];exact Am _],λi t h=>#[xs,xs[i]'(by rw[<-ds.length];exact h),SqL.of (t a _ nb ha).2,Af _],λi x H' u e t h y=>by
  obtain⟨rfl,y⟩:=y;obtain⟨x',h1,d⟩:=ds.get h;rw[y xs (SqL.of (t a _ nb ha).2)]at h1;cases h1;exact#[e.refl,DU.mono t u d]⟩
def aZe{W B:Addr->Prop}{H:Hp}{K:Ac}{l:List U}{xs:List V}(nb:¬B a)(ha:H a=some (.tup xs))(ds:DUs W B H l xs):WkU W B H (Itt K a) l:=
 ⟨λt=>#[xs,SqT.of (t a _ nb ha).2,by rw[ds.length];exact Am _],λi t h=>#[xs,xs[i]'(by rw[<-ds.length];exact h),SqT.of (t a _ nb ha).2,Af _],λi x H' u e t h y=>by
  obtain⟨rfl,y⟩:=y;obtain⟨x',h1,d⟩:=ds.get h;rw[y xs (SqT.of (t a _ nb ha).2)]at h1;cases h1;exact#[e.refl,DU.mono t u d]⟩
def qI(lo:Int)(n:Nat):List U:=(Dl n).map λi:Nat=> .n (lo+(i:Int))
def aIh{W B:Addr->Prop}{H:Hp}{lo:Int}{n:Nat}:WkU W B H (Itr lo n) (qI lo n):=
 ⟨λ_=>by show n<=_;simp[qI],λi _ h=>by show i<n;simpa[qI]using h,λi x H' u e _ h y=>by
  obtain⟨rfl,rfl⟩:=y;unfold qI at h;rw[Ap]at h;cases q:(Dl n)[i]? with
  |none=>rw[q]at h;cases h
  |some j=>
   rw[q]at h;cases h;have hj:=(Be.mp q).2;rw[List.getElem_range]at hj;subst hj;exact#[e.refl,rfl,rfl]⟩
def bY{tg e:Bu}{F:TV}(h:VE X e F):VI X tg e (vLs F):=let⟨_,p,f⟩:=h;⟨_,aT5 p,λe h q=>f e h λs v H1 h1 w r=>by
 obtain⟨u,h2,d⟩:=r.du e.eb h1;match u,h2,d with
 |.ls l,h2,⟨a,xs,e1,nb,ha,ds⟩=>exact#[a,e1,#[xs,SqL.of ha],q l _ _ h2 w (aU8 nb ha ds)]⟩
def aKg{tg e:Bu}{F:TV}(h:VE X e F):VI X tg e (vTp F):=let⟨_,p,f⟩:=h;⟨_,aXv p,λe h q=>f e h λs v H1 h1 w r=>by
 obtain⟨u,h2,d⟩:=r.du e.eb h1;match u,h2,d with
 |.tp l,h2,⟨a,xs,e1,nb,ha,ds⟩=>exact#[a,e1,#[xs,SqT.of ha],q l _ _ h2 w (aZe nb ha ds)]⟩
def vRg(F:TVa):TVa:=λρ R=>F ρ λus=>match us with
 | [.v (.int j)]=> -(2 ^ 62)<=j/\j<2 ^ 62/\R (qI 0 j.toNat)
 |_=>False
def bDw(F:TVa):TVa:=λρ R=>F ρ λus=>match us with
 | [.v (.int i),.v (.int j)]=>(-(2 ^ 62)<=i/\i<2 ^ 62/\ -(2 ^ 62)<=j/\j<2 ^ 62)/\R (qI i (j-i).toNat)
 |_=>False
def oJ{tg a:Bu}{F:TVa}{p pos:Pos}(hm:X.mg "range"=none)(hi:VB X [a] F)(hgl:Gl X "range":=by rfl)(hs1:Bz [a] X.env=[(false,eval a X.env)]:=by rfl):VI X tg (.Call (.Name "range" p) [a] [] pos) (vRg F):=
 let⟨_,p,f⟩:=hi;⟨_,aNc hgl hm p hs1,λe h q=>f e h λus vs H1 h1 w d=>by
  match us,h1,d with
  | [.v (.int i)],⟨h2,h3,h4⟩,⟨x,r,e,d1,d2⟩=>
   obtain rfl:r=[]:=d2;rw[d1.int]at e;exact#[i,e,h2,h3,q _ _ _ h4 w aIh]⟩
def aE0{tg a b:Bu}{F:TVa}{p pos:Pos}(hm:X.mg "range"=none)(hi:VB X [a,b] F)(hgl:Gl X "range":=by rfl)(hs1:Bz [a,b] X.env=[(false,eval a X.env),(false,eval b X.env)]:=by rfl)(hs2:Bz [b] X.env=[(false,eval b X.env)]:=by rfl):VI X tg (.Call (.Name "range" p) [a,b] [] pos) (bDw F):=
 let⟨_,p,f⟩:=hi;⟨_,aNd hgl hm p hs1 hs2,λe h q=>f e h λus vs H1 h1 w d=>by
  match us,h1,d with
  | [.v (.int i),.v (.int j)],⟨h2,h4⟩,d=>
   obtain⟨x,_,e,d1,y,r,rfl,d2,d3⟩:=d;obtain rfl:r=[]:=d3;rw[d1.int,d2.int]at e;exact#[i,j,e,h2,q _ _ _ h4 w aIh]⟩
def aEf(l:List U):List U:=l.zipIdx.map λx=> .tp [.n (x.2:Nat),x.1]
def aU7{W B:Addr->Prop}{H:Hp}{K:Ac}{l:List U}{xs:List V}(nb:¬B a)(ha:H a=some (.lst xs))(ds:DUs W B H l xs):WkU W B H (Ite K a) (aEf l):=
 ⟨λt=>#[xs,SqL.of (t a _ nb ha).2,by simp[aEf,ds.length]],λi t h=>#[xs,xs[i]'(by rw[<-ds.length];simpa[aEf]using h),SqL.of (t a _ nb ha).2,Af _],λi x H' u e t h y=>by
  obtain⟨p,x',n,rfl,rfl,y⟩:=y;have hx:=y xs (SqL.of (t a _ nb ha).2);obtain⟨u',hu,d⟩:=ds.getV hx;have hu2:(aEf l)[i]? =some (.tp [.n (i:Nat),u']):=by simp[aEf,Ap,List.getElem?_zipIdx,hu]
  rw[h]at hu2;cases hu2;have f:=e.new (o:=.tup [.int i,x']) n;exact#[f,p,_,rfl,e.nw n,aL,_,_,rfl,#[rfl,rfl],_,_,rfl,DU.mono (λb o n h=>e.keep f b o (t b o n h).1 (t b o n h).2) u' d,rfl]⟩
def vEn(F:TVa):TVa:=λρ R=>F ρ λus=>match us with
 | [.ls l]=>R (aEf l)
 |_=>False
def aLw{es:List Bu}{pos':Pos}{a:Bu}{F:TVa}{p pos:Pos}(hm:X.mg "enumerate"=none)(hi:VA X [a] F)(hgl:Gl X "enumerate":=by rfl)(hs1:Bz [a] X.env=[(false,eval a X.env)]:=by rfl):VI X (.Tuple es k pos') (.Call (.Name "enumerate" p) [a] [] pos) (vEn F):=
 let⟨_,p,f⟩:=hi;⟨_,aT3 hgl hm p hs1,λe h q=>f e h λus vs H1 h1 _ w d=>by
  match us,h1,d with
  | [.ls l],h4,d=>
   obtain⟨x,r,e,⟨a,xs,rfl,nb,ha,ds⟩,d2⟩:=d;obtain rfl:r=[]:=d2;exact#[a,e,#[xs,SqL.of ha],q _ _ _ h4 w (aU7 nb ha ds)]⟩
def aA2:List U->List U->List U:=Jc λa b=> .tp [a,b]
def aZf{l m:List U}{u v:U}(h1:l[i]? =some u)(h2:m[i]? =some v):(aA2 l m)[i]? =some (.tp [u,v]):=by simp[aA2,List.getElem?_zipWith,h1,h2]
def fH{tg iter:Bu}{F:TVa}{G:TVg}{b:TVS}(hp:Vb #v[a] X.A X.env X.xe)(hc:X.calm=true)(hi:VI X tg iter F)(hg:VG X tg G)(hb:VSs X body b)
  (hs:FS X iter:=by intro _;rfl):VS X (.For tg iter body [] pos) (bDl G F b):=
 let⟨_,p,f⟩:=hi;let⟨_,p1,f1⟩:=hg;let⟨_,p2,f2⟩:=hb;⟨_,aJ2 hp hc p p1 p2 hs,λ{W B H0 A0 ρ0 σ0 H E D} o0 h j=>f o0.ee h λl J H1 h1 w wk=>by
  have o:=o0.to w;obtain⟨H0',o',rb,kp⟩:=o.reb;have st:∀{A ρ σ H},EO W B H0' A ρ σ H->Tr (Bx B A0) H1 (Bx B A) H:=λ{A ρ σ H} o2 p x n hp=>by
   have h0:=kp p x (λz=>n (.inr z)) hp;refine#[λz=>z.elim (λz=>n (.inl z)) λ⟨i,z⟩=>?_,o2.fw.fr p x (λw=>n (.inl (o.eb.wb p w))) h0];rw[o2.an i p z]at h0;cases h0
  refine#[λi m σ H=>m=l.length-i/\i<=l.length/\∃A ρ,EO W B H0' A ρ σ H/\mL G b E (l.drop i) ρ,#[l.length,by simp,Bt _,A0,ρ0,o',h1],?_];rintro i m σ H ⟨rfl,hi,A,ρ,o2,h2⟩;by_cases hlt:i<l.length
  ·have e:l.drop i=l[i]::l.drop (i+1):=Dv hlt;rw[e]at h2;refine .inr #[wk.go i (st o2) hlt,λσ H=>∃A ρ,EO W B H0' A ρ σ H/\mL G b E (l.drop (i+1)) ρ,λσ' H' h=>#[l.length-(i+1),∅,rfl,hlt,h],λx H' y=>?_];obtain⟨w2,d⟩:=wk.yld i o2.ee.eb (st o2) (Af hlt) y;exact f1 (o2.to w2) d h2 λA' ρ' σ' o3 h3=>f2 o3 h3 #[λo4 h4=>#[_,_,o4,h4],λo4 h4=>j.nx (o4.un o.eb rb) h4,λo4 h4=>#[_,_,o4,h4],λw r h4=>j.rt #[λb x nw hb=>w.fr b x nw (rb.le b x nw hb),w.wo] (r.un rb) h4,λo4 d4 h4=>j.mr (o4.un o.eb rb) d4 h4]
  ·have e:i=l.length:=by lia
   subst e;rw[Lh]at h2;exact .inl #[wk.stop (st o2),j.nx (o2.un o.eb rb) h2]⟩
def vfn{P:Aj}{w:Bd}{K:Ac}{base:Heap}{x qual:Str}{st:Stmt}{f:Addr}{fd:FuncData}{N ps:List Str}{G:TVS}{F:List U->(Sl->Prop)->Prop}(Fn:Fun K x qual st f fd)(S:aK N ps (aC st))
  (hb:∀(af:Value)(A:Bp)(outer:List Env)(s:Ai)(H:Hp)(E:XK),cV k (A.deeper (Nv qual (aC st) #v[0] f af))->VSs (aFm CX0 P w K mg base N qual (aC st) f af A outer s H E).nox (bG st) G)
  (hF:∀us R,F us R->us.length=ps.length/\G {nx:=λ_=>R (.sh .no),rt:=R} (us.map .sh++Gs (N.length-us.length) .no)):↥(k+1) f fd ps (spV F):=by
 refine Fn.ok S (λvs H Q E h=>?_) (λaf A outer s H vs Q E hr h=>?_)
 ·obtain⟨W,B,us,R,eb,d,h,_⟩:=h;rw[<-d.length];exact(hF us R h).1
 ·obtain⟨t,p,g⟩:=hb af A outer s H E hr;obtain⟨W,B,us,R,eb,d,h,q⟩:=h;refine#[t,p,g (W:=W) (B:=B) (H0:=H) (A:=λ_ _=>False) #[eb,eb.refl,?_,λ_ _ z=>z.elim,λ_ _ z=>z.elim,λ_ _ _ z=>z.elim,λi u h=>?_,λi s w h hs=>?_,λi s h=>?_] (hF us R h).2 #[λo h=>?_,λ_ z=>z.elim,λ_ z=>z.elim,λw r h=>q _ _ _ h w r,λ_ _ z=>z.elim]]
  ·simp only[start,Ak,Ab,Dz,d.length]
  ·rw[Ej]at h;split at h
   ·rename_i hl;rw[Ab]at hl;rw[Ap,Af hl]at h;cases h;obtain⟨v,h1,h2⟩:=d.get (Af hl);refine#[v,?_,DU.mono (λb x n h=>#[λz=>z.elim n λ⟨_,z⟩=>z,h]) _ h2];unfold start;rw[Es (by rw[Ab, <-d.length];exact hl),Ap,h1];rfl
   ·rw[Cu]at h;split at h<;>cases h
  ·rw[Ej]at h;split at h
   ·rw[Ap]at h;cases hu:us[i]? <;>rw[hu]at h<;>cases h;cases hs
   ·rw[Cu]at h;split at h<;>cases h;cases hs
  ·rw[Ej]at h;split at h
   ·rw[Ap]at h;cases hu:us[i]? <;>rw[hu]at h<;>cases h;rfl
   ·rw[Cu]at h;split at h<;>cases h;rfl
  ·exact q _ _ _ h o.fw #[rfl,rfl]
inductive ItV(F:TV)(σ:St)(H:Hp)(Q:VK):Prop
 |mk (W B ρ R:_) (q0_:EE W B H ρ σ) (q1_:F ρ R) (q2_:∀s v H',R s->Fw W H H'->RO W B H H' s v->Q v H'):ItV F σ H Q
def tV(F:TV):TE:=λσ H Q=>ItV F σ H Q
inductive aZp(F:TVc)(σ:St)(H:Hp)(Q:(Bool->Hp->Prop)):Prop
 |mk (W B ρ R:_) (q0_:EE W B H ρ σ) (q1_:F ρ R) (q2_:∀c H',R c->Fw W H H'->Q c H'):aZp F σ H Q
def tVc(F:TVc):TT:=λσ H Q=>aZp F σ H Q
def VE.can{X:Cx}{e:Bu}{F:TV}(h:VE X e F):PE X e (tV F):=let⟨_,p,f⟩:=h;λaa s σ H Q I ⟨_,_,_,_,e,h,q⟩=>p aa s σ H Q I (f e h q)
def VC.can{X:Cx}{e:Bu}{F:TVc}(h:VC X e F):PT X e (tVc F):=let⟨_,p,f⟩:=h;λaa s σ H Q I ⟨_,_,_,_,e,h,q⟩=>p aa s σ H Q I (f e h q)
def VTh(own:Nat)(g:TG)(G:TVg):Prop:=∀{W B:Addr->Prop}{H:Hp}{ρ:EV}{σ:St}{u:U}{v:V}{k:EV->Prop}{Q:St->Hp->Prop},EE W B H ρ σ->DU W B H u v->G u ρ k->(∀ρ' σ',EE W B H ρ' σ'->σ'.length=σ.length->(∀i,own<=i->σ'[i]? =σ[i]?)->k ρ'->Q σ' H)->g v σ H Q
def EE.set{W B:Addr->Prop}{H:Hp}{σ:St}(e:EE W B H ρ σ)(d:DU W B H u v):EE W B H (ρ.set i (.sh u)) (σ.set i (some v)):=by
 refine#[e.eb,by rw[Bn,Bn,e.len],λj u' h=>?_,λj s w h hs=>?_]
 ·rcases cB h with ⟨rfl,q,hl⟩|⟨ne,h⟩
  ·cases q;exact#[v,get_set (e.len▸hl),d]
  ·obtain⟨v',h1,h2⟩:=e.sh j u' h;exact#[v',by rw[fW ne];exact h1,h2]
 ·rcases cB h with ⟨rfl,rfl,hl⟩|⟨ne,h⟩
  ·cases hs
  ·obtain⟨p,S,h1,h2⟩:=e.hd j s w h hs;exact#[p,S,by rw[fW ne];exact h1,h2]
def cO{own i:Nat}(h:i<own):VTh own (tO i) (pX i):=λe d h1 q=>q _ _ (e.set d) (Bn ..) (λj hj=>fW ∅) h1
def aJe:List Nat->TGs
 | []=>aZ7
 |i::is=>aV2 (tO i) (aJe is)
theorem aIf{own:Nat}{W B:Addr->Prop}{H:Hp}{Q:St->Hp->Prop}{k:EV->Prop}:∀{is:List Nat}{us:List U}{vs:List V}{ρ:EV}{σ:St},(∀i∈is,i<own)->EE W B H ρ σ->DUs W B H us vs->us.length=is.length->k ((is.zip us).foldl (λρ x=>ρ.set x.1 (.sh x.2)) ρ)->
  (∀ρ' σ',EE W B H ρ' σ'->σ'.length=σ.length->(∀i,own<=i->σ'[i]? =σ[i]?)->k ρ'->Q σ' H)->aJe is vs σ H Q
 | [],[],_,_,_,_,e,d,_,h,q=>#[d,q _ _ e rfl (λ_ _=>rfl) h]
 |i::is,u::us,_,ρ,σ,hi,e,⟨v,r,e1,d1,d2⟩,l,h,q=>#[v,r,e1,aIf (λj hj=>hi j (Ah _ hj)) (e.set (i:=i) d1) d2 (Dw l) h λρ' σ' e' l' a' h'=>q ρ' σ' e' (l'.trans (Bn ..)) (λj hj=>(a' j hj).trans (fW (by have:=hi i Ag;lia))) h']
def aSa{own:Nat}{K:Ac}{is:List Nat}{n:Nat}(hl:is.length=n)(h:∀i∈is,i<own):VTh own (aZ8 K n (aJe is)) (aLv is):=λ{W B H ρ σ u v k Q} e d h1 q=>by
 match u,d,h1 with
 |.tp us,⟨a,xs,e1,_,ha,ds⟩,⟨l,h1⟩=>exact#[a,xs,e1,SqT.of ha,by rw[<-ds.length,l,hl],aIf h e ds l h1 q]
def aWu:Sl->Sl
 |.ow l=> .br l
 |.oo w=> .bo w
 |s=>s
def aMa:∀s:Sl,(aWu s).hold=s.hold
 |.no=>rfl
 |.sh _=>rfl
 |.ow _=>rfl
 |.br _=>rfl
 |.oo _=>rfl
 |.bo _=>rfl
def aAp(no:Nat)(cap:#v[11])(ρ:EV):EV:=Gs no .no++cap.map λp=>match (ρ[p.2]? :Option Sl)with
 |some s=>aWu s
 |_=> .no
def aFk(h:(aAp no cap ρ)[i]? =some s)(hs:s≠.no):∃(j:Nat)(s0:Sl),no<=i/\(∀σ:St,(oN no cap σ)[i]? =some ((σ[j]? :Option (Option V))).join)/\ρ[j]? =some s0/\s=aWu s0:=by
 unfold aAp at h;rw[Ej]at h;split at h
 ·rw[Cu]at h;split at h
  ·cases h;exact(hs rfl).elim
  ·cases h
 ·rename_i hn;rw[Dz]at hn h;rw[Ap]at h;cases hc:cap[i-no]? with
  |none=>rw[hc]at h;cases h
  |some p=>
   rw[hc]at h;have h':=Bj h;dsimp only at h';split at h'
   ·rename_i s0 h0;refine#[p.2,s0,∅,λσ=>?_,h0,h'.symm];unfold oN;rw[Ga (by rw[Dz];lia),Dz,Ap,hc];rfl
   ·exact(hs h'.symm).elim
def EE.cap{W B:Addr->Prop}{H:Hp}{ρ:EV}{σ:St}{no:Nat}{cap:#v[11]}(e:EE W B H ρ σ):EE W B H (aAp no cap ρ) (oN no cap σ):=by
 refine#[e.eb,by simp[aAp,oN],λi u h=>?_,λi s w h hs=>?_]
 ·obtain⟨j,s0,_,c,h,e0⟩:=aFk h (by intro z;cases z);have:s0=.sh u:=by cases s0<;>cases e0<;>rfl
  obtain⟨v,h1,h2⟩:=e.sh j u (this▸h);exact#[v,by rw[c,h1];rfl,h2]
 ·obtain⟨j,s0,_,c,h0,rfl⟩:=aFk h (by rintro rfl;cases hs);rw[aMa]at hs;obtain⟨p,S,h1,h2⟩:=e.hd j s0 w h0 hs;exact#[p,S,by rw[c,h1];rfl,h2]
def mJ(f:U->(Option U->Prop)->Prop):List U->List U->(List U->Prop)->Prop
 | [],ag,R=>R ag
 |u::r,ag,R=>f u λo=>match o with
  |some x=>mJ f r (ag++[x]) R
  |none=>mJ f r ag R
def bBx(G:TVg)(F:TV)(ρ:EV):U->(Option U->Prop)->Prop:=λu k=>G u ρ λρ1=>F ρ1 λs=>s.es λx=>k (some x)
structure CI(W B:Addr->Prop)(H1:Hp)(D:Addr)(ρ:EV)(us:List U)(ag:List V)(σ:St)(H:Hp):Prop where
 ee:EE W (λb=>B b∨b=D) H ρ σ
 od:∀(i:Nat)(s:Sl)(w:Own),ρ[i]? =some s->s.hold=some w->∃p S,σ[i]? =some (some (V.ref p))/\(∀b,S b->¬W b)/\¬S D/\w.φ W (λb=>B b∨b=D) S H p
 fw:Fw W H1 H
 dl:H D=some (.lst ag)
 du:DUs W (λb=>B b∨b=D) H us ag
def EE.plus{W B:Addr->Prop}{H:Hp}{ρ:EV}{σ:St}{D:Addr}{x:HO}(e:EE W B H ρ σ)(n:H D=none)(m:Mt x:=by trivial):EE W (λb=>B b∨b=D) (upd H D x) ρ σ:=by
 have f:=e.eb.new (o:=x) n;have k:∀b o,¬B b->H b=some o->¬(B b∨b=D)/\upd H D x b=some o:=λb o nb h=>#[λz=>z.elim nb (aV h n),(e.eb.keep f b o nb h).2];refine#[#[λp hp=>?_,λp hp=> .inl (e.eb.wb p hp),f.wo],e.len,λi u h=>?_,λi s w h hs=>?_]
 ·rcases hp with hp|hp
  ·exact(e.eb.to f).bl p hp
  ·rw[hp,aL];exact#[_,rfl,m]
 ·obtain⟨v,h1,h2⟩:=e.sh i u h;exact#[v,h1,DU.mono k u h2]
 ·obtain⟨p,S,h1,h2,h3⟩:=e.hd i s w h hs;exact#[p,S,h1,h2,w.mono k (λb hb=>let⟨y,hx,_⟩:=w.th h3 b hb;aJ (aV hx n)) h3]
def EE.as{W B:Addr->Prop}{H:Hp}{σ σ':St}(e:EE W B H ρ σ)(ρo:∀(i:Nat)(s:Sl),ρ[i]? =some s->s≠Sl.no->σ'[i]? =σ[i]?)(l:σ'.length=σ.length):EE W B H ρ σ':=
 ⟨e.eb,e.len.trans l.symm,λi u h=>by rw[ρo i _ h (by intro z;cases z)];exact e.sh i u h,λi s w h hs=>by
  rw[ρo i s h (by rintro rfl;cases hs)];exact e.hd i s w h hs⟩
def CI.to{W B:Addr->Prop}{H1 H H2:Hp}{D:Addr}{ρ:EV}{us:List U}{ag:List V}{σ σ':St}(c:CI W B H1 D ρ us ag σ H)(nw:¬W D)(f:Fw W H H2)(ρo:∀(i:Nat)(s:Sl),ρ[i]? =some s->s≠Sl.no->σ'[i]? =σ[i]?)(l:σ'.length=σ.length):CI W B H1 D ρ us ag σ' H2:=
 ⟨(c.ee.to f).as ρo l,λi m w h hs=>by
  rw[ρo i m h (by rintro rfl;cases hs)];obtain⟨p,S,h1,h2,h3,h4⟩:=c.od i m w h hs;exact#[p,S,h1,h2,h3,w.to c.ee.eb f h2 h4],c.fw.trans f,f.fr _ _ nw c.dl,DUs.mono (c.ee.eb.keep f) us c.du⟩
def CI.put{W B:Addr->Prop}{H1 H:Hp}{D:Addr}{ρ:EV}{us:List U}{ag:List V}{σ:St}{u:U}(c:CI W B H1 D ρ us ag σ H)(n1:H1 D=none)(nw:¬W D)(d:DU W (λb=>B b∨b=D) H u v):CI W B H1 D ρ (us++[u]) (ag++[v]) σ (upd H D (.lst (ag++[v]))):=by
 have k:∀b o,¬(B b∨b=D)->H b=some o->¬(B b∨b=D)/\upd H D (.lst (ag++[v])) b=some o:=λb o nb h=>#[nb,(aJ (λz=>nb (.inr z))).trans h];have ww:∀p,W p->Wll (upd H D (.lst (ag++[v]))) p:=λp hp=>by
  obtain⟨x,y,z,h⟩:=c.fw.wo p hp;exact#[x,y,z,(aJ (λq:p=D=>nw (by rw[<-q];exact hp))).trans h]
 have od:∀(i:Nat)(s:Sl)(w:Own),ρ[i]? =some s->s.hold=some w->∃p S,σ[i]? =some (some (V.ref p))/\(∀b,S b->¬W b)/\¬S D/\w.φ W (λb=>B b∨b=D) S (upd H D (.lst (ag++[v]))) p:=λi s w h hs=>by
  obtain⟨p,S,h1,h2,h3,h4⟩:=c.od i s w h hs;exact#[p,S,h1,h2,h3,w.mono k (λb hb=>aJ (λq:b=D=>h3 (by rw[<-q];exact hb))) h4]
 refine#[#[#[λp hp=>?_,c.ee.eb.wb,ww],c.ee.len,λi u' h=>?_,λi m w h hs=>let⟨p,S,h1,h2,_,h4⟩:=od i m w h hs;#[p,S,h1,h2,h4]],od,#[λb o w h=>?_,ww],aL,DUs.mono k _ (c.du.app (DUs.one d))]
 ·by_cases z:p=D
  ·rw[z,aL];exact#[_,rfl,trivial]
  ·rw[aJ z];exact c.ee.eb.bl p hp
 ·obtain⟨v',h1,h2⟩:=c.ee.sh i u' h;exact#[v',h1,DU.mono k u' h2]
 ·rw[aJ (aV h n1)];exact c.fw.fr b o w h
def aOr{no:Nat}{cap:#v[11]}{ρ:EV}{σ σ':St}(a:∀i,no<=i->σ'[i]? =σ[i]?):∀(i:Nat)(s:Sl),(aAp no cap ρ)[i]? =some s->s≠Sl.no->σ'[i]? =σ[i]? :=λi s h n=>let⟨_,_,q,_⟩:=aFk h n;a i q
structure WkC(W B:Addr->Prop)(H1:Hp)(J:It)(l:List U):Prop where
 stop:∀{B2 H2},Tr B H1 B2 H2->Fw W H1 H2->J.stop l.length H2
 go:∀{B2 H2} i,Tr B H1 B2 H2->Fw W H1 H2->i<l.length->J.go i H2
 yld:∀{B2 H2}(i:Nat){x H' u},EB W B2 H2->Tr B H1 B2 H2->Fw W H1 H2->l[i]? =some u->J.yld i H2 x H'->Fw W H2 H'/\DU W B2 H' u x
def aZs(wi:TI)(F:TVa):Prop:=∀{W B:Addr->Prop}{ρ:EV}{σ:St}{H:Hp}{R:List U->Prop}{Q:It->Hp->Prop},EE W B H ρ σ->F ρ R->(∀l J H',R l->Fw W H H'->WkC W B H' J l->Q J H')->wi σ H Q
def VIc(X:Cx)(tg iter:Bu)(F:TVa):Prop:=∃wi,PI X tg iter wi/\aZs wi F
def vic{X:Cx}{tg iter:Bu}{F:TVa}(h:VI X tg iter F):VIc X tg iter F:=let⟨wi,p,f⟩:=h;#[wi,p,λe h q=>f e h λl J H' h1 w k=>q l J H' h1 w #[λt _=>k.stop t,λi t _ hi=>k.go i t hi,λi _ _ _ e t _ h y=>k.yld i e t h y]]
def aEx(no:Nat)(cap:#v[11])(Fi:TVa)(G:TVg)(F:TV):TV:=λρ R=>Fi ρ λl=>l.length<=10000/\mJ (bBx G F (aAp no cap ρ)) l [] λus=>R (.ow us)
def CW(W B:Addr->Prop)(H1:Hp)(D:Addr)(ρ:EV)(l:List U)(f:U->(Option U->Prop)->Prop)(R:List U->Prop)(i m:Nat)(σ:St)(H:Hp):Prop:=m=l.length-i/\i<=l.length/\∃us ag,CI W B H1 D ρ us ag σ H/\us.length<=i/\mJ f (l.drop i) us R
def CW.beg{W B:Addr->Prop}{H1:Hp}{D:Addr}{ρ:EV}{σ:St}{no:Nat}{cap:#v[11]}{l:List U}{f:U->(Option U->Prop)->Prop}{R:List U->Prop}(e:EE W B H1 ρ σ)(n1:H1 D=none)(h:mJ f l [] R):CW W B H1 D (aAp no cap ρ) l f R 0 l.length (oN no cap σ) (upd H1 D (.lst [])):=by
 refine#[by simp,Bt _,[],[],#[e.cap.plus n1,λi m w h hs=>?_,e.eb.new n1,aL,rfl],Am _,h];obtain⟨p,S,h1,h2,h3⟩:=e.cap.hd i m w h hs;have f:=e.eb.new (o:=.lst []) n1;refine#[p,S,h1,h2,λz=>?_,w.mono (λb o nb h=>#[λz=>z.elim nb (aV h n1),(e.eb.keep f b o nb h).2]) (λb hb=>let⟨x,hx,_⟩:=w.th h3 b hb;aJ (aV hx n1)) h3];obtain⟨x,hx,_⟩:=w.th h3 D z;rw[n1]at hx;cases hx
def CW.turn{W B:Addr->Prop}{H1 H H3:Hp}{D:Addr}{ρ:EV}{σ σ0:St}{no:Nat}{cap:#v[11]}{l:List U}{f:U->(Option U->Prop)->Prop}{R:List U->Prop}{i m:Nat}{J:It}{x:V}(e:EE W B H1 ρ σ0)(n1:H1 D=none)(ll:l.length<=10000)(wk:WkC W B H1 J l)(hlt:i<l.length)(c:CW W B H1 D (aAp no cap ρ) l f R i m σ H)(y:J.yld i H x H3):
  ∃u us,EE W (λb=>B b∨b=D) H3 (aAp no cap ρ) σ/\DU W (λb=>B b∨b=D) H3 u x/\f u (λo=>match o with|some y=>mJ f (l.drop (i+1)) (us++[y]) R|none=>mJ f (l.drop (i+1)) us R)/\
   (∀(y:U)(v:V)(σ':St)(H':Hp),mJ f (l.drop (i+1)) (us++[y]) R->Fw W H3 H'->DU W (λb=>B b∨b=D) H' y v->σ'.length=σ.length->(∀i,no<=i->σ'[i]? =σ[i]?)->∃ys,H' D=some (.lst ys)/\ys.length<sizeLine/\∃m',m'<m/\CW W B H1 D (aAp no cap ρ) l f R (i+1) m' σ' (upd H' D (.lst (ys++[v]))))/\
   (∀(σ':St)(H':Hp),mJ f (l.drop (i+1)) us R->Fw W H3 H'->σ'.length=σ.length->(∀i,no<=i->σ'[i]? =σ[i]?)->∃m',m'<m/\CW W B H1 D (aAp no cap ρ) l f R (i+1) m' σ' H'):=by
 have nw:¬W D:=λw=>e.eb.dm D (e.eb.wb D w) n1;obtain⟨rfl,hi,us,ag,c,hl,h2⟩:=c;rw[Dv hlt]at h2;have tr:Tr B H1 (λb=>B b∨b=D) H:=λb o nb h=>#[λz=>z.elim nb (aV h n1),(e.eb.keep c.fw b o nb h).2];obtain⟨w3,d⟩:=wk.yld i c.ee.eb tr c.fw (Af hlt) y;have c3:=c.to (σ':=σ) nw w3 (λ_ _ _ _=>rfl) rfl;have hz:(10000:Nat)<sizeLine:=by decide
 refine#[l[i],us,c3.ee,d,h2,λy v σ' H' h3 f3 d3 l3 a3=>?_,λσ' H' h3 f3 l3 a3=>#[l.length-(i+1),∅,rfl,hlt,us,ag,c3.to nw f3 (aOr a3) l3,∅,h3]];have c4:=c3.to nw f3 (aOr a3) l3;have hz2:=c4.du.length;refine#[ag,c4.dl,∅,l.length-(i+1),∅,rfl,hlt,us++[y],ag++[v],c4.put n1 nw d3,?_,h3];rw[Ak];show us.length+1<=i+1
 lia
def CW.end_{W B:Addr->Prop}{H0 H1 H:Hp}{D:Addr}{ρ:EV}{σ:St}{l:List U}{f:U->(Option U->Prop)->Prop}{R:Sl->Prop}{m:Nat}(w:Fw W H0 H1)(n1:H1 D=none)(c:CW W B H1 D ρ l f (λus=>R (.ow us)) l.length m σ H)(q:∀s v H',R s->Fw W H0 H'->RO W B H0 H' s v->Q v H'):Q (.ref D) H:=by
 obtain⟨_,_,us,ag,c,_,h2⟩:=c;rw[Lh]at h2;exact q _ _ _ h2 (w.trans c.fw) (RO.back (s:=.ow us) w #[D,ag,rfl,n1,c.dl,c.du])
def aBl{no:Nat}{cap:#v[11]}{Fi:TVa}{G:TVg}{F:TV}(hi:aZs wi Fi)(hg:VTh no g G):VT (aCv no cap wi g (tV F)) (aEx no cap Fi G F):=λ{W B ρ σ H R Q} e h q=>hi e h λl J H1 h1 w wk D n1=>by
 have e1:=e.to w;refine#[CW W B H1 D (aAp no cap ρ) l _ _,#[_,CW.beg e1 n1 h1.2],λi m σ2 H2 c=>?_];have tr:Tr B H1 (λb=>B b∨b=D) H2:=let⟨_,_,_,_,c,_⟩:=c;λb o nb h=>#[λz=>z.elim nb (aV h n1),(e1.eb.keep c.fw b o nb h).2];have fw:Fw W H1 H2:=let⟨_,_,_,_,c,_⟩:=c;c.fw;by_cases hlt:i<l.length
 ·refine .inr #[wk.go i tr fw hlt,λx H3 y=>?_];obtain⟨u,us,e3,d3,h3,put,_⟩:=c.turn e1 n1 h1.1 wk hlt y;refine hg e3 d3 h3 λρ' σ' e' l' a' h'=>#[W,_,ρ',_,e',h',λs v H5 h5 w5 r5=>?_];obtain⟨y,hy,dy⟩:=r5.du e'.eb h5;exact put y v σ' H5 hy w5 dy l' a'
 ·have hi':=c.2.1;obtain rfl:i=l.length:=by lia
  exact .inl #[wk.stop tr fw,c.end_ w n1 q]
def iK{elt iter tg:Bu}{own:List Str}{cap:#v[11]}{Fi:TVa}{G:TVg}{F:TV}(sc0:Scope)(N0:List Str)(hsc:X.env.scope=sc0)(hN:X.N=N0)(hcell:HC X)
  (ok:aBo scope sc0 cap N0) (hc:X.calm=true) (hi:VIc X tg iter Fi) (hg:∀cl C s2 H2 fp,PG #v[5] tg g) (hG:VTh own.length g G) (he:∀cl C s2 H2 fp,VE #v[5] elt F)
  (hs:FS X iter:=by intro _;rfl):VE X #v[7] (aEx own.length cap Fi G F):=
 let⟨_,p,f⟩:=hi;#[_,bAu sc0 N0 hsc hN hcell ok hc p hg (λcl C s2 H2 fp=>(he cl C s2 H2 fp).can) hs,aBl f hG]
def aWi{x:Str}{elt iter tg:Bu}{own:List Str}{cap:#v[11]}{pos spos py:Pos}{Fi:TVa}{G:TVg}{F:TV}(hnd:X.N.Nodup)(sc0:Scope)(N0:List Str)(hsc:X.env.scope=sc0)(hN:X.N=N0)(hcell:HC X)
  (ok:aBo scope sc0 cap N0) (hc:X.calm=true) (hi:VIc X tg iter Fi) (hg:∀cl C s2 H2 fp,PG #v[5] tg g) (hG:VTh own.length g G) (he:∀cl C s2 H2 fp,VE #v[5] elt F)
  (hi':X.N[i]? =some x:=by rfl) (hx:Loc X.env.scope x:=by exact Dy rfl) (hsw:Ed #v[7] (some (.Name x py)) spos.line X.env=pure true:=by rfl)
  (hs:FS X iter:=by intro _;rfl) (hf:FL X x:=by trivial):VS X (.Assign [.Name x py] #v[7] spos) (aYt i (aEx own.length cap Fi G F)):=
 let⟨_,p,f⟩:=hi;#[_,bAz hnd hi' hx sc0 N0 hsc hN hcell ok hc p hg (λcl C s2 H2 fp=>(he cl C s2 H2 fp).can) hsw hs hf,λo h j=>aBl f hG o.ee h λs v H1 h1 w r=>aJ4 o w r h1 j.nx]
def aGe{a:Bu}{op}{F:TV}(h:VE X a F):VE X (.BoolOp op [a] pos) F:=let⟨_,p,f⟩:=h;#[_,aXt p,f]
def bDn(c:TVc)(a b:TV):TV:=λρ R=>c ρ λx=>(x=true->a ρ R)/\(x=false->b ρ R)
def aY0{c a b:Bu}{C:TVc}{F G:TV}(hc:VC X c C)(ha:VE X a F)(hb:VE X b G):VE X (.IfExp c a b pos) (bDn C F G):=
 let⟨_,p,f⟩:=hc;let⟨_,p1,f1⟩:=ha;let⟨_,p2,f2⟩:=hb;⟨_,aQ4 p p1 p2,λe h q=>f e h λc H1 h1 w=>by
  cases c with
  |true=>exact aMk (f1 (e.to w) (h1.1 rfl) λs v H2 h2 w2 r=>q _ _ _ h2 (w.trans w2) (r.back w))
  |false=>exact aCc (f2 (e.to w) (h1.2 rfl) λs v H2 h2 w2 r=>q _ _ _ h2 (w.trans w2) (r.back w))⟩
def aR4(g:List U->(Sl->Prop)->Prop)(G:TVa):TV:=λρ R=>G ρ λus=>g us R
def bR{id:String}{g:List U->(Sl->Prop)->Prop}{x:Str}{a:Bu}{es:List Bu}{G:TVa}{p pos:Pos}(hc:gQ X (.builtin id) r)(cb:CB r g)(hm:X.mg x=none)(hv:Fx x=some (.builtin id))(ha:VB X (a::es) G)(hg:Gl X x:=by rfl)(hn:x≠"__name__":=by decide)(hdb:ND x:=by decide)
  (he:SE X a es:=by rfl) (hpl:BT X pos es:=by rfl):VE X (.Call (.Name x p) (a::es) [] pos) (aR4 g G):=
 let⟨_,p,f⟩:=ha;#[_,qJ hc hg hm hv p hn hdb he hpl,λe h q=>f e h λus vs H1 h1 w d=>cb (e.to w).eb d h1 λs z H2 h2 w2 r=>q _ _ _ h2 (w.trans w2) (r.back w)]
def eZ{T:String}{g:List U->(Sl->Prop)->Prop}{x:Str}{a:Bu}{es:List Bu}{G:TVa}{p pos:Pos}(hc:gQ X (.type T) r)(cb:CB r g)(hm:X.mg x=none)(hv:Fx x=some (.type T))(ha:VB X (a::es) G)(hg:Gl X x:=by rfl)(hn:x≠"__name__":=by decide)(hdb:ND x:=by decide)
  (he:SE X a es:=by rfl) (hpl:BT X pos es:=by rfl):VE X (.Call (.Name x p) (a::es) [] pos) (aR4 g G):=
 let⟨_,p,f⟩:=ha;#[_,qK hc hg hm hv p hn hdb he hpl,λe h q=>f e h λus vs H1 h1 w d=>cb (e.to w).eb d h1 λs z H2 h2 w2 r=>q _ _ _ h2 (w.trans w2) (r.back w)]
def gIx:U->U->(Sl->Prop)->Prop
 |.ls l,.v (.int i),R=>∃u,atI l i=some u/\R (.sh u)
 |.tp l,.v (.int i),R=>∃u,atI l i=some u/\R (.sh u)
 |_,_,_=>False
def aZ{K:Ac}:O2 (rIx K) gIx:=λ{W B H u v x y R Q} e d1 d2 h q=>by
 unfold gIx at h;split at h
 ·exact .inl (aXf e d1 d2 h q)
 ·exact .inr (.inl (aXg e d1 d2 h q))
 ·exact h.elim
def aZ2:U->U->(Sl->Prop)->Prop
 |.v (.int i),.v (.int j),R=>R (.sh (.n (i+j)))
 |.v (.str a),.v (.str b),R=>a.length+b.length<=10000/\R (.sh (.s (a++b)))
 |.ls l,.ls m,R=>l.length+m.length<=10000/\R (.ow (l++m))
 |.tp l,.tp m,R=>l.length+m.length<=10000/\R (.sh (.tp (l++m)))
 |_,_,_=>False
def sz4(h:n<=10000):n<=sizeLine:=Bs h ⋯
def aWa(X:Cx):R2:=λx y H Q=>(∃i j,x=.int i/\y=.int j/\Q (.int (i+j)) H)∨(∃i j,x=.str i/\y=.str j/\i.length+j.length<=sizeLine/\Q (.str (i++j)) H)∨bA3 x y H Q∨aWb X.K x y H Q∨∃a b ys,x=.ref a/\y=.ref b/\SqT X.K H a []/\SqT X.K H b ys/\Q (.ref b) H
def bN:OpR X (Gw .Add) (aWa X):=vV.or (aJu.or (aXi.or (aTp.or aQy)))
def cC:O2 (aWa X) aZ2:=λ{W B H u v x y R Q} e d1 d2 h q=>by
 unfold aZ2 at h;split at h
 ·exact .inl #[_,_,d1.int,d2.int,q _ _ _ h e.refl #[rfl,rfl]]
 ·exact .inr (.inl #[_,_,d1.fl.1,d2.fl.1,sz4 h.1,q _ _ _ h.2 e.refl #[rfl,rfl]])
 ·obtain⟨p,xs,rfl,_,h1,ds⟩:=d1.ls e;obtain⟨p',ys,rfl,_,h2,ds'⟩:=d2.ls e;have:=ds.length;have:=ds'.length;refine .inr (.inr (.inl #[p,p',xs,ys,rfl,rfl,h1,h2,sz4 ∅,λr n=>?_]));have f:=e.new (o:=.lst (xs++ys)) n;exact q _ _ _ h.2 f #[r,_,rfl,n,aL,DUs.mono (λb o nb h=>#[λz=>z.elim nb (aV h n),(e.keep f b o nb h).2]) _ (ds.app ds')]
 ·rename_i l m;obtain⟨p,xs,rfl,_,h1,ds⟩:=d1.tp;obtain⟨p',ys,rfl,nb,h2,ds'⟩:=d2.tp;have:=ds.length;have:=ds'.length;cases l with
  |nil=>
   rw[show xs=[]from ds]at h1;exact .inr (.inr (.inr (.inr #[p,p',ys,rfl,rfl,SqT.of h1,SqT.of h2,q (.sh (.tp m)) _ _ h.2 e.refl #[p',ys,rfl,nb,h2,ds']])))
  |cons a l=>
   refine .inr (.inr (.inr (.inl #[p,p',xs,ys,rfl,rfl,SqT.of h1,SqT.of h2,?_,sz4 ∅,λz=>?_,λ_ r n=>?_])))
   ·intro z;rw[z]at ds;obtain⟨_,_,e1,_⟩:=ds;cases e1
   ·subst z;have hm:m=[]:=Fl.mp (by simpa using this);subst hm;exact q _ _ _ h.2 e.refl #[p,xs,rfl,by assumption,h1,by rw[Bi];exact ds]
   ·have f:=e.new (o:=.tup (xs++ys)) n;exact q _ _ _ h.2 f #[r,_,rfl,e.nw n,aL,DUs.mono (e.keep f) _ (ds.app ds')]
 ·exact h.elim
def aKe(g g':U->U->(Sl->Prop)->Prop)(a b c:TV):TV:=λρ R=>a ρ λs=>b ρ λs'=>g s.rd s'.rd λr=>match r.rd with
 |.v (.bl k)=>(k=true->c ρ λs''=>g' s'.rd s''.rd R)/\(k=false->R (.sh (.b false)))
 |_=>False
def aIg{r r':R2}{g g':U->U->(Sl->Prop)->Prop}{ta tb tc:TE}{F G E:TV}(o:O2 r g)(o':O2 r' g')(ha:VT ta F)(hb:VT tb G)(hc:VT tc E):VT (aKa r r' ta tb tc) (aKe g g' F G E):=λe h q=>by
 refine ha e h λs v H1 h1 f1 r1=>?_;have e1:=e.to f1;refine hb e1 h1 λs' v' H2 h2 f2 r2=>?_;have e2:=e1.to f2;have db2:=r2.db e1.eb;refine o e2.eb ((r1.db e.eb).to e1.eb f2) db2 h2 λs3 z H3 h3 f3 r3=>?_;have d:=r3.db e2.eb;revert h3 d;generalize s3.rd=u;intro h3 d;split at h3
 ·rename_i k;refine#[k,d.fl.1,?_];have e3:=e2.to f3;cases k with
  |true=>
   refine aMk (hc e3 (h3.1 rfl) λs4 v4 H4 h4 f4 r4=>?_);refine o' (e3.to f4).eb ((db2.to e2.eb f3).to e3.eb f4) (r4.db e3.eb) h4 λs5 v5 H5 h5 f5 r5=>?_;have ff:=((f1.trans f2).trans f3).trans f4;exact q _ _ _ h5 (ff.trans f5) (r5.back ff)
  |false=>exact aCc (q _ _ _ (h3.2 rfl) ((f1.trans f2).trans f3) #[rfl,rfl])
 ·exact h3.elim
def aR7{op op':Rw}{r r':R2}{g g':U->U->(Sl->Prop)->Prop}{a b c:Bu}{F G E:TV}(ho:OpR X (Ee op) r)(ho':OpR X (Ee op') r')(o:O2 r g)(o':O2 r' g')(ha:VE X a F)(hb:VE X b G)(hc:VE X c E)(hm:Ux [op,op'] [b,c]=false:=by with_unfolding_all rfl):VE X (.Compare a [op,op'] [b,c] pos) (aKe g g' F G E):=
 let⟨_,p,f⟩:=ha;let⟨_,p1,f1⟩:=hb;let⟨_,p2,f2⟩:=hc;#[_,aQ2 ho ho' p p1 p2 hm,aIg o o' f f1 f2]
def aC5{op op':Rw}{r r':R2}{g g':U->U->(Sl->Prop)->Prop}{a b c:Bu}{F G E:TV}(ho:OpR X (Ee op) r)(ho':OpR X (Ee op') r')(o:O2 r g)(o':O2 r' g')(ha:VE X a F)(hb:VE X b G)(hc:VE X c E)(hm:Ux [op,op'] [b,c]=false:=by with_unfolding_all rfl):VC X (.Compare a [op,op'] [b,c] pos) (uJ (aKe g g' F G E)):=
 let⟨_,p,f⟩:=ha;let⟨_,p1,f1⟩:=hb;let⟨_,p2,f2⟩:=hc;#[_,aRb ho ho' p p1 p2 hm,aBm (aIg o o' f f1 f2)]
def vUn(g:Int->Int)(a:TV):TV:=λρ R=>a ρ λs=>match s.rd with
 |.v (.int i)=>R (.sh (.n (g i)))
 |_=>False
def aKf{a:Bu}{F:TV}(ha:VE X a F):VE X (.UnaryOp .USub a pos) (vUn (λi=> -i) F):=let⟨_,p,f⟩:=ha;⟨_,bAy aYl p,λe h q=>f e h λs v H1 h1 f1 r=>by
 have d:=r.db e.eb;revert h1 d;generalize s.rd=u;intro h1 d;split at h1
 ·exact#[_,d.int,q _ _ _ h1 f1 #[rfl,rfl]]
 ·exact h1.elim⟩
def bDp(a:TV)(k:Str):TV:=λρ R=>a ρ λs=>match s.rd with
 |.dk ns us=>aDk k ns us R
 |_=>False
theorem aBa{W B:Addr->Prop}{H:Hp}{f:Str}{R:Sl->Prop}:∀{ns:List Str}{us:List U}{xs:List V},DUs W B H us xs->aDk f ns us R->∃u v,R (.sh u)/\DU W B H u v/\uK ((ns.map Cm).zip xs:List (Key×V)) (Cm f)=some v
 |n::ns,u::us,_,⟨x,r,e,h,t⟩,q=>by
  subst e;rcases q with ⟨rfl,q⟩|⟨ne,q⟩
  ·exact#[u,x,q,h,by rw[Br,Ic,uM rfl]]
  ·obtain⟨u',v,h1,h2,h3⟩:=aBa t q;refine#[u',v,h1,h2,?_];rw[Br,Ic,uL (λz=>ne (Oa z))];exact h3
def mD{a:Bu}{k:Str}{j pos p}{F:TV}(hu:X.A.units+1<cLine)(ha:VE X a F)(hs:aFa (.Constant (.str k) j p):=by exactλ_ _=>rfl):VE X (.Subscript a (.Constant (.str k) j p) pos) (bDp F k):=let⟨_,p,f⟩:=ha;⟨_,aBe hu p tY hs,λe h q=>f e h λs v H1 h1 f1 r=>by
 have d:=r.db e.eb;revert h1 d;generalize s.rd=u;intro h1 d;split at h1
 ·obtain⟨p,xs,rfl,_,hp,_,ds⟩:=d.dk;obtain⟨u,v,h2,h3,h4⟩:=aBa ds h1;refine#[p,v,rfl,?_,q _ _ _ h2 f1 h3];rw[<-h4];exact aBp.k (k:=Cm k) hp
 ·exact h1.elim⟩
def DBs.one{W B:Addr->Prop}{H:Hp}(h:DBs W B H [u] vs):∃x,vs=[x]/\DB W B H u x:=by
 obtain⟨x,r,e,d,t⟩:=h;obtain rfl:r=[]:=t;exact#[x,e,d]
def DBs.two{W B:Addr->Prop}{H:Hp}{u v:U}(h:DBs W B H [u,v] vs):∃x y,vs=[x,y]/\DB W B H u x/\DB W B H v y:=by
 obtain⟨x,r,e,d,y,r',rfl,d',t⟩:=h;obtain rfl:r'=[]:=t;exact#[x,y,e,d,d']
def aZ6:List U->(Sl->Prop)->Prop
 | [.ls l],R=>R (.sh (.n l.length))
 | [.tp l],R=>R (.sh (.n l.length))
 |_,_=>False
def fV{K:Ac}:CB (λxs H Q=>∃p ys,xs=[.ref p]/\(SqL K H p ys∨SqT K H p ys)/\Q (.int ys.length) H) aZ6:=λ{W B H us vs R Q} e d h q=>by
 unfold aZ6 at h;split at h
 ·obtain⟨x,rfl,dd⟩:=DBs.one d;obtain⟨p,xs,rfl,_,hp,ds⟩:=dd.ls e;exact#[p,xs,rfl,.inl (SqL.of hp),by rw[<-ds.length];exact q _ _ _ h e.refl #[rfl,rfl]]
 ·obtain⟨x,rfl,dd⟩:=DBs.one d;obtain⟨p,xs,rfl,_,hp,ds⟩:=dd.tp;exact#[p,xs,rfl,.inr (SqT.of hp),by rw[<-ds.length];exact q _ _ _ h e.refl #[rfl,rfl]]
 ·exact h.elim
def DUs.bls{W B:Addr->Prop}{H:Hp}:∀{bs:List Bool}{xs:List V},DUs W B H (bs.map U.b) xs->xs=bs.map V.bl
 | [],_,h=>h
 |_::_,_,⟨x,r,e,d,t⟩=>by rw[e,d.1,DUs.bls t];rfl
def DUs.ints{W B:Addr->Prop}{H:Hp}:∀{ns:List Int}{xs:List V},DUs W B H (ns.map U.n) xs->xs=ns.map V.int
 | [],_,h=>h
 |_::_,_,⟨x,r,e,d,t⟩=>by rw[e,d.1,DUs.ints t];rfl
inductive aVc(f:List Bool->Bool)(us:List U)(R:(Sl->Prop)):Prop
 |mk (bs:List Bool) (q0_:us=[.ls (bs.map U.b)]) (q1_:R (.sh (.b (f bs)))):aVc f us R
def bCu(f:List Bool->Bool):List U->(Sl->Prop)->Prop:=λus R=>aVc f us R
def aI3{X:Cx}{f:List Bool->Bool}(hc:X.calm=true):CB (λxs H Q=>∃(p:Addr)(bs:List Bool),xs=[.ref p]/\SqL X.K H p (bs.map V.bl)/\X.calm=true/\Q (.bl (f bs)) H) (bCu f):=λ{W B H us vs R Q} e d ⟨bs,eu,h⟩ q=>by
 subst eu;obtain⟨x,rfl,dd⟩:=DBs.one d;obtain⟨p,xs,rfl,_,hp,ds⟩:=dd.ls e;rw[ds.bls]at hp;exact#[p,bs,rfl,SqL.of hp,hc,q _ _ _ h e.refl #[rfl,rfl]]
def aZ3:List U->(Sl->Prop)->Prop
 | [.v (.int i)],R=>R (.sh (.n i))
 | [.v (.bl k)],R=>R (.sh (.n (if k then 1 else 0)))
 |_,_=>False
def aOs:CB (λxs H Q=>(∃i,xs=[.int i]/\Q (.int i) H)∨∃k,xs=[.bl k]/\Q (.int (if k then 1 else 0)) H) aZ3:=λ{W B H us vs R Q} e d h q=>by
 unfold aZ3 at h;split at h
 ·obtain⟨x,rfl,dd⟩:=DBs.one d;exact .inl #[_,by rw[dd.int],q _ _ _ h e.refl #[rfl,rfl]]
 ·obtain⟨x,rfl,dd⟩:=DBs.one d;exact .inr #[_,by rw[dd.fl.1],q _ _ _ h e.refl #[rfl,rfl]]
 ·exact h.elim
def aV3:List U->(Sl->Prop)->Prop
 | [.ls l],R=>R (.ow l)
 | [.tp l],R=>R (.ow l)
 |_,_=>False
def qY{K:Ac}:CB (aRi K) aV3:=λ{W B H us vs R Q} e d h q=>by
 have fin:∀{l ys}(ds:DUs W B H l ys)(h:R (.ow l)) r,H r=none->Q (.ref r) (upd H r (.lst ys)):=λ{l ys} ds h r n=>by
  have f:=e.new (o:=.lst ys) n;exact q _ _ _ h f #[r,_,rfl,n,aL,DUs.mono (λb o nb h=>#[λz=>z.elim nb (aV h n),(e.keep f b o nb h).2]) _ ds]
 unfold aV3 at h;split at h
 ·obtain⟨x,rfl,dd⟩:=DBs.one d;obtain⟨p,xs,rfl,_,hp,ds⟩:=dd.ls e;exact#[p,xs,rfl,.inl (SqL.of hp),fin ds h]
 ·obtain⟨x,rfl,dd⟩:=DBs.one d;obtain⟨p,xs,rfl,_,hp,ds⟩:=dd.tp;exact#[p,xs,rfl,.inr (SqT.of hp),fin ds h]
 ·exact h.elim
def aPm:List U->(Sl->Prop)->Prop
 | [.ls l],R=>R (.sh (.tp l))
 | [.tp l],R=>R (.sh (.tp l))
 |_,_=>False
def aB4{K:Ac}:CB (aLh K) aPm:=λ{W B H us vs R Q} e d h q=>by
 unfold aPm at h;split at h
 ·obtain⟨x,rfl,dd⟩:=DBs.one d;obtain⟨p,xs,rfl,_,hp,ds⟩:=dd.ls e;refine#[p,xs,rfl,.inl #[SqL.of hp,λr n=>?_]];have f:=e.new (o:=.tup xs) n;exact q _ _ _ h f #[r,_,rfl,e.nw n,aL,DUs.mono (e.keep f) _ ds]
 ·obtain⟨x,rfl,dd⟩:=DBs.one d;obtain⟨p,xs,rfl,nb,hp,ds⟩:=dd.tp;exact#[p,xs,rfl,.inr #[SqT.of hp,q _ _ _ h e.refl #[p,xs,rfl,nb,hp,ds]]]
 ·exact h.elim
def eE{x:Str}{i:Int}{t:Tok}(hm:X.mg x=some (.int i t))(hg:Gl X x:=by rfl)(hd:ND x:=by decide):VE X (.Name x pos) (vC (.n i)):=#[_,aT0 (v:=.int i) hg hm #[_,rfl] hd,aSg rfl]
def lN{st:Stmt}:VS X st (λ_ _=>False):=#[_,qM,λ_ h _=>h]
def bCf{e:Bu}{F:TV}(he:VE X e F)(hs:Ed e none pos.line X.env=pure false:=by rfl):VS X (.Expr e pos) (vDo F):=let⟨_,p,f⟩:=he;#[_,rD p hs,λo h j=>f o.ee h λs v H1 h1 w r=>j.nx (o.to w) h1]
def aUx(neg:Bool)(F:TV):TV:=λρ R=>F ρ λs=>match s.rd with
 |.v x=>R (.sh (.b (if neg then !decide (x=.non)else decide (x=.non))))
 |.op _=>False
 |_=>R (.sh (.b neg))
def DB.non{W B:Addr->Prop}{H:Hp}(e:EB W B H)(d:DB W B H u y)(h1:∀x,u≠.v x)(h2:∀o,u≠.op o):y≠.non:=by
 intro z;subst z;cases u with
 |v x=>exact h1 x rfl
 |op o=>exact h2 o rfl
 |tp l=>obtain⟨_,_,q,_⟩:=d.tp;cases q
 |ls l=>obtain⟨_,_,q,_⟩:=d.ls e;cases q
 |ob C ns us=>obtain⟨_,_,_,q,_⟩:=d.ob;cases q
 |dk ns us=>obtain⟨_,_,q,_⟩:=d.dk;cases q
 |wl=>
  rcases d with ⟨_,q,_⟩|⟨_,_,_,q,_⟩<;>cases q
def aZa{F:TV}(f:VT t F):VT (bBi t) (aUx false F):=λe h q=>f e h λs v H1 h1 w r=>by
 have d:=r.db e.eb;revert h1 d;generalize s.rd=u;intro h1 d;split at h1
 ·rw[d.fl.1];exact q _ _ _ h1 w #[rfl,rfl]
 ·exact h1.elim
 ·rename_i n1 n2;rw[Aa6 (d.non (e.to w).eb n1 n2)];exact q _ _ _ h1 w #[rfl,rfl]
def aU5{F:TV}(f:VT t F):VT (aWf t) (aUx true F):=λe h q=>f e h λs v H1 h1 w r=>by
 have d:=r.db e.eb;revert h1 d;generalize s.rd=u;intro h1 d;split at h1
 ·rw[d.fl.1];exact q _ _ _ h1 w #[rfl,rfl]
 ·exact h1.elim
 ·rename_i n1 n2;rw[Aa6 (d.non (e.to w).eb n1 n2)];exact q _ _ _ h1 w #[rfl,rfl]
def aWk{F:TV}(h:VT t F):VTc (tB t) (uJ F):=aBm h
def aYw{a:Bu}{j pos pos'}{F:TV}(ha:VE X a F):VC X (.Compare a [.Is] [.Constant .none j pos'] pos) (uJ (aUx false F)):=let⟨_,p,f⟩:=ha;#[_,aRc (aXk p),aWk (aZa f)]
def aLp{a:Bu}{j pos pos'}{F:TV}(ha:VE X a F):VC X (.Compare a [.IsNot] [.Constant .none j pos'] pos) (uJ (aUx true F)):=let⟨_,p,f⟩:=ha;#[_,aRc (aTt p),aWk (aU5 f)]
inductive Tg where
 |non|bl|int|str|tp|ls|dk
def tyU:U->Option Tg
 |.v .non=>some .non
 |.v (.bl _)=>some .bl
 |.v (.int _)=>some .int
 |.v (.str _)=>some .str
 |.tp _=>some .tp
 |.ls _=>some .ls
 |.dk _ _=>some .dk
 |_=>none
def Tg.nm:Tg->String
 |.non=>"NoneType"|.bl=>"bool"|.int=>"int"|.str=>"str"|.tp=>"tuple"|.ls=>"list"|.dk=>"dict"
def isT:Tg->Tg->Bool
 |.non,.non=>true
 |.bl,.bl=>true
 |.bl,.int=>true
 |.int,.int=>true
 |.str,.str=>true
 |.tp,.tp=>true
 |.ls,.ls=>true
 |.dk,.dk=>true
 |_,_=>false
def bBp{W B:Addr->Prop}{H:Hp}{u:U}{t:Tg}{K:Ac}(e:EB W B H)(d:DB W B H u y)(h:tyU u=some t):wN K H y (.type t.nm):=by
 unfold tyU at h;split at h<;>cases h
 ·rw[d.fl.1];exact .non
 ·rw[d.fl.1];exact .bl _
 ·rw[d.fl.1];exact .int _
 ·rw[d.fl.1];exact .str _
 ·obtain⟨p,xs,rfl,_,h,_⟩:=d.tp;exact .tup h
 ·obtain⟨p,xs,rfl,_,h,_⟩:=d.ls e;exact .lst h
 ·obtain⟨p,xs,rfl,_,h,_⟩:=d.dk;exact .dK h
def aXb{K:Ac}{t n:Tg}(hn:n≠.non):Ov K (.type t.nm) (.type n.nm)=some (isT t n):=by
 cases t<;>cases n<;>first|rfl|exact(hn rfl).elim
def bDo(n:Tg)(F:TV):TV:=λρ R=>F ρ λs=>∃t,tyU s.rd=some t/\R (.sh (.b (isT t n)))
def rZ{x:Str}{a:Bu}{F:TV}{p p' pos:Pos}(n:Tg)(hn:n≠.non)(hm:X.mg "isinstance"=none)(hm2:X.mg x=none)(hv:Fx x=some (.type n.nm))(ha:VE X a F)(hg:Gl X "isinstance":=by rfl)(hg2:Gl X x:=by rfl)(h1:x≠"__name__":=by decide)(h2:ND x:=by decide)
  (hs:Bz [a,.Name x p'] X.env=(false,eval a X.env)::Bz [.Name x p'] X.env:=by rfl) (hs2:Bz [.Name x p'] X.env=(false,eval (.Name x p') X.env)::Bz [] X.env:=by rfl) (hpl:BT X pos [.Name x p']:=by rfl):
  VE X (.Call (.Name "isinstance" p) [a,.Name x p'] [] pos) (bDo n F):=
 let⟨_,q,f⟩:=ha;⟨_,qJ aGz hg hm boot_isinstance (dW q (dW (aTv (v:=.ty n.nm) hg2 hm2 hv rfl h1 h2) iZ hs2) hs) ⋯ ⋯ hs hpl,λe h q=>f e h λs v H1 ⟨t,ht,h1⟩ w r=>
  #[_,_,_,_,rfl,bBp (K:=X.K) (e.to w).eb (r.db e.eb) ht,aXb hn,q _ _ _ h1 w #[rfl,rfl]]⟩
def gIn(neg:Bool):U->U->(Sl->Prop)->Prop
 |u,.ls l,R=>u.dt 40/\U.dts 40 l/\R (.sh (.b (if neg then !(l.any λe=>e.eq u)else l.any λe=>e.eq u)))
 |u,.tp l,R=>u.dt 40/\U.dts 40 l/\R (.sh (.b (if neg then !(l.any λe=>e.eq u)else l.any λe=>e.eq u)))
 |_,_,_=>False
theorem aI7(u:U):∀l:List U,((U.ds l).any λe=>e.eq u.d)=l.any λe=>e.eq u
 | []=>rfl
 |a::l=>by rw[U.ds,Ig,Ig,aI7 u l];rfl
def aV7{K:Ac}{neg:Bool}:O2 (aX4 K neg) (gIn neg):=λ{W B H u v x y R Q} e d1 d2 h q=>by
 unfold gIn at h;split at h
 ·obtain⟨t1,t2,h⟩:=h;obtain⟨p,xs,rfl,_,hp,ds⟩:=d2.ls e;have h1:=U.dep 40 u t1;have h2:=U.deps 40 _ t2;exact#[u.d,p,xs,_,d1.den t1,rfl,.inl (SqL.of hp),DUs.dens 40 _ t2 ds,∅,by rw[aI7];exact q _ _ _ h e.refl #[rfl,rfl]]
 ·obtain⟨t1,t2,h⟩:=h;obtain⟨p,xs,rfl,_,hp,ds⟩:=d2.tp;have h1:=U.dep 40 u t1;have h2:=U.deps 40 _ t2;exact#[u.d,p,xs,_,d1.den t1,rfl,.inr (SqT.of hp),DUs.dens 40 _ t2 ds,∅,by rw[aI7];exact q _ _ _ h e.refl #[rfl,rfl]]
 ·exact h.elim
inductive aVd(us:List U)(R:(Sl->Prop)):Prop
 |mk (ns:List Int) (q0_:us=[.ls (ns.map U.n)]) (q1_:ns.length<=1000) (q2_:(∀n∈ns,0<=n/\n<=1000)) (q3_:R (.sh (.n ns.sum))):aVd us R
def bCw:List U->(Sl->Prop)->Prop:=λus R=>aVd us R
def aWv{K:Ac}:CB (bBa K) bCw:=λ{W B H us vs R Q} e d ⟨ns,eu,hl,hn,h⟩ q=>by
 subst eu;obtain⟨x,rfl,dd⟩:=DBs.one d;obtain⟨p,xs,rfl,_,hp,ds⟩:=dd.ls e;rw[ds.ints]at hp;exact#[p,ns,rfl,SqL.of hp,hl,hn,q _ _ _ h e.refl #[rfl,rfl]]
def gII(f:Int->Int->Int):List U->(Sl->Prop)->Prop
 | [.v (.int i),.v (.int j)],R=>R (.sh (.n (f i j)))
 |_,_=>False
def aKt{f:Int->Int->Int}:CB (λxs H Q=>∃i j,xs=[.int i,.int j]/\Q (.int (f i j)) H) (gII f):=λ{W B H us vs R Q} e d h q=>by
 unfold gII at h;split at h
 ·obtain⟨x,y,rfl,d1,d2⟩:=DBs.two d;exact#[_,_,by rw[d1.int,d2.int],q _ _ _ h e.refl #[rfl,rfl]]
 ·exact h.elim
def bB3(F:TVa)(D:TV):TV:=λρ R=>F ρ λus=>D ρ λs=>∃ns:List Int,us=[.ls (ns.map U.n)]/\match s.rd with
 |.v (.int d)=>(ns=[]->R (.sh (.n d)))/\∀m:Int,m∈ns->(∀a∈ns,a<=m)->R (.sh (.n m))
 |_=>False
def aGd{a:Bu}{k:Bu}{kp:Pos}{F:TVa}{D:TV}{p pos:Pos}(hc:X.calm=true)(hm:X.mg "max"=none)(ha:VB X [a] F)(hk:VE X k D)(hg:Gl X "max":=by rfl)
  (hkw:∀{tk:TE},PE X k tk->PK X [#[some "default",k,kp]] (aRx tk aUn):=by exactλh=>aT7 h aXw)
  (hall:(Ft pos (Cz [#[some "default",k,kp]] X.env)).all (·.1.isSome)=true:=by rfl) (hks:(Ft pos (Cz [#[some "default",k,kp]] X.env)).filterMap (·.1)=[("default":Str)]:=by rfl)
  (he:SE X a []:=by rfl) (hpl:BT X pos [a]:=by rfl) (hpk:(Ft pos (Cz [#[some "default",k,kp]] X.env)).any (·.1.isNone)=false:=by rfl):
  VE X (.Call (.Name "max" p) [a] [#[some "default",k,kp]] pos) (bB3 F D):=
 let⟨_,q1,f1⟩:=ha;let⟨_,q2,f2⟩:=hk;⟨_,aNa (aSt (g:=true) hc) hg hm boot_max q1 (hkw q2) hall hks ⋯ ⋯ he hpl hpk,λe h q=>f1 e h λus vs H1 h1 w1 d1=>f2 (e.to w1) h1 λs v H2 h2 w2 r2=>by
  obtain⟨ns,eu,h2⟩:=h2;subst eu;have e2:=(e.to w1).to w2;obtain⟨x,rfl,d⟩:=DBs.one (DBs.to (e.to w1).eb w2 d1);obtain⟨p,xs,rfl,_,hp,ds⟩:=d.ls e2.eb;rw[ds.ints]at hp;have dd:=r2.db (e.to w1).eb;revert h2 dd;generalize s.rd=u;intro h2 dd;split at h2
  ·rw[dd.int];exact#[p,ns,_,rfl,rfl,SqL.of hp,λz=>q _ _ _ (h2.1 z) (w1.trans w2) #[rfl,rfl],λm hm ha=>q _ _ _ (h2.2 m hm ha) (w1.trans w2) #[rfl,rfl]]
  ·exact h2.elim⟩
def huD{A:Bp}(hr:cV k A):A.units+101<cLine:=by have:=hr.un;lia
def Rbl{R:Sl->Prop}{c d:Bool}(q:R (.sh (.b d)))(h:c=d):R (.sh (.b c)):=h▸q
theorem cL{g:TVg}(I:List U->EV->Prop)(hn:∀ρ,I [] ρ->E.nx ρ)(hc:∀u r ρ,I (u::r) ρ->(∀ρ',I r ρ'->mL g b E r ρ')->mL g b E (u::r) ρ):∀{l ρ},I l ρ->mL g b E l ρ
 | [],ρ,h=>hn ρ h
 |u::r,ρ,h=>hc u r ρ h λ_ h'=>cL I hn hc h'
theorem iG{f:U->(Option U->Prop)->Prop}{R:List U->Prop}{h:U->U}:∀{l ag:List U},(∀u∈l,∀k,k (some (h u))->f u k)->R (ag++l.map h)->mJ f l ag R
 | [],ag,_,r=>by rw[Fq,Bi]at r;exact r
 |u::l,ag,hf,r=>hf u Ag _ (iG (λx hx=>hf x (Ah _ hx)) (by rw[Bm];exact r))
abbrev Tke:Type:=Int×List Int
def tkU(x:Tke):U:=.tp [.n x.1,.tp (x.2.map U.n)]
theorem aR1{W B:Addr->Prop}{H:Hp}:∀{xs:List Tke}{zs:List V},DUs W B H (xs.map tkU) zs->∃ps:List (Tke×Addr),zs=ps.map (λx=>V.ref x.2)/\ps.map (·.1)=xs/\∀x∈ps,PKy H x/\DU W B H (tkU x.1) (.ref x.2)
 | [],_,h=>#[[],h,rfl,λ_ z=>nomatch z]
 |x::xs,_,⟨v,r,e,d,t⟩=>by
  obtain⟨ps,e1,e2,h⟩:=aR1 t;obtain⟨a,ys,rfl,nb,ha,y1,_,rfl,f1,y2,r2,rfl,⟨q,zs,rfl,nq,hq,dz⟩,e3⟩:=id d;obtain rfl:r2=[]:=e3;rw[f1.1]at ha;refine#[(x,a)::ps,by rw[e,e1];rfl,by rw[Br,e2],λz hz=>?_];rcases Ax.mp hz with rfl|hz
  ·exact#[#[q,ha,by rw[dz.ints]at hq;exact hq],d]
  ·exact h z hz
theorem aR2{W B:Addr->Prop}{H:Hp}:∀{ps:List (Tke×Addr)},(∀x∈ps,DU W B H (tkU x.1) (.ref x.2))->DUs W B H ((ps.map (·.1)).map tkU) (ps.map λx=>V.ref x.2)
 | [],_=>rfl
 |x::ps,h=>#[_,_,rfl,h x Ag,aR2 λy hy=>h y (Ah _ hy)]
def bCa(F:TVa):TV:=λρ R=>F ρ λus=>∃xs:List Tke,us=[.ls (xs.map tkU)]/\xs.length<=60/\(∃ks:List Tke,ks.length<=4/\∀x∈xs,x∈ks)/\∀ys:List Tke,ys.Pairwise (λx y=>aAt x y=true)->(∀y,y∈ys↔y∈xs)->R (.ow (ys.map tkU))
def aYu(F:TVa):TV:=λρ R=>F ρ λus=>∃(ns:List Nat)(x:Nat),us=[.ls (ns.map λk:Nat=>U.n k)]/\(∀n∈ns,n=x)/\x∈[1,2,3]/\R (.ow ((zs1 x (decide (0<ns.length))).map λk:Nat=>U.n k))
def DUs.nats{W B:Addr->Prop}{H:Hp}:∀{ns:List Nat}{xs:List V},DUs W B H (ns.map λk:Nat=>U.n k) xs->xs=aAd ns
 | [],_,h=>h
 |_::_,_,⟨x,r,e,d,t⟩=>by rw[e,d.1,DUs.nats t];rfl
def DUs.ofNats{W B:Addr->Prop}{H:Hp}:∀{ns:List Nat},DUs W B H (ns.map λk:Nat=>U.n k) (aAd ns)
 | []=>rfl
 |_::_=>#[_,_,rfl,#[rfl,rfl],DUs.ofNats]
def aLt{a:Bu}{F:TVa}{p p' pos pos':Pos}(hr:cV k X.A)(hc:X.calm=true)(h1:X.mg "sorted"=none)(h2:X.mg "set"=none)(ha:VB X [a] F)(g1:Gl X "sorted":=by rfl)(g2:Gl X "set":=by rfl)(hs:SE X a []:=by rfl)(hpl:BT X pos' []:=by rfl)
  (hs':Bz [.Call (.Name "set" p') [a] [] pos'] X.env=(false,eval (.Call (.Name "set" p') [a] [] pos') X.env)::Bz [] X.env:=by rfl) (hpl':BT X pos []:=by rfl):VE X (.Call (.Name "sorted" p) [.Call (.Name "set" p') [a] [] pos'] [] pos) (bCa F):=
 let⟨_,q,f⟩:=ha;⟨_,qJ (aFj (by have:=hr.un;lia) hc) g1 h1 boot_sorted (dW (qK (aL7 (by have:=hr.un;lia) hc) g2 h2 boot_set q ⋯ ⋯ hs hpl) iZ hs') ⋯ ⋯ hs' hpl',λ{W B ρ σ H R Q} e h q=>f e h λus vs H1 ⟨xs,eu,xl,fk,h1⟩ w1 d=>by
  subst eu;have e1:=e.to w1;obtain⟨x,rfl,dd⟩:=DBs.one d;obtain⟨p,zs,rfl,_,hp,ds⟩:=dd.ls e1.eb;obtain⟨ps,rfl,rfl,hk⟩:=aR1 ds;rw[Ab]at xl;refine#[p,ps,rfl,SqL.of hp,λx hx=>(hk x hx).1,∅,(let⟨ks,kl,km⟩:=fk;#[ks,kl,λx hx=>km _ (Ay.mpr #[x,hx,rfl])]),λl zs nl nd sub all zl=>?_];have w2:=e1.eb.new (o:=.ext (mF X.prog X.w l zs)) nl;have k2:∀x∈zs,PKy (upd H1 l (.ext (mF X.prog X.w l zs))) x/\DU W B (upd H1 l (.ext (mF X.prog X.w l zs))) (tkU x.1) (.ref x.2):=λx hx=>by
   obtain⟨⟨q,a1,a2⟩,a3⟩:=hk x (sub x hx);exact#[#[q,(aJ (aV a1 nl)).trans a1,(aJ (aV a2 nl)).trans a2],DU.mono (e1.eb.keep w2) _ a3]
  have e2:=e1.to w2;refine#[l,zs,rfl,aL,λx hx=>(k2 x hx).1,∅,λm ys nm pm pw=>?_];have w3:=e2.eb.new (o:=.lst (ys.map λx=>V.ref x.2)) nm;refine q (.ow ((ys.map (·.1)).map tkU)) _ _ (h1 _ ?_ λy=>?_) ((w1.trans w2).trans w3) (RO.back (s:=.ow _) (w1.trans w2) #[m,_,rfl,nm,aL,aR2 λx hx=>?_])
  ·rw[Ip];exact pw
  ·constructor
   ·intro hy;obtain⟨x,hx,rfl⟩:=Ay.mp hy;exact Ay.mpr #[x,sub x (pm.mem_iff.mp hx),rfl]
   ·intro hy;obtain⟨x,hx,rfl⟩:=Ay.mp hy;obtain⟨z,hz,e⟩:=all x hx;exact Ay.mpr #[z,pm.mem_iff.mpr hz,e]
  ·exact DU.mono (λb o nb h=>#[λz=>z.elim nb (aV h nm),(e2.eb.keep w3 b o nb h).2]) _ (k2 x (pm.mem_iff.mp hx)).2⟩
def aR9{a:Bu}{F:TVa}{p p' pos pos':Pos}(hc:X.calm=true)(h1:X.mg "sorted"=none)(h2:X.mg "set"=none)(ha:VB X [a] F)(g1:Gl X "sorted":=by rfl)(g2:Gl X "set":=by rfl)(hs:SE X a []:=by rfl)(hpl:BT X pos' []:=by rfl)
  (hs':Bz [.Call (.Name "set" p') [a] [] pos'] X.env=(false,eval (.Call (.Name "set" p') [a] [] pos') X.env)::Bz [] X.env:=by rfl) (hpl':BT X pos []:=by rfl):VE X (.Call (.Name "sorted" p) [.Call (.Name "set" p') [a] [] pos'] [] pos) (aYu F):=
 let⟨_,q,f⟩:=ha;⟨_,qJ (aFi hc) g1 h1 boot_sorted (dW (qK (aL6 hc) g2 h2 boot_set q ⋯ ⋯ hs hpl) iZ hs') ⋯ ⋯ hs' hpl',λ{W B ρ σ H R Q} e h q=>f e h λus vs H1 ⟨ns,y,eu,hn,h3,h1⟩ w1 d=>by
  subst eu;have e1:=e.to w1;obtain⟨x,rfl,dd⟩:=DBs.one d;obtain⟨p,zs,rfl,_,hp,ds⟩:=dd.ls e1.eb;rw[ds.nats]at hp;refine#[p,ns,y,rfl,SqL.of hp,hn,h3,λl nl=>?_];have w2:=e1.eb.new (o:=.ext (aD2 X.w l y (decide (0<ns.length)))) nl;have e2:=e1.to w2;refine#[l,y,_,rfl,aL,h3,λm nm=>?_];have w3:=e2.eb.new (o:=.lst (aAd (zs1 y (decide (0<ns.length))))) nm;exact q (.ow _) _ _ h1 ((w1.trans w2).trans w3) (RO.back (s:=.ow _) (w1.trans w2) #[m,_,rfl,nm,aL,DUs.ofNats])⟩
inductive aZm(C:Addr)(F:List U->(List Str->List U->Prop)->Prop)(vs:List V)(H:Hp)(Q:VK)(z3_:XK):Prop
 |mk (x dx vs' H1 W B us R:_) (q0_:vs=.ref x::vs') (q1_:H1 x=none) (q2_:H x=some (.ins C dx [])) (q3_:aOc H1 H) (q4_:EB W B H1) (q5_:DUs W B H1 us vs') (q6_:F us R) (q7_:∀ns ws xs H',R ns ws->Fw W H1 H'->H' x=some (.ins C dx (ns.zip xs))->ns.length=xs.length->DUs W B H' ws xs->Q .non H'):aZm C F vs H Q z3_
def spI(C:Addr)(F:List U->(List Str->List U->Prop)->Prop):Sp:=λvs H Q z3_=>aZm C F vs H Q z3_
structure MkU(P:Aj)(w:Bd)(K:Ac)(mg:Str->#v[9])(base:Heap)(k:Nat)(C:Addr)(x:Str)(ps:List Str)(F:List U->(List Str->List U->Prop)->Prop):Prop where
 ex:∃f fd,↥k f fd ps (spI C F)/\Mk K C f/\mg x=some (.ref C)/\Binds K fd ps []
def bB2(C:Addr)(F:List U->(List Str->List U->Prop)->Prop)(a:TVa):TV:=λρ R=>a ρ λus=>F us λns ws=>R (.sh (.ob C ns ws))
def jZ{x:Str}{F:List U->(List Str->List U->Prop)->Prop}{a:Bu}{es:List Bu}{G:TVa}{p pos:Pos}(M:MkU X.prog X.w X.K X.mg X.base k C x ps F)(hr:cV (k+1) X.A)(ha:VA X (a::es) G)(hg:Gl X x:=by rfl)
  (hdb:ND x:=by decide) (he:SE X a es:=by rfl) (hpl:BT X pos es:=by rfl):VE X (.Call (.Name x p) (a::es) [] pos) (bB2 C F G):=by
 obtain⟨f,fd,Fo,Mk_,hm,hb⟩:=M.ex;obtain⟨_,p,g⟩:=ha;refine#[_,aT2 Mk_ Fo hr hg hm hb .nil (E:=E0) aCo p hdb he hpl,λ{W B ρ σ H R Q} e h q=>g e h λus vs H1 h1 _ w d=>λx dx nx nd ne=>?_];have e1:=(e.to w).eb;refine#[x,dx,vs,H1,W,B,us,_,by rw[Bi],nx,aL,λb o hb=>?_,e1,d,h1,λns ws xs H' hR fw hx hl ds=>#[rfl,q (.sh (.ob C ns ws)) _ _ hR (w.trans fw) #[x,dx,xs,rfl,e1.nw nx,hx,hl,ds]]];rw[aJ (aV hb nx),aJ (aV hb nd)];exact hb
def aEw{F:TV}{σ:St}{H:Hp}{W B:Addr->Prop}{ρ:EV}{R:Sl->Prop}(e:EE W B H ρ σ)(h:F ρ R)(q:∀s v H',R s->Fw W H H'->RO W B H H' s v->Q v H'):tV F σ H Q:=#[W,B,ρ,R,e,h,q]
def aC1{F:TVc}{σ:St}{H:Hp}{Q:Bool->Hp->Prop}{W B:Addr->Prop}{ρ:EV}(e:EE W B H ρ σ)(h:F ρ R)(q:∀c H',R c->Fw W H H'->Q c H'):tVc F σ H Q:=#[W,B,ρ,R,e,h,q]
section
variable {W B:Addr->Prop}{H H':Hp}
def oR{σ:St}(d:DU W B H u v)(e:EE W B H ρ σ):EE W B H (.sh u::ρ) (some v::σ):=by
 refine#[e.eb,by rw[An,An,e.len],λi u' h=>?_,λi s w h hs=>?_]
 ·cases i with
  |zero=>cases h;exact#[v,rfl,d]
  |succ i=>exact e.sh i u' h
 ·cases i with
  |zero=>cases h;cases hs
  |succ i=>exact e.hd i s w h hs
def aO0(e:EB W B H):EE W B H [] []:=#[e,rfl,nofun,nofun]
def qZ{σ:St}{v:Option V}(e:EE W B H ρ σ):EE W B H (.no::ρ) (v::σ):=by
 refine#[e.eb,by rw[An,An,e.len],λi u' h=>?_,λi s w h hs=>?_]
 ·cases i with
  |zero=>cases h
  |succ i=>exact e.sh i u' h
 ·cases i with
  |zero=>cases h;cases hs
  |succ i=>exact e.hd i s w h hs
mutual
theorem DU.data(k:∀b o,¬B b->H b=some o->(∃xs,o=.tup xs)∨(∃xs,o=.lst xs)->H' b=some o):∀(n:Nat)(u:U){v:V},u.dt n->DU W B H u v->DU W B H' u v
 |_,.v _,_,_,h=>h
 |n+1,.tp l,_,t,⟨p,xs,e,nb,hp,ds⟩=>#[p,xs,e,nb,k _ _ nb hp (.inl #[_,rfl]),DUs.data k n l t ds]
 |n+1,.ls l,_,t,⟨p,xs,e,nb,hp,ds⟩=>#[p,xs,e,nb,k _ _ nb hp (.inr #[_,rfl]),DUs.data k n l t ds]
theorem DUs.data(k:∀b o,¬B b->H b=some o->(∃xs,o=.tup xs)∨(∃xs,o=.lst xs)->H' b=some o):∀(n:Nat)(l:List U){xs:List V},U.dts n l->DUs W B H l xs->DUs W B H' l xs
 |_,[],_,_,h=>h
 |n,u::l,_,⟨t,t'⟩,⟨x,r,e,h,h'⟩=>#[x,r,e,DU.data k n u t h,DUs.data k n l t' h']
end
def Fw.upd{x:Addr}{o:HO}(f:Fw W H1 H)(n:H1 x=none)(nw:¬W x):Fw W H1 (upd H x o):=⟨λb u w h=>(aJ (aV h n)).trans (f.fr b u w h),λp hp=>by
 obtain⟨a,b,c,h⟩:=f.wo p hp;exact#[a,b,c,(aJ (λz:p=x=>nw (by rw[<-z];exact hp))).trans h]⟩
def fX{x C dx:Addr}{o:HO}(h:H x=some (.ins C dx fs)):∀b u,¬B b->H b=some u->(∃xs,u=.tup xs)∨(∃xs,u=.lst xs)->upd H x o b=some u:=λb u _ hb ht=>by
 refine(aJ (λz:b=x=>?_)).trans hb;rw[z,h]at hb;rcases ht with ⟨xs,rfl⟩|⟨xs,rfl⟩<;>cases hb
end
section
variable {W W' B:Addr->Prop}{H:Hp}
mutual
def Nw:U->Prop
 |.v _=>True
 |.tp l=>Nws l
 |.ls l=>Nws l
 |.ob _ _ us=>Nws us
 |.dk _ us=>Nws us
 |_=>False
def Nws:List U->Prop
 | []=>True
 |u::l=>Nw u/\Nws l
end
mutual
theorem DU.nw:∀(u:U){v:V},Nw u->DU W B H u v->DU W' B H u v
 |.v _,_,_,h=>h
 |.tp l,_,n,⟨p,xs,e,nb,hp,t⟩=>#[p,xs,e,nb,hp,DUs.nw l n t]
 |.ls l,_,n,⟨p,xs,e,nb,hp,t⟩=>#[p,xs,e,nb,hp,DUs.nw l n t]
 |.ob _ _ us,_,n,⟨p,dx,xs,e,nb,hp,hl,t⟩=>#[p,dx,xs,e,nb,hp,hl,DUs.nw us n t]
 |.dk _ us,_,n,⟨p,xs,e,nb,hp,hl,t⟩=>#[p,xs,e,nb,hp,hl,DUs.nw us n t]
theorem DUs.nw:∀(l:List U){xs:List V},Nws l->DUs W B H l xs->DUs W' B H l xs
 | [],_,_,h=>h
 |u::l,_,⟨n,n'⟩,⟨x,r,e,h,t⟩=>#[x,r,e,DU.nw u n h,DUs.nw l n' t]
end
end
open Classical in
theorem lF{f:U->(Option U->Prop)->Prop}{R:List U->Prop}(P:U->Prop):∀{l ag:List U},(∀u∈l,∀k:Option U->Prop,(∀x,P x->k (some x))->f u k)->(∀xs:List U,xs.length=l.length->(∀x∈xs,P x)->R (ag++xs))->mJ f l ag R
 | [],ag,_,r=>by
  have:=r [] rfl nofun
  rw[Bi]at this;exact this
 |u::l,ag,hf,r=>hf u Ag _ λx hx=>lF P (λy hy=>hf y (Ah _ hy)) λxs el hp=>by
  rw[Bm];exact r (x::xs) (by rw[An,An,el]) λy hy=>by
   rcases Ax.mp hy with rfl|hy
   ·exact hx
   ·exact hp y hy
section
variable {W B:Addr->Prop}{H H':Hp}{ρ ρ':EV}{σ:St}
end
abbrev zk(ns:List Str)(xs:List V):List (Key×V):=(ns.map Cm).zip xs
def aUc{xs:List V}{k:Str}(l:ns.length=xs.length)(h:k∉ns):putK (zk ns xs) (Cm k) v=zk (ns++[k]) (xs++[v]):=by
 unfold putK zk;rw[Aa0,Cc,Ma (by rw[Ab];exact l)]
 ·rfl
 ·intro z;obtain⟨x,hx,e⟩:=Vi.mp z;have e:=Aa3 e;have h2:=(Hb (show(x.1,x.2)∈_ from hx)).1;rw[e]at h2;obtain⟨n,hn,en⟩:=Ay.mp h2;cases en;exact h hn
def aRd{xs:List V}{k:Str}{v v':V}(l:ns.length=xs.length)(h:k∉ns):putK (zk (ns++[k]) (xs++[v])) (Cm k) v'=zk (ns++[k]) (xs++[v']):=by
 unfold putK zk;rw[Cc,Ma (by rw[Ab];exact l),Ma (by rw[Ab];exact l)];have hk:∀x∈(ns.map Cm:List Key).zip xs,¬x.1=Cm k:=λx hx e=>by
  have h2:=(Hb (show(x.1,x.2)∈_ from hx)).1;rw[e]at h2;obtain⟨n,hn,en⟩:=Ay.mp h2;cases en;exact h hn
 rw[Aa1]
 ·rw[Cc];congr 1
  ·refine(Ti λx hx=>?_).trans (Yy _);rw[Aa0 (hk x hx)];rfl
  ·simp
 ·rw[List.any_append];simp
def aC3{xs:List V}{k:Str}(l:ns.length=xs.length)(h:k∉ns):uK (zk (ns++[k]) (xs++[v])) (Cm k)=some v:=by
 induction ns generalizing xs with
 |nil=>
  cases xs with
  |nil=>exact uM rfl
  |cons _ _=>cases l
 |cons n ns ih=>
  cases xs with
  |nil=>cases l
  |cons x xs=>
   show uK ((Cm n,x)::zk (ns++[k]) (xs++[v])) _=_;rw[uL (λz=>h (by cases z;exact Ag))];exact ih (Dw l) λz=>h (Ah _ z)
def cI(P:Aj)(w:Bd)(a:Addr)(xs:#v[8])(h:Heap):Prop:=(a==Fz)=false/\∃o es ep,h.get? a=some o/\o.ExactDict/\o.data=.dict es ep/\es.toList=xs.map (Po (iI (Eb P w)))/\(xs.map (·.1)).Nodup
def cI.stay{xs:#v[8]}(h1 h2:Heap)(p:cI P w a xs h1)(k:∀o,h1.get? a=some o->h2.get? a=some o):cI P w a xs h2:=let⟨y,o,es,ep,e,c⟩:=p;#[y,o,es,ep,k _ e,c]
inductive PdR(W B:Addr->Prop)(H:Hp):List (Tke×U)->#v[8]->Prop
 |nil:PdR W B H [] []
 |cons {k:Tke} {u:U} {l:List (Tke×U)} {r:#v[8]} {c:Addr} {x:Value} {v:V}:DU W B H (tkU k) (.ref c)->RelV v x->DU W B H u v->PdR W B H l r->PdR W B H ((k,u)::l) ((k,c,x)::r)
def sY:List (Tke×U)->Tke->Option U
 | [],_=>none
 |p::l,k=>if p.1=k then some p.2 else sY l k
def aHr(l:List (Tke×U))(k:Tke)(u:U):List (Tke×U):=if(sY l k).isSome then l.map (λp=>if p.1=k then(p.1,u)else p)else l++[(k,u)]
section
variable {W W' B B':Addr->Prop}{H H':Hp}
def PdR.mono{l:List (Tke×U)}{xs:#v[8]}(k:∀b o,¬B b->H b=some o->¬B' b/\H' b=some o)(h:PdR W B H l xs):PdR W B' H' l xs:=by
 induction h with
 |nil=>exact .nil
 |cons d rv dv t ih=>exact .cons (DU.mono k _ d) rv (DU.mono k _ dv) ih
def PdR.wm{l:List (Tke×U)}{xs:#v[8]}(k:∀p,W p->W' p)(h:PdR W B H l xs):PdR W' B H l xs:=by
 induction h with
 |nil=>exact .nil
 |cons d rv dv t ih=>exact .cons (DU.wm k _ d) rv (DU.wm k _ dv) ih
def PdR.keys{l:List (Tke×U)}{xs:#v[8]}(h:PdR W B H l xs):xs.map (·.1)=l.map (·.1)/\∀x∈xs,DU W B H (tkU x.1) (.ref x.2.1):=by
 induction h with
 |nil=>exact#[rfl,nofun]
 |cons d rv dv t ih=>exact#[Aa9 (_::·) ih.1,λx hx=>(Ax.mp hx).elim (λz=>z▸d) (ih.2 x)]
def PdR.len{l:List (Tke×U)}{xs:#v[8]}(h:PdR W B H l xs):xs.length=l.length:=by
 have:=Aa9 Jx h.keys.1;simpa using this
def PdR.val(k:Tke){l:List (Tke×U)}{xs:#v[8]}(h:PdR W B H l xs):(sY l k=none/\Kg xs k=none)∨∃u a r v,sY l k=some u/\Kg xs k=some (a,r)/\RelV v r/\DU W B H u v:=by
 induction h with
 |nil=>exact .inl #[rfl,rfl]
 |@cons k' u l r c x v d rv dv t ih=>
  by_cases z:k'=k
  ·exact .inr #[u,c,x,v,Aa1 z,by simp[Kg,Ex,z],rv,dv]
  ·rw[show sY ((k',u)::l) k=sY l k from Aa0 z,show Kg ((k',c,x)::r) k=Kg r k by simp[Kg,Ex,z]];exact ih
def PdR.snoc{k:Tke}{x:Value}{l:List (Tke×U)}{xs:#v[8]}(d:DU W B H (tkU k) (.ref b))(rv:RelV v x)(dv:DU W B H u v)(h:PdR W B H l xs):PdR W B H (l++[(k,u)]) (xs++[(k,b,x)]):=by
 induction h with
 |nil=>exact .cons d rv dv .nil
 |cons d1 r1 d2 t ih=>exact .cons d1 r1 d2 ih
def PdR.repl{k:Tke}{x:Value}{l:List (Tke×U)}{xs:#v[8]}(rv:RelV v x)(dv:DU W B H u v)(h:PdR W B H l xs):PdR W B H (l.map λp=>if p.1=k then(p.1,u)else p) (xs.map (putAt k x)):=by
 induction h with
 |nil=>exact .nil
 |@cons k' u' l r c y v' d r1 d2 t ih=>
  rw[Br,Br];unfold putAt;by_cases z:k'=k
  ·rw[Aa1 z,Aa1 z];exact .cons d rv dv ih
  ·rw[Aa0 z,Aa0 z];exact .cons d r1 d2 ih
def PdR.put{k:Tke}{x:Value}{l:List (Tke×U)}{xs:#v[8]}(h:PdR W B H l xs)(d:DU W B H (tkU k) (.ref b))(rv:RelV v x)(dv:DU W B H u v):PdR W B H (aHr l k u) (Iw xs k b x):=by
 unfold aHr Iw;rcases h.val k with ⟨e1,e2⟩|⟨_,_,_,_,e1,e2,_⟩
 ·rw[e1,e2];exact PdR.snoc d rv dv h
 ·rw[e1,e2];exact PdR.repl rv dv h
def aCx{k:Tke}(d:DU W B H (tkU k) y):∃b,y=.ref b/\PKy H (k,b):=by
 obtain⟨a,ys,rfl,nb,ha,y1,_,rfl,f1,y2,r2,rfl,⟨q,zs,rfl,nq,hq,dz⟩,e3⟩:=d;obtain rfl:r2=[]:=e3;rw[f1.1]at ha;exact#[a,rfl,q,ha,by rw[dz.ints]at hq;exact hq]
def aF9{k:Tke}(d:DU W B H (tkU k) (.ref b)):PKy H (k,b):=by
 obtain⟨_,e,h⟩:=aCx d;cases e;exact h
end
def pdO(P:Aj)(w:Bd)(ab:List (Tke×U)):Own:=#[λW B S H p=>(∀b,S b↔b=p)/\∃xs,H p=some (.ext (cI P w p xs))/\PdR W B H ab xs,λk e ⟨s,xs,h,r⟩=>#[s,xs,(e _ ((s _).mpr rfl)).trans h,r.mono k],λk ⟨s,xs,h,r⟩=>#[s,xs,h,r.wm k],λ⟨s,_,h,_⟩ b hb=>by rw[(s b).mp hb];exact#[_,h,trivial]]
def aLd{H:Hp}{xs:#v[8]}(ok:HOk P w H h)(e:H a=some (.ext (cI P w a xs)))(k:∀x∈xs,PKy H (x.1,x.2.1)):(a==Fz)=false/\h.DictOfH (iI (Eb P w)) a xs:=by
 obtain⟨⟨y,o,es,ep,h1,h2,h3,h4,h5⟩,_,_⟩:=(show bL P w H h a (.ext (cI P w a xs))from ok a _ e);exact#[y,o,es,ep,h1,h2,h3,h4,λx hx=>rC (x:=(x.1,x.2.1)) ok (k x hx),h5]
def tPg(P:Aj)(w:Bd)(td ty:TE):TE:=λσ H Q=>td σ H λx H1=>ty σ H1 λy H2=>∃a b xs k r c v,x=.ref a/\y=.ref b/\H2 a=some (.ext (cI P w a xs))/\(∀x∈xs,PKy H2 (x.1,x.2.1))/\PKy H2 (k,b)/\Kg xs k=some (c,r)/\RelV v r/\Q v H2
def sPp(P:Aj)(w:Bd)(td ty tv:TE):TS:=λD σ H=>tv σ H λv H1=>td σ H1 λx H2=>ty σ H2 λy H3=>∃a b xs k,x=.ref a/\y=.ref b/\H3 a=some (.ext (cI P w a xs))/\(∀x∈xs,PKy H3 (x.1,x.2.1))/\PKy H3 (k,b)/\xs.length<sizeLine/\∀r,RelV v r->D.nx σ (upd H3 a (.ext (cI P w a (Iw xs k b r))))
section
variable {X:Cx}{o i value:Bu}{pos pos':Pos}{td ty tv:TE}
def aTu{aa:#v[4]}{σ:St}{H:Hp}{xs:#v[8]}(I:#v[3])(e:H a=some (.ext (cI X.prog X.w a xs))):s.TypeIs (.ref a) "dict":=by
 obtain⟨⟨y,o,es,ep,h1,h2,_⟩,_,_⟩:=(show bL X.prog X.w H s.heap a (.ext (cI X.prog X.w a xs))from I.hok a _ e);exact#[o,h1,h2.1]
def bAv(hu:X.A.units+2<cLine)(ho:PE X o td)(hi:PE X i ty)(hs:aFa i):PE X (.Subscript o i pos) (tPg X.prog X.w td ty):=by
 intro aa s σ H Q I h;refine aBj Hj.lookup hs (thn (ho aa s σ H _ I h) λu s1 ⟨x,H1,I1,rx,q1⟩=>thn (hi aa s1 σ H1 _ I1 q1) λiv s2 ⟨y,H2,I2,ry,a,b,xs,k,r,c,v,ex,ey,e,ks,eb,l,rv,q2⟩=>?_);subst ex ey;obtain rfl:u=Ao a:=rx;obtain rfl:iv=Ao b:=ry;refine#[aTu I2 e,Lc (show X.A.in1.units+1<cLine from hu) (rC (x:=(k,b)) I2.hok eb) (aLd I2.hok e ks).2 l ?_];exact#[v,H2,I2.tok _,rv,q2]
def aV8(hu:X.A.units+2<cLine)(ho:PE X o td)(hi:PE X i ty)(hv:PE X value tv)(hs:Ed value (some (.Subscript o i pos')) pos.line X.env=pure false):PS X (.Assign [.Subscript o i pos'] value pos) (sPp X.prog X.w td ty tv):=by
 intro aa s σ H D I h;refine Uj (thn (hv aa s σ H _ I h) λr s1 ⟨v,H1,I1,rv,q1⟩=>thn (ho aa s1 σ H1 _ I1 q1) λu s2 ⟨x,H2,I2,rx,q2⟩=>thn (hi aa s2 σ H2 _ I2 q2) λiv s3 ⟨y,H3,I3,ry,a,b,xs,k,ex,ey,e,ks,eb,hl,q3⟩=>?_) hs;subst ex ey;obtain rfl:u=Ao a:=rx;obtain rfl:iv=Ao b:=ry;obtain⟨lo,dd⟩:=aLd I3.hok e ks;refine Wq (hsz:=Hy hl) (show X.A.in1.units+1<cLine from hu) (rC (x:=(k,b)) I3.hok eb) dd λh' dd' hs=>?_;obtain⟨q,es,ep,hq,h2,h3,h4,_,h5⟩:=dd';have ok:bL X.prog X.w (upd H3 a (.ext (cI X.prog X.w a (Iw xs k b r)))) h' a (.ext (cI X.prog X.w a (Iw xs k b r))):=#[#[lo,q,es,ep,hq,h2,h3,h4,h5],#[q,hq],λh1 h2 p k=>cI.stay h1 h2 p k];exact#[σ,_,wV I3 (by rw[e];exact Er) hs #[q,hq] ok,q3 r rv]
end
def bB7(P:Aj)(w:Bd):TV:=λ_ R=>R (.oo (pdO P w []))
def bB8(P:Aj)(w:Bd)(j:Nat)(Fk Fv:TV):TVS:=λE ρ=>Fv ρ λsv=>sv.es λu=>∃ab,ρ[j]? =some (.oo (pdO P w ab))/\ab.length<10000/\Fk ρ λsk=>sk.es λku=>∃k,ku=tkU k/\E.nx (ρ.set j (.oo (pdO P w (aHr ab k u))))
variable {P:Aj}{w:Bd}
def aLs(hP:X.prog=P)(hw:X.w=w):VE X (.Dict [] [] pos) (bB7 P w):=by
 subst hP hw;refine#[λσ H Q=>∀p,H p=none->Q (.ref p) (upd H p (.ext (cI X.prog X.w p []))),λaa s σ H Q I h=>?_,λe h q p n=>q _ _ _ h (e.eb.new n) #[p,(·=p),rfl,λb hb=>by rw[hb];exact n,λ_=>Lj,[],aL,.nil]];have hp:cI X.prog X.w #v[0] [] (s.heap.push #v[6]):=#[beq_eq_false_iff_ne.mpr (Cq (Aw I.big)),_, (List.toArray []),0,Ar _ rfl,#[rfl,rfl,rfl],rfl,rfl,Qf];have ok:bL X.prog X.w (upd H #v[0] (.ext (cI X.prog X.w #v[0] []))) (s.heap.push #v[6]) #v[0] (.ext (cI X.prog X.w #v[0] [])):=#[hp,#[_,Ar _ rfl],λh1 h2 p k=>cI.stay h1 h2 p k];exact wpAny_Dict_empty #[.ref #v[0],_,I.laid (a:=#v[0]) (o:=.ext (cI X.prog X.w #v[0] [])) (t':=s.toks) (λ_ _ q=>Ae _ q) (Am _) ok,rfl,h _ (I.hok.fresh (Am _))]
def aU2{x:Str}{i value:Bu}{pos pos' p':Pos}{Fk Fv:TV}(j:Nat)(hP:X.prog=P)(hw:X.w=w)(hr:cV k X.A)(hk:VE X i Fk)(hv:VE X value Fv)(hN:X.N[j]? =some x:=by rfl)(hvs:Vis X.env.scope x:=by trivial)(hd:ND x:=by decide)
  (hcd:NC x:=by decide) (hs:Ed value (some (.Subscript (.Name x p') i pos')) pos.line X.env=pure false:=by rfl):VS X (.Assign [.Subscript (.Name x p') i pos'] value pos) (bB8 P w j Fk Fv):=by
 subst hP hw;obtain⟨_,p1,f1⟩:=hk;obtain⟨_,p2,f2⟩:=hv;refine#[_,aV8 (by have:=hr.un;lia) (fZ hN hvs hd hcd) p1 p2 hs,λ{W B H0 A ρ σ H E D} o h jj=>f2 o.ee h λsv v H1 h1 w1 r1=>?_];obtain⟨u,⟨ab,hj,hl,h2⟩,dv⟩:=r1.du o.ee.eb h1;have o1:=o.to w1;obtain⟨q,g1,g2,_⟩:=o1.hd j _ _ hj rfl;refine#[_,g1,f1 o1.ee h2 λsk y H3 h3 w3 r3=>?_];obtain⟨ku,⟨k,rfl,h4⟩,dk⟩:=r3.du o1.ee.eb h3;have o3:=o1.to w3;obtain⟨q',g4,_,xs,g5,g6⟩:=o3.hd j _ _ hj rfl;rw[g1]at g4;cases g4;obtain⟨b,rfl,kb⟩:=aCx dk;refine#[q,b,xs,k,rfl,rfl,g5,λx hx=>aF9 (g6.keys.2 x hx),kb,by rw[g6.len];exact Hx hl ⋯,λr rv=>jj.nx (o3.chg g1 ((g2 q).mpr rfl) (s':=.oo (pdO X.prog X.w (aHr ab k u))) rfl rfl #[g2,_,aL,?_]) h4];exact PdR.mono (λb y n h=>#[n,(aJ (λz:b=q=>n (by rw[z];exact .inr #[j,(g2 q).mpr rfl]))).trans h]) (g6.put dk rv (DU.mono (o1.ee.eb.keep w3) u dv))
theorem aEy{k:Tke}:∀{l:List (Tke×U)},(sY l k).isSome=true->k∈l.map (·.1)
 | [],h=>by cases h
 |p::l,h=>by
  by_cases e:p.1=k
  ·rw[<-e];exact Ag
  ·rw[show sY (p::l) k=sY l k from Aa0 e]at h;exact Ah _ (aEy h)
def dkO(ns:List Str)(us:List U):Own:=#[λW B S H p=>(∀b,S b↔b=p)/\∃xs,H p=some (.dK (zk ns xs))/\ns.length=xs.length/\DUs W B H us xs,λk e ⟨s,xs,h,l,d⟩=>#[s,xs,(e _ ((s _).mpr rfl)).trans h,l,DUs.mono k us d],λk ⟨s,xs,h,l,d⟩=>#[s,xs,h,l,DUs.wm k us d],λ⟨s,_,h,_⟩ b hb=>by rw[(s b).mp hb];exact#[_,h,trivial]]
def dlO(ns:List Str)(us:List U)(k:Str)(l:List U):Own:=⟨λW B S H p=>∃q xs ys,(∀b,S b↔b=p∨b=q)/\p≠q/\H p=some (.dK (zk (ns++[k]) (xs++[.ref q])))/\ns.length=xs.length/\DUs W B H us xs/\H q=some (.lst ys)/\DUs W B H l ys,
 λkp e h=>by
  obtain⟨q,xs,ys,s,n,h1,h2,h3,h4,h5⟩:=h;exact#[q,xs,ys,s,n,(e _ ((s _).mpr (.inl rfl))).trans h1,h2,DUs.mono kp us h3,(e _ ((s _).mpr (.inr rfl))).trans h4,DUs.mono kp l h5],λkp h=>by
  obtain⟨q,xs,ys,s,n,h1,h2,h3,h4,h5⟩:=h;exact#[q,xs,ys,s,n,h1,h2,DUs.wm kp us h3,h4,DUs.wm kp l h5],λh b hb=>by
  obtain⟨q,xs,ys,s,n,h1,h2,h3,h4,h5⟩:=h;rcases (s b).mp hb with rfl|rfl
  ·exact#[_,h1,trivial]
  ·exact#[_,h4,trivial]⟩
section
variable {W B:Addr->Prop}{H0 H H1:Hp}{A:Nat->Addr->Prop}{ρ:EV}{σ:St}
def EO.rep(o:EO W B H0 A ρ σ H){s:Sl}{w:Own}(hs:s.hold=some w)(hb:s.brd=false)(f:∀b y,¬W b->¬S b->H b=some y->H1 b=some y)(fw:∀p,W p->Wll H1 p)(n:∀b,S b->A i b∨H b=none)(d:w.φ W (λb=>B b∨(∃j,j≠i/\A j b)∨S b) S H1 p)(hg:σ[i]? =some (some (.ref p))):
  EO W B H0 (λj q=>(j=i/\S q)∨(j≠i/\A j q)) (ρ.set i s) σ H1:=by
 have n0:∀b,S b->H0 b=none:=λb hb=>(n b hb).elim (o.an i b) o.fw.none_;have k:∀b y,¬Bx B A b->H b=some y->¬Bx B (λj q=>(j=i/\S q)∨(j≠i/\A j q)) b/\H1 b=some y:=λb y nb h=>by
  have ns:¬S b:=λz=>(n b z).elim (λz=>nb (.inr #[i,z])) λz=>by rw[z]at h;cases h
  exact#[λz=>z.elim (λz=>nb (.inl z)) λ⟨j,z⟩=>z.elim (λz=>ns z.2) λz=>nb (.inr #[j,z.2]),f b y (λz=>nb (.inl (o.eb.wb b z))) ns h]
 have oth:∀{j b},j≠i->A j b->¬S b:=λ{j b} ne h z=>(n b z).elim (λz=>ne (o.inj j i b h z)) (o.awn h);refine#[o.eb,#[λb y w h=>f b y w (λz=>by rw[n0 b z]at h;cases h) (o.fw.fr b y w h),fw],by rw[Bn,o.len],λj q h=>h.elim (λh=>n0 q h.2) λh=>o.an j q h.2,λj q h=>?_,λj j' q h h'=>?_,λj u h=>?_,λj m v h hm=>?_,λj m h=>?_]
 ·rcases h with ⟨_,h⟩|⟨ne,h⟩
  ·exact w.th d q h
  ·obtain⟨y,h1,h2⟩:=o.aw j q h;exact#[y,f q y (o.nw h) (oth ne h) h1,h2]
 ·rcases h with ⟨e1,e2⟩|⟨ne,h⟩<;>rcases h' with ⟨e3,e4⟩|⟨ne',h'⟩
  ·rw[e1,e3]
  ·exact(oth ne' h' e2).elim
  ·exact(oth ne h e4).elim
  ·exact o.inj j j' q h h'
 ·rcases cB h with ⟨rfl,rfl,hl⟩|⟨ne,h⟩
  ·cases hs
  ·obtain⟨v',h1,h2⟩:=o.sh j u h;exact#[v',h1,DU.mono k u h2]
 ·rcases cB h with ⟨rfl,rfl,hl⟩|⟨ne,h⟩
  ·rw[hs]at hm;cases hm;refine#[p,hg,w.at_ (w.mono (λb y nb h=>#[λz=>nb (z.elim .inl λ⟨j,z⟩=> .inr (z.elim (λz=> .inr z.2) λz=> .inl #[j,z])),h]) (λ_ _=>rfl) d) λb=>#[λh=>h.elim (λh=>h.2) λh=>Aa2 rfl h.1,λh=> .inl #[rfl,h]]]
  ·obtain⟨q,h1,h3⟩:=o.hd j m v h hm;exact#[q,h1,v.at_ (v.mono k (λb hb=>let⟨y,hy,_⟩:=v.th h3 b hb;(f b y (o.nw hb) (oth ne hb) hy).trans hy.symm) h3) λb=>#[λh=>h.elim (λh=>Aa2 h.1 ne) λh=>h.2,λh=> .inr #[ne,h]]]
 ·rcases cB h with ⟨rfl,rfl,hl⟩|⟨ne,h⟩
  ·exact hb
  ·exact o.nb j m h
end
def tPa(ns:List Str)(F:TVa)(trs:List (TE×TE)):Prop:=∀{W B:Addr->Prop}{ρ:EV}{σ:St}{H:Hp}{R:List U->Prop}{Q:List (V×V)->Hp->Prop},EE W B H ρ σ->F ρ R->(∀us vs H',R us->us.length=ns.length->Fw W H H'->DUs W B H' us vs->Q ((ns.map V.str).zip vs) H')->aF8 trs σ H Q
def VPs(X:Cx)(pos:Pos)(ks:List (Option Bu))(vs:List Bu)(ns:List Str)(F:TVa):Prop:=∃trs,PPs X pos ks vs trs/\tPa ns F trs
def bBu(ns:List Str)(F:TVa):TV:=λρ R=>F ρ λus=>R (.oo (dkO ns us))
theorem aCk:∀{ns as:List Str}{vs xs:List V},as.length=xs.length->ns.length=vs.length->(as++ns).Nodup->rB (zk as xs) (zk ns vs)=zk (as++ns) (xs++vs)
 | [],as,[],xs,_,_,_=>by rw[Bi,Bi];rfl
 |n::ns,as,v::vs,xs,h1,h2,nd=>by
  show rB (putK (zk as xs) (Cm n) v) (zk ns vs)=_;have hn:n∉as:=λz=>(Ku.mp nd).2.2 n z n Ag rfl;rw[aUc h1 hn,aCk (by rw[Ak,Ak,h1];rfl) (Dw h2) (by rw[Bm];exact nd),Bm,Bm];rfl
def bBt(i:Nat)(k:Str)(F:TV):TVS:=λE ρ=>∃ns us l,ρ[i]? =some (.oo (dlO ns us k l))/\k∉ns/\l.length<10000/\F ρ λs=>s.es λu=>E.nx (ρ.set i (.oo (dlO ns us k (l++[u]))))
def vDk(i:Nat)(G:TVS):TVS:=λE ρ=>∃ns us k l,ρ[i]? =some (.oo (dlO ns us k l))/\us.length=ns.length/\G E (ρ.set i (.oo (dkO (ns++[k]) (us++[.ls l]))))
def bDj(i:Nat)(G:TVS):TVS:=λE ρ=>∃ns us,ρ[i]? =some (.oo (dkO ns us))/\G E (ρ.set i (.sh (.dk ns us)))
def aSn{W B:Addr->Prop}{H:Hp}{l:List U}{xs:List V}(h:DUs W B H (l++[u]) xs):∃ys v,xs=ys++[v]/\DUs W B H l ys/\DU W B H u v:=by
 have a:=h.take l.length;have b:=h.drop l.length;rw[List.take_left]at a;rw[List.drop_left]at b;obtain⟨v,r,e,d,z⟩:=b;rw[show r=[]from z]at e;exact#[_,v,by rw[<-e,Jd],a,d]
theorem aLz:∀(ns:List Str)(vs:List V),(ns.map V.str).zip vs=((ns.map Cm:List Key).zip vs).map λkv=>(kV kv.1,kv.2)
 | [],_=>rfl
 |_::_,[]=>rfl
 |_::ns,_::vs=>Aa9 _ (aLz ns vs)
def aSb:VPs X pos [] [] [] aGa:=#[_,aUa,λe h q=>q [] [] _ h rfl e.eb.refl rfl]
def uQ{k:Str}{j p}{v:Bu}{ks:List (Option Bu)}{vs:List Bu}{F:TV}{G:TVa}(hv:VE X v F)(hr:VPs X pos ks vs ns G):VPs X pos (some (.Constant (.str k) j p)::ks) (v::vs) (k::ns) (sW F G):=by
 obtain⟨_,p1,f1⟩:=hv;obtain⟨_,p2,f2⟩:=hr;refine#[_,aQ9 tY p1 p2,λe h q=>f1 e h λs v H1 h1 w1 r1=>?_];obtain⟨u,h1,d⟩:=r1.du e.eb h1;exact f2 (e.to w1) h1 λus vs H2 h2 l2 w2 d2=>q (u::us) (v::vs) H2 h2 (by rw[An,l2];rfl) (w1.trans w2) #[v,vs,rfl,DU.mono ((e.to w1).eb.keep w2) u d,d2]
def aLq{keys:List (Option Bu)}{values:List Bu}{F:TVa}(h:VPs X pos keys values ns F)(nd:ns.Nodup)(nl:ns.length<=15)(hall:keys.all (·.isSome)=true:=by rfl)(hl:keys.length=values.length:=by rfl)(h0:keys≠[]:=by exactλz=>nomatch z)(h15:keys.length<=15:=by decide):VE X (.Dict keys values pos) (bBu ns F):=by
 obtain⟨_,p,f⟩:=h;refine#[_,aTy p hall hl h0 h15,λ{W B ρ σ H R Q} e h q p n=>?_];have e1:=e.plus (x:=.dK []) n;have w0:=e.eb.new (o:=.dK []) n;have nW:¬W p:=λz=>e.eb.nw n (e.eb.wb p z);refine f e1 h λus vs H2 h2 l2 w2 d2=>#[w2.fr p _ nW aL,zk ns vs,?_,?_,?_]
 ·unfold zk;exact aLz ns vs
 ·unfold zk;rw[Ie,Ab];lia
 ·have lv:=d2.length;rw[show rB [] (zk ns vs)=zk ns vs from aCk (as:=[]) (xs:=[]) rfl ∅ nd];have w3:Fw W H (upd H2 p (.dK (zk ns vs))):=(w0.trans w2).upd n nW;refine q (.oo (dkO ns us)) _ _ h2 w3 #[p,(·=p),rfl,λb hb=>by rw[hb];exact n,λ_=>Lj,vs,aL,∅,DUs.mono (λb y nb h=>#[nb,(aJ (λz=>nb (.inr z))).trans h]) us d2]
def aU0{x:Str}{k:Str}{j pk}{a:Bu}{p' sp apos cpos pos:Pos}{F:TV}{m:Nat}(i:Nat)(hr:cV m X.A)(ha:VE X a F)(hN:X.N[i]? =some x:=by rfl)(hv:Vis X.env.scope x:=by trivial)(hd:ND x:=by decide)
  (hcd:NC x:=by decide)
  (hbase:Gi (.Subscript (.Name x p') (.Constant (.str k) j pk) sp) "append" X.env (eval (.Subscript (.Name x p') (.Constant (.str k) j pk) sp) X.env)=eval (.Subscript (.Name x p') (.Constant (.str k) j pk) sp) X.env:=by rfl)
  (hfew:((Im cpos (Bz [a] X.env)).all (λx=> !x.1) && (Ft cpos (Cz [] X.env)).all (λx=>x.1.isSome)
   && decide ([a].length+([]:List Ij).length+(if([]:List Ij).isEmpty then 0 else 1)<30))=true:=by rfl)
  (hline:EL apos cpos:=by rfl) (hs:SE X a []:=by rfl) (hplain:BT X cpos []:=by rfl)
  (hsw:Ed (.Call (.Attribute (.Subscript (.Name x p') (.Constant (.str k) j pk) sp) "append" apos) [a] [] cpos) none pos.line X.env=pure false:=by rfl):
  VS X (.Expr (.Call (.Attribute (.Subscript (.Name x p') (.Constant (.str k) j pk) sp) "append" apos) [a] [] cpos) pos) (bBt i k F):=by
 obtain⟨_,p,f⟩:=ha;refine#[_,rD (aLe Hv Pa Oz yV (aBe (by have:=hr.un;lia) (fZ hN hv hd hcd) tY (λ_ _=>rfl)) (dW p iZ hs) hbase hfew hline hs hplain) hsw,λ{W B H0 A ρ σ H E D} o h jj=>?_];obtain⟨ns,us,l,hi,hk,hl,h⟩:=h;obtain⟨p,g1,q,xs,ys,gs,pq,g2,g3,g4,g5,g6⟩:=o.hd i _ _ hi rfl;have dg:aBp H p (.str k) (some (.ref q)):=by
  have:=aBp.k (k:=Cm k) g2;rw[aC3 g3 hk]at this;exact this
 refine#[_,g1,p,_,rfl,dg,.inl #[rfl,_,SqL.of g5],f o.ee h λs v H1 h5 w r=>?_];obtain⟨u,h6,d⟩:=r.du o.ee.eb h5;have o1:=o.to w;obtain⟨p',k1,q',xs,ys,gs,pq,k2,k3,k4,k5,k6⟩:=o1.hd i _ _ hi rfl;rw[g1]at k1;cases k1;have eq:q'=q:=by
  have a1:=aBp.k (k:=Cm k) k2;have a2:=w.fr p _ (o.nw ((gs p).mpr (.inl rfl))) g2;rw[k2]at a2;have a3:=aC3 (v:=V.ref q') k3 hk;have a4:=Aa9 (λo=>match o with|some (HO.dK m)=>uK m (Cm k)|_=>none) a2;have a4:uK (zk (ns++[k]) (xs++[.ref q'])) (Cm k)=uK (zk (ns++[k]) _) (Cm k):=a4;rw[a3,aC3 g3 hk]at a4;cases a4;rfl
 subst eq;have Aq:A i q':=(gs q').mpr (.inr rfl);have kk:∀{x:HO} b y,¬Bx B A b->H1 b=some y->¬Bx B A b/\upd H1 q' x b=some y:=λb y n h=>#[n,(aJ (λz:b=q'=>n (by rw[z];exact .inr #[i,Aq]))).trans h];refine#[q',ys,v,rfl,rfl,k5,?_,jj.nx (o1.chg g1 Aq (s':=.oo (dlO ns us k (l++[u]))) rfl rfl #[q',xs,_,gs,pq,(aJ pq).trans k2,k3,DUs.mono kk us k4,aL,DUs.mono kk _ (k6.app (DUs.one d))]) h6];have:=k6.length;have:(10000:Nat)<=sizeLine:=by decide
 lia
def aY6{st:List Stmt}{G:TVS}(i:Nat)(h:VSs X st G):VSs X st (vDk i G):=by
 obtain⟨_,p,f⟩:=h;refine#[_,p,λ{W B H0 A ρ σ H E D} o h j=>?_];obtain⟨ns,us,k,l,hi,hu,h⟩:=h;obtain⟨p,g1,q,xs,ys,gs,pq,g2,g3,g4,g5,g6⟩:=o.hd i _ _ hi rfl;have kk:∀b y,¬Bx B A b->H b=some y->¬(B b∨(∃j,j≠i/\A j b)∨b=p)/\H b=some y:=λb y n h=>#[λz=>n (z.elim .inl λz=>z.elim (λ⟨j,_,z⟩=> .inr #[j,z]) λz=> .inr #[i,(gs b).mpr (.inl z)]),h];refine f (o.rep (i:=i) (s:=.oo (dkO (ns++[k]) (us++[.ls l]))) (S:=(·=p)) (p:=p) rfl rfl (λb y _ _ h=>h) o.fw.wo (λb hb=> .inl ((gs b).mpr (.inl hb))) #[λ_=>Lj,_,g2,by rw[Ak,Ak,g3];rfl,(DUs.mono kk us g4).app (DUs.one (u:=.ls l) #[q,ys,rfl,λz=>?_,g5,DUs.mono kk l g6])] g1) h j;rcases z with z|⟨j,ne,z⟩|z
 ·exact o.now (o.an i q ((gs q).mpr (.inr rfl))) z
 ·exact ne (o.inj j i q z ((gs q).mpr (.inr rfl)))
 ·exact pq z.symm
def aU3{st:List Stmt}{G:TVS}(i:Nat)(h:VSs X st G):VSs X st (bDj i G):=by
 obtain⟨_,p,f⟩:=h;refine#[_,p,λ{W B H0 A ρ σ H E D} o h j=>?_];obtain⟨ns,us,hi,h⟩:=h;exact f (o.frz (u:=.dk ns us) hi rfl λn ⟨s,xs,h1,h2,h3⟩=>#[_,xs,rfl,n _ ((s _).mpr rfl),h1,h2,h3]) h j
def yM(l:List U)(lo hi:Option Int):List U:=(l.drop (HT.sIx l.length 0 lo)).take (HT.sIx l.length l.length hi-HT.sIx l.length 0 lo)
def DUs.cut{W B:Addr->Prop}{H:Hp}{l:List U}{xs:List V}{lo hi:Option Int}(d:DUs W B H l xs):DUs W B H (yM l lo hi) (aDj xs lo hi):=by
 unfold yM aDj;rw[d.length];exact(d.drop _).take _
abbrev TVo:=EV->(Option Int->Prop)->Prop
def VTo(t:TO)(F:TVo):Prop:=∀{W B:Addr->Prop}{ρ:EV}{σ:St}{H:Hp}{R:Option Int->Prop}{Q:Option Int->Hp->Prop},EE W B H ρ σ->F ρ R->(∀o H',R o->Fw W H H'->Q o H')->t σ H Q
def VO(X:Cx)(e:Option Bu)(F:TVo):Prop:=∃t,PO X e t/\VTo t F
def bDr:TVo:=λ_ R=>R none
def bDy(F:TV):TVo:=λρ R=>F ρ λs=>match s.rd with
 |.v (.int i)=>R (some i)
 |_=>False
def vSl(F:TV)(L M:TVo):TV:=λρ R=>F ρ λs=>L ρ λlo=>M ρ λhi=>match s.rd with
 |.ls l=>R (.ow (yM l lo hi))
 |.tp l=>¬(HT.sIx l.length 0 lo=0/\HT.sIx l.length l.length hi=l.length)/\R (.sh (.tp (yM l lo hi)))
 |_=>False
def pC:VO X none bDr:=#[_,aT8,λe h q=>q _ _ h e.eb.refl]
def pD{e:Bu}{F:TV}(h:VE X e F):VO X (some e) (bDy F):=by
 obtain⟨_,p,f⟩:=h;refine#[_,aT9 p,λe h q=>f e h λs v H1 h1 w r=>?_];have d:=r.db e.eb;revert h1 d;generalize s.rd=u;intro h1 d;split at h1
 ·exact#[_,d.int,q _ _ h1 w]
 ·exact h1.elim
def aAk{a:Bu}{lo hi:Option Bu}{p2 pos:Pos}{F:TV}{L M:TVo}(ha:VE X a F)(hl:VO X lo L)(hh:VO X hi M):VE X (.Subscript a (.Slice lo hi none p2) pos) (vSl F L M):=by
 obtain⟨_,p,f⟩:=ha;obtain⟨_,p1,f1⟩:=hl;obtain⟨_,p2,f2⟩:=hh;refine#[_,aQ6 (aUk.or aYc) p p1 p2,λ{W B ρ σ H R Q} e h q=>f e h λs v H1 h1 w1 r1=>f1 (e.to w1) h1 λlo H2 h2 w2=>f2 ((e.to w1).to w2) h2 λhi H3 h3 w3=>?_];have e3:=((e.to w1).to w2).to w3;have ww:=(w1.trans w2).trans w3;have d:=((r1.db e.eb).to (e.to w1).eb w2).to ((e.to w1).to w2).eb w3;revert h3 d;generalize s.rd=u;intro h3 d;split at h3
 ·obtain⟨a,xs,rfl,_,ha,ds⟩:=d.ls e3.eb;refine .inl #[a,xs,rfl,SqL.of ha,λp n=>?_];have f4:=e3.eb.new (o:=.lst (aDj xs lo hi)) n;exact q _ _ _ h3 (ww.trans f4) (RO.back (s:=.ow _) ww #[p,_,rfl,n,aL,DUs.mono (λb o nb h=>#[λz=>z.elim nb (aV h n),(e3.eb.keep f4 b o nb h).2]) _ ds.cut])
 ·obtain⟨a,xs,rfl,_,ha,ds⟩:=d.tp;refine .inr #[a,xs,rfl,SqT.of ha,by rw[<-ds.length];exact h3.1,λp n=>?_];have f4:=e3.eb.new (o:=.tup (aDj xs lo hi)) n;exact q _ _ _ h3.2 (ww.trans f4) #[p,_,rfl,e3.eb.nw n,aL,DUs.mono (e3.eb.keep f4) _ ds.cut]
 ·exact h3.elim
theorem aH2{K:Type} [DecidableEq K]:∀(n:Nat)(L:List (K×Addr×Value)),L.length=n->(L.map (·.1)).Nodup->qN L=L
 |0,L,h,_=>by rw[Fl.mp h];rfl
 |n+1,L,h,nd=>by
  obtain⟨M,x,rfl⟩:∃M x,L=M++[x]:=#[L.dropLast,L.getLast (by intro z;rw[z]at h;cases h),(Jn _).symm];rw[Ak,Je]at h;rw[Cc,Ku]at nd;rw[rW,aH2 n M ∅ nd.1];have e:Kg M x.1=none:=by
   unfold Kg;rw[List.find?_eq_none.mpr λy hy z=>nd.2.2 y.1 (Ay.mpr #[y,hy,rfl]) x.1 (by simp) (Aa3 z)];rfl
  unfold Iw;rw[e];rfl
section
variable {W W' B B':Addr->Prop}{H H':Hp}{f:Tke->List U}
variable {l:List Tke}{xs:#v[8]}
end
def boot_dict:Fx "dict"=some (.type "dict"):=by decide+kernel
mutual
def U.tt:U->Prop
 |.v _=>True
 |.tp l=>U.tts l
 |_=>False
def U.tts:List U->Prop
 | []=>True
 |u::l=>U.tt u/\U.tts l
end
section
variable {W W' B B':Addr->Prop}{H:Hp}
mutual
theorem DU.tt(e:EB W' B' H):∀(u:U){v:V},u.tt->DU W B H u v->DU W' B' H u v
 |.v _,_,_,h=>h
 |.tp l,_,t,⟨p,xs,e1,_,hp,ds⟩=>⟨p,xs,e1,λz=>by
  obtain⟨o,h,m⟩:=e.bl p z;rw[hp]at h;cases h;exact m,hp,DUs.tt e l t ds⟩
theorem DUs.tt(e:EB W' B' H):∀(l:List U){xs:List V},U.tts l->DUs W B H l xs->DUs W' B' H l xs
 | [],_,_,h=>h
 |u::l,_,⟨t,t'⟩,⟨x,r,e1,h,h'⟩=>#[x,r,e1,DU.tt e u t h,DUs.tt e l t' h']
end
end
def EE.more{W B:Addr->Prop}{H H1:Hp}{σ:St}{x:HO}(e:EE W B H ρ σ)(f:Fw W H H1)(n:H p=none)(h1:H1 p=some x)(m:Mt x):EE W (λb=>B b∨b=p) H1 ρ σ:=by
 have k:∀b o,¬B b->H b=some o->¬(B b∨b=p)/\H1 b=some o:=λb o nb h=>#[λz=>z.elim nb (aV h n),(e.eb.keep f b o nb h).2];have e1:=(e.to f).eb;refine#[#[λq hq=>hq.elim (e1.bl q) λz=>#[x,by rw[z];exact h1,m],λq hq=> .inl (e1.wb q hq),e1.wo],e.len,λi u h=>?_,λi s w h hs=>?_]
 ·obtain⟨v,h1,h2⟩:=e.sh i u h;exact#[v,h1,DU.mono k u h2]
 ·obtain⟨p,S,h1,h2,h3⟩:=e.hd i s w h hs;exact#[p,S,h1,h2,w.mono k (λb hb=>let⟨y,hx,_⟩:=w.th h3 b hb;(f.fr b y (h2 b hb) hx).trans hx.symm) h3]
section
open PySem.W
variable {prog:Aj}{w:Bd}{A:Bp}{E:#v[c]}{s:Ai}
end
section
open PySem.W
variable {prog:Aj}{w:Bd}{A:Bp}{E:#v[c]}{s:Ai}{α:Type} [DecidableEq α] [Inhabited α]{knd:Hh prog w α}{ok:α->Prop}{lt:α->α->Bool}
end
section
open PySem.Builtin.Dict
variable {prog:Aj}{w:Bd}{A:Bp}{E:#v[c]}{s:Ai}{K:Type} [DecidableEq K]{knd:Hh prog w K}
end
open PyProof.Rows in
open PyProof.Rows in
section
variable {prog:Aj}{w:Bd}{A:Bp}{E:#v[c]}{s:Ai}
end
variable {prog:Aj}
def aVb(g:TG):Prop:=∀x σ H(Q Q':St->Hp->Prop),(∀σ H,Q σ H->Q' σ H)->g x σ H Q->g x σ H Q'
def aS0:aVb (tO i):=λ_ _ _ _ _ m h=>m _ _ h
section
variable {X:Cx}
def aY4{x:Str}{elt iter tg:Bu}{own:List Str}{cap:#v[11]}{pos spos py:Pos}{Fi:TVa}{G:TVg}{F:TV}(gm:aVb g)(hnd:X.N.Nodup)(sc0:Scope)(N0:List Str)(hsc:X.env.scope=sc0)(hN:X.N=N0)(hcell:HC X)
  (ok:aKj scope sc0 cap N0) (hc:X.calm=true) (hi:VIc X tg iter Fi) (hg:∀cs,fU X scope cs->∀C s2 H2 fp,PG (cT X (fD own cap) scope cs C s2 H2 fp) tg g) (hG:VTh own.length g G) (he:∀cs,fU X scope cs->∀C s2 H2 fp,VE (cT X (fD own cap) scope cs C s2 H2 fp) elt F)
  (hi':X.N[i]? =some x:=by rfl) (hx:Loc X.env.scope x:=by exact Dy rfl) (hsw:Ed #v[7] (some (.Name x py)) spos.line X.env=pure true:=by rfl)
  (hs:FS X iter:=by intro _;rfl) (hf:FL X x:=by trivial):VS X (.Assign [.Name x py] #v[7] spos) (aYt i (aEx own.length cap Fi G F)):=
 let⟨_,p,f⟩:=hi;#[_,let⟨_,S⟩:=aWw hsc hN hcell ok;aHp hnd hi' hx S hc p gm hg (λcs cf C s2 H2 fp=>(he cs cf C s2 H2 fp).can) hsw hs hf,λo h j=>aBl f hG o.ee h λs v H1 h1 w r=>aJ4 o w r h1 j.nx]
section
variable {elt iter tg ci:Bu}{Nc:List Str}{scope isc:Scope}{cs:List (Str×Addr)}{C:Addr}{s2:Ai}{H2:Hp}{fp:List Addr}{own:List Str}{icap:#v[11]}{pos:Pos}{Fi:TVa}{g:TG}{G:TVg}{Ct:TVc}{F:TV}
def aYx(fsc:Scope)(cf:fU X scope cs)(hfs:X.env.scope=fsc)(hk:fsc.kind=.function)(ok:aIp isc scope fsc icap Nc)(hc:X.calm=true)(hi:VIc (cT X Nc scope cs C s2 H2 fp) tg iter Fi)
  (hg:∀cl C' s3 H3 fp',PG (cW (cT X Nc scope cs C s2 H2 fp) (fD own icap) isc cl C' s3 H3 fp') tg g) (hG:VTh own.length g G) (he:∀cl C' s3 H3 fp',VE (cW (cT X Nc scope cs C s2 H2 fp) (fD own icap) isc cl C' s3 H3 fp') elt F)
  (hs:∀x,Pn iter (cT X Nc scope cs C s2 H2 fp).env x=pure x:=by intro _;rfl):VE (cT X Nc scope cs C s2 H2 fp) (.ListComp elt [#[tg,iter,[],0]] isc pos) (aEx own.length icap Fi G F):=
 let⟨_,p,f⟩:=hi;#[_,aXo fsc cf hfs hk ok hc p hg (λcl C' s3 H3 fp'=>(he cl C' s3 H3 fp').can) hs,aBl f hG]
end
end
open Classical in
section
open PySem.Builtin.Dict
variable {prog:Aj}{w:Bd}{A:Bp}{E:#v[c]}{s:Ai}{K:Type} [DecidableEq K]{knd:Hh prog w K}
end
section
open PySem.Builtin.Dict
variable {X:Cx}{P:Aj}{w:Bd}
end
open PySem PySem.Spec PySem.Calls PyProof.Rows
def aC9(c:Addr)(q:Str):HO:=.ext λh=>h.CodeRec (.ref c) q
def aAl(f:Addr)(o:Obj):HO:=.ext λh=>h.get? f=some o
def aSv{P:Aj}{w:Bd}{H:Hp}{c:Addr}(e:h.CodeRec (.ref c) q):bL P w H h c (aC9 c q):=by
 refine#[e,?_,λh1 h2 p k=>?_]
 ·obtain⟨c',o,vs,t,e1,e2,_⟩:=e;cases e1;exact#[o,e2]
 ·obtain⟨c',o,vs,t,e1,e2,r⟩:=p;cases e1;exact#[c,o,vs,t,rfl,k _ e2,r]
def aK8{P:Aj}{w:Bd}{H:Hp}{f:Addr}{o:Obj}(e:h.get? f=some o):bL P w H h f (aAl f o):=#[e,#[o,e],λ_ _ p k=>k _ p]
def KpP(P:Addr)(H H':Hp):Prop:=∀b o,b≠P->H b=some o->H' b=some o
def KpP.of{P:Addr}{H H':Hp}(s:aOc H H'):KpP P H H':=λb o _ e=>s b o e
def aBn(mg:Str->#v[9])(h:Heap):Prop:=∃bm ob,mg "__builtins__"=some (.ref bm)/\bm≠Pp/\h.get? bm=some ob/\ob.cls=.type "module"/\ob.dict=some Pp/\ob.data=.plain
section
variable {X:Cx}{params:Arguments}{body:Bu}{scope:Scope}{pos:Pos}{clos:List (Str×Addr)}{c P:Addr}
def aPw{aa:#v[4]}{σ:St}{H:Hp}{ps more:Array Value}{o:Obj}(I:#v[3])(hP:H P=some (.tbl ps))(hx:Pe P s.heap h')(hge:#v[0]<=c')(hlt:c'<h'.objs.size)
  (hrec:h'.CodeRec (.ref c') qual) (htb:h'.get? P=some (Kb (ps++more))) (hof:o.isFreed=false):
  Inv X aa σ (upd (upd (upd H P (.tbl (ps++more))) c' (aC9 c' qual)) h'.objs.size (aAl h'.objs.size o)) {s with heap:=h'.push o,toks:=tk}:=by
 have ltP:P<#v[0]:=I.hok.lt hP;have neq:∀b u,H b=some u->b≠c'/\b≠h'.objs.size:=λb u e=>by
  have l:b<#v[0]:=I.hok.lt e;constructor
  ·exact Aw (Ba l hge)
  ·exact Aw (Hx (Ba l hge) hlt)
 have neq2:∀b ob,s.heap.get? b=some ob->b≠c'/\b≠h'.objs.size:=λb ob e=>by
  have l:b<#v[0]:=As e;constructor
  ·exact Aw (Ba l hge)
  ·exact Aw (Hx (Ba l hge) hlt)
 have keep:∀b ob,b≠P->s.heap.get? b=some ob->(h'.push o).get? b=some ob:=λb ob n e=>Ae _ (hx b ob n e);have nP:∀b,H b=none->b≠P:=λb e=>by rintro rfl;rw[hP]at e;cases e
 have atH:∀b u,b≠P->H b=some u->(upd (upd (upd H P (.tbl (ps++more))) c' (aC9 c' qual)) h'.objs.size (aAl h'.objs.size o)) b=some u:=λb u n e=>by
  rw[aJ (neq b u e).2,aJ (neq b u e).1,aJ n];exact e
 have atP:(upd (upd (upd H P (.tbl (ps++more))) c' (aC9 c' qual)) h'.objs.size (aAl h'.objs.size o)) P=some (.tbl (ps++more)):=by
  rw[aJ (neq P _ hP).2,aJ (neq P _ hP).1,aL]
 refine I.un #[λb ob e n _ _=>keep b ob (nP b n) e,λb ob e n _ _=>#[ob.slots,keep b ob (nP b n) e],λb ob e n _=>?_,λb ob e _=>?_,λb xs e=>?_,λb ob u e=>?_,λb qs e=>?_] λb u e=>?_
 ·rw[aJ (neq2 b ob e).2,aJ (neq2 b ob e).1,aJ (nP b n)];exact n
 ·by_cases hb:b=P
  ·subst hb;exact#[_,Ae _ htb]
  ·exact#[ob,keep b ob hb e]
 ·exact atH b _ (λz=>by subst z;rw[hP]at e;cases e) e
 ·exact atH b _ (λz=>by subst z;rw[hP]at e;cases e) e
 ·by_cases hb:b=P
  ·subst hb;rw[hP]at e;cases e;exact#[more,atP]
  ·exact#[(List.toArray []),by rw[atH b _ hb e,Array.append_empty]]
 ·by_cases h1:b=h'.objs.size
  ·subst h1;rw[aL]at e;cases e;exact aK8 (Ar _ hof)
  ·rw[aJ h1]at e;by_cases h2:b=c'
   ·subst h2;rw[aL]at e;cases e;obtain⟨c2,oc,vs,t,e1,e2,r⟩:=hrec;exact aSv #[c2,oc,vs,t,e1,Ae _ e2,r]
   ·rw[aJ h2]at e;by_cases h3:b=P
    ·subst h3;rw[aL]at e;cases e;exact(show(h'.push o).get? b=some _ from Ae _ htb)
    ·rw[aJ h3]at e;refine(I.hok b u e).stay (λa ob ha q=>?_) (λa q=>?_) λa xs q=>?_
     ·refine keep a ob ?_ q;rcases ha with rfl|ha
      ·exact h3
      ·rintro rfl;rw[hP]at ha;cases ha
     ·exact atH a _ (λz=>by subst z;rw[hP]at q;cases q) q
     ·exact atH a _ (λz=>by subst z;rw[hP]at q;cases q) q
end
def aOu(P:Aj)(w:Bd)(K:Ac)(mg:Str->#v[9])(base:Heap)(x y:Str)(qual:Str)(scope:Scope)(f c:Addr)(cd:Value)(A:Bp)(outer:List Env)(s:Ai)(H:Hp):Cx where
 prog:=P
 w:=w
 K:=K
 mg:=mg
 base:=base
 A:=A.deeper (Lf qual scope #v[0] f cd [(y,c)])
 N:=[x,y]
 s₀:=s
 H₀:=H
 env:=Lf qual scope #v[0] f cd [(y,c)]
 outer:=outer
 stack:=Lf qual scope #v[0] f cd [(y,c)]::outer
 ex:=[]
 calm:=true
 fn:=λ_=>false
 pn:=[]
 xe:=λ_ _=>False
def aXc{P:Aj}{w:Bd}{K:Ac}{base:Heap}{f c c':Addr}{qual x y:Str}{params:Arguments}{body:Bu}{pm ctv:Value}{u:Value}
  (hk:scope.kind=.function) (hco:scope.isCoroutine=false) (hgen:scope.isGenerator=false) (hx:scope.names.lookup x=some .local) (hy:scope.names.lookup y=some .free) (hfr:∀z,scope.names.lookup z=some .free->z=y) (hcell:∀z∈scope.names,z.2≠.cell)
  (hb:base.IsCell c (some u)) (ru:RelV v u) (len:∀vs H Q E,sp vs H Q E->vs.length=1)
  (ob:∀vs H Q E,sp vs H Q E->H f=some (aAl f (Gx "<lambda>" qual params body scope [(y,c)] pm c' ctv))/\H c'=some (aC9 c' qual))
  (hbody:∀(A:Bp)(outer:List Env)(s:Ai)(H:Hp)(a:V)(Q:VK)(E:XK),cV k (A.deeper (Lf qual scope #v[0] f (.ref c') [(y,c)]))->sp [a] H Q E->
   ∃t,PE (aOu P w K mg base x y qual scope f c (.ref c') A outer s H) body t/\t [some a,some v] H Q):
  ↥(k+1) f (Uo "<lambda>" qual params body scope [(y,c)] pm (.ref c') ctv) [x] sp:=by
 refine#[λvs H Q E h=>len vs H Q E h,λA outer s H args us vs Q E hr e0 hbd r hsp=>?_];obtain⟨o1,o2⟩:=ob _ _ _ _ hsp;have hl:=len _ _ _ _ hsp;obtain⟨a,rfl⟩:∃a,vs=[a]:=by
  match vs,hl with
  | [a],_=>exact#[a,rfl]
 obtain⟨ua,rfl,ra⟩:=vals1 r;have hf:s.heap.get? f=some (Gx "<lambda>" qual params body scope [(y,c)] pm c' ctv):=(show bL P w H s.heap f (aAl f _)from e0.hok f _ o1).1;have hcr:s.heap.CodeRec (.ref c') qual:=(show bL P w H s.heap c' (aC9 c' qual)from e0.hok c' _ o2).1;have lim:s.heap.NoLimit:=e0.mod.nolimit.keeps λb o e=>(e0.bs b o e).1;refine PySem.W.kla_callFunE hr.depth hf rfl hco hgen rfl hcr (hbd _ _ _ _ ?_);refine wpAny_newFunctionEnv hcell (λz hz=>by rw[Bf.mp hz];exact hx) (λh₁ hns hsb=>#[lim.fresh _ hsb,?_]) hk;show Ii _ _ (.expr body (Lf qual scope #v[0] f (.ref c') [(y,c)])) _ _;have hk₁:∀b o,s.heap.get? b=some o->h₁.get? b=some o:=λb o e=>hsb.extBut b o (Aw (As e)) (Ae _ e);obtain⟨t,ht,hq⟩:=hbody A outer s H a Q E (hr.deeper _) hsp;have cl1:∀z c₁,([(y,c)]:List (Str×Addr)).lookup z=some c₁->z=y/\c₁=c:=λz c₁ e=>by
  rw[Bk]at e;cases hz:z==y with
  |true=>rw[hz]at e;cases e;exact#[Aa8 hz,rfl]
  |false=>rw[hz]at e;cases e
 have cl2:([(y,c)]:List (Str×Addr)).lookup y=some c:=by rw[Bk,Ab0]
 have hne:x≠y:=by rintro rfl;rw[hx]at hy;cases hy
 have noA:∀b:Addr,b∉(aOu P w K mg base x y qual scope f c (.ref c') A outer s H).ex:=λb z=>Aa2 (show b∈([]:List Addr)from z) (by simp);have I:Inv (aOu P w K mg base x y qual scope f c (.ref c') A outer s H) [] [some a,some v] H {s with heap:=h₁,toks:=s.toks+1}:=by
  refine⟨#[e0.mod,hk,rfl,rfl,Am _,λz z' c₁ h1 h2=>?_,λz hz=>?_,λz c₁ h1 _=>?_,λ_=>hr.hd,Rx e0.frames,.inr #[rfl,rfl],λb z=>Aa2 z (noA b),e0.bs,e0.bsz,λb _ _=>noA b,λb z=>Aa2 z (noA b),e0.funs,e0.frf],
   rfl,e0.bare,Un.kept hk₁,#[_,hns,λi z v' h1 h2 h3=>?_],λz c₁ h=>?_,e0.hok.fresh (Am _),λz c₁ h=>?_,λp hp=>Aa2 (show p∈([]:#v[4])from hp) (by simp),e0.hok.kept hk₁,rfl⟩
  ·exact(cl1 z c₁ h1).1.trans (cl1 z' c₁ h2).1.symm
  ·have hz:scope.names.lookup z=some .cell∨scope.names.lookup z=some .free:=hz;rcases hz with hz|hz
   ·exact Aa2 rfl (hcell _ (By hz))
   ·rw[hfr z hz];exact#[c,cl2]
  ·cases h1
  ·match i with
   |0=>
    obtain rfl:x=z:=Bj h1;obtain rfl:a=v':=Bj (Bj h2);refine#[ua,ra,.inl #[hx,?_]];show([(x,ua)]:List (Str×Value)).reverse.lookup x=some ua;rw[List.reverse_singleton,Bk,Ab0]
   |1=>
    obtain rfl:y=z:=Bj h1;obtain rfl:v=v':=Bj (Bj h2);exact#[u,ru,.inr #[.inr hy,c,cl2,(hb.keeps λb o e=>(e0.bs b o e).1).keeps hk₁]]
   |i+2=>exact Aa2 (show([x,y]:List Str)[i+2]? =some z from h1) (by simp)
  ·obtain⟨rfl,rfl⟩:=cl1 z c₁ h;exact#[_,(hb.keeps λb o e=>(e0.bs b o e).1).keeps hk₁]
  ·obtain⟨rfl,rfl⟩:=cl1 z c₁ h;obtain⟨o,ho,_⟩:=hb;exact(e0.bs _ _ ho).2
 refine PySem.W.kla_codeExpr (Ep (ht [] _ [some a,some v] H Q I hq) (λv' s' hs=>?_) λe s' hs=>Eg hs);obtain⟨v₁,H',J,rv,q⟩:=hs;exact#[v₁,H',J.os,J.bare,J.base,J.hok,rv,q]
def aYg(i:Nat)(f:Addr)(sp:Sp)(t:TA):TE:=λσ H Q=>σ[i]? =some (some (.ref f))/\t σ H λvs H1=>sp vs H1 Q E0
def aQ1{X:Cx}{k i:Nat}{f:Addr}{x:Str}{p pos:Pos}{t:TA}(F:aX X.prog X.w X.K X.mg X.base CX0 k f fd ps sp)(hr:cV k X.A)(hb:Binds X.K fd ps [])
  (ob:∀vs H Q E,sp vs H Q E->∃o d,H f=some (aAl f o)/\o.data=.func d) (ha:PA X (e::es) t) (hN:X.N[i]? =some x:=by rfl) (hv:Vis X.env.scope x:=by first|exact Dy rfl|exact Ew (Dy rfl)) (hdb:ND x:=by decide) (hcd:NC x:=by decide)
  (he:SE X e es:=by rfl) (hpl:BT X pos es:=by rfl):
  PE X (.Call (.Name x p) (e::es) [] pos) (aYg i f sp t):=by
 intro aa s σ H Q I h;obtain⟨h1,h2⟩:=h;refine Hf (thn (fZ (pos:=p) hN hv hdb hcd aa s σ H (λv H1=>v=.ref f/\H1=H) I #[_,h1,rfl,rfl]) λu s1 ⟨v,H1,I1,rv,ev,eH⟩=>?_);subst ev eH;obtain rfl:u=Ao f:=rv;have h':Bc #v[a] X.A (spliced (Im pos (Bz (e::es) X.env))) (λvs s'=>Vs f s'.heap/\Bc #v[a] X.A (call (.ref f) ([]++vs)) (EP X aa σ Q) X.xe s') X.xe s1:=by
  refine thn (ha pos aa s1 σ H1 _ I1 h2) λus s2 ⟨vs,H2,I2,r,q⟩=>#[?_,?_]
  ·obtain⟨o,d,e1,e2⟩:=ob _ _ _ _ q;have:=(show bL X.prog X.w H2 s2.heap f (aAl f o)from I2.hok f _ e1).1;obtain⟨oc,od,dt,sl⟩:=o;cases e2;exact#[_,_,_,_,this]
  ·exact aF1 F hr hb .nil aCo I2 r (by rw[Bi];exact q)
 rw[he]at h';rw[he];exact PySem.W.callWith_of (P:=Vs f) (by show((false || (Im pos (Bz es X.env)).any (·.1)) || false)=false;rw[hpl];rfl) PySem.W.keeps_F (evalArgs_plain h')
theorem funFrames_base{h base base':Heap}:∀{l:List Env},h.FunFrames base l->(∀b∈frs l,base'.get? b=none)->h.FunFrames base' l
 | [],_,_=>trivial
 |env::r,⟨hk,⟨L,o,hf,hn,ho,hd⟩,hr⟩,hb=>⟨hk,#[L,o,hf,hb L (by unfold frs;rw[Gn,hf];exact Ag),ho,hd],funFrames_base hr λb z=>hb b (by
   unfold frs at z⊢;rw[Gn,hf];exact Ah _ z)⟩
variable {s:Ai}
def aOh(l:List Env)(H:Hp)(h:Heap):Heap:=Ua (aCa h H) (frs l)
def aGt{l:List Env}{o:Obj}(e:h.get? b=some o)(n:H b=none)(hb:b∉frs l):(aOh l H h).get? b=some o:=Rr _ (aHc e n) hb
def Inv.baseIn(I:#v[3]):∀b o,X.base.get? b=some o->(aOh X.stack H s.heap).get? b=some o:=λb o e=>by
 obtain⟨h1,h2⟩:=I.bs b o e;refine aGt h1 h2 λz=>?_;rcases Ax.mp (I.stkSub b z)with rfl|z
 ·exact Aa2 (As e) (Vd.mpr (Bs I.ok.bsz I.ok.above))
 ·exact I.ok.nofr e z
def Inv.env0B(I:#v[3]):aGj X.prog X.w X.K X.mg (aOh X.stack H s.heap) X.A X.stack s H:=by
 have M:=I.ok.mod;refine#[I.ok.frames,#[M.kin.keeps I.baseIn,M.glob.keeps I.baseIn,let⟨mb,h1,h2⟩:=M.blt;#[mb,h1.keeps I.baseIn,h2],M.nolimit.keeps I.baseIn],λb o e=>aK9 (Rz _ e),?_,funFrames_base I.stack λb hb=>Qy _ hb,I.stkFree,I.hok,I.bare];unfold aOh;rw[Qx,aEi];exact Am _
def Inv.cellB{y:Str}{c:Addr}(I:#v[3])(hc:X.env.cells.lookup y=some c)(hi:X.N[i]? =some y)(hy:X.env.scope.names.lookup y=some .cell)(hf:X.fn y=true)(hs:σ[i]? =some (some v)):∃u,RelV v u/\(aOh X.stack H s.heap).IsCell c (some u):=by
 obtain⟨m,hn,hl⟩:=I.loc;obtain⟨u,r,l⟩:=hl i y v hi hs (.inr (.inl hy));refine#[u,r,?_];rcases l with ⟨k,_⟩|⟨_,c',e,o,ho,hd⟩
 ·have k':X.env.scope.names.lookup y=some .local:=k;rw[hy]at k';cases k'
 ·rw[hc]at e;cases e;refine#[o,aGt ho (I.freeC y c hc) λz=>?_,hd];rcases Ax.mp (I.stkSub c z)with z|z
  ·exact I.cne y c hc z
  ·obtain⟨_,o',ho',_⟩:=I.ok.funs.mem z;exact Aa2 (As ho') (Vd.mpr (I.ok.cab y c hf hc))
def aAr{pos p2:Pos}{c:Value}(l:List Value)(h:Zp l)(ne:¬(p2.line=pos.line/\p2.col=pos.col)):Os p2 (l++[Ji pos.line,Ji pos.col,c])=Os p2 l:=by
 fun_induction Zp l with
 |case1=>
  simp only[Di,Os,Ji];rw[Aa0];intro z;apply ne;simp at z
  lia
 |case2 a t b u x rest ih=>
  simp only[List.cons_append,Os];rw[ih h]
 |case3 l h1 h2=>exact h.elim
def uV(H:Hp)(P:Addr)(L:List Pos)(q:Str):Prop:=∃ps,H P=some (.tbl ps)/\Zp ps.toList/\∀pos∈L,Os pos ps.toList=none∨∃c,Os pos ps.toList=some (.ref c)/\H c=some (aC9 c q)
def uV.same{H H':Hp}{P:Addr}(s:aOc H H')(t:uV H P L q):uV H' P L q:=by
 obtain⟨ps,e,ok,c⟩:=t;refine#[ps,s _ _ e,ok,λp hp=>?_];rcases c p hp with c|⟨c',e1,e2⟩
 ·exact .inl c
 ·exact .inr #[c',e1,s _ _ e2]
def bBj(P:Addr)(L:List Pos)(q:Str)(o:Addr->Value->Obj):TE:=λ_ H Q=>uV H P L q/\∀c' f ctv H',KpP P H H'->uV H' P L q->H' c'=some (aC9 c' q)->H' f=some (aAl f (o c' ctv))->H f=none->Q (.ref f) H'
section
variable {X:Cx}{params:Arguments}{body:Bu}{scope:Scope}{pos:Pos}{clos:List (Str×Addr)}{c P:Addr}
def aT1(hm:pos∈L)(hL:∀p∈L,p=pos∨¬(p.line=pos.line/\p.col=pos.col))(hC:Kc X.base c P)(hcode:X.env.code=.ref c)(hB:aBn X.mg X.base)(hdef:defaultsOf params X.env=([],[]):=by rfl)(hcl:Lu scope X.env=pure clos:=by rfl):
  PE X (.Lambda params body scope pos) (bBj P L (X.env.qual++"<lambda>") λc' ctv=>Gx "<lambda>" (X.env.qual++"<lambda>") params body scope clos ((X.mg "__name__").getD .none) c' ctv):=by
 intro aa s σ H Q I h;obtain⟨⟨ps,hP,ht,hcs⟩,q⟩:=h;have hc:=hcs pos hm;have ha:s.heap.get? P=some (Kb ps):=(show bL X.prog X.w H s.heap P (.tbl ps)from I.hok P _ hP);have hgs:=I.ok.mod.glob.keeps I.bk;have nP:∀b ob,X.base.get? b=some ob->b≠P:=λb ob e=>by
  rintro rfl;have:=(I.bs _ _ e).2;rw[hP]at this;cases this
 obtain⟨bm,ob,b1,b2,b3,b4,b5,b6⟩:=hB;have hbG:bm≠mainGlobals:=λz=>by
  obtain⟨o,es,ep,e,hd,_⟩:=I.ok.mod.glob;rw[<-z,b3]at e;cases e;rw[hd]at b6;cases b6
 have hgP:mainGlobals≠P:=by
  obtain⟨o,es,ep,e,hd,_⟩:=I.ok.mod.glob;exact nP _ _ e
 have hb:s.heap.BuiltinsAt X.mg P:=#[bm,ob,b1,b2,hbG,nP _ _ b3,I.bk _ _ b3,b4,b5,b6];refine PySem.W.kla_eval hdef ?_;rcases hc with hc|⟨c',hc,hH⟩
 ·refine PySem.W.kla_makeFunction hcl I.ok.glob hgs hcode (hC.keeps I.bk) ha ht hc hgP hb λc' ctv h' tk hx hge hlt hrec htb=>?_;have J:=aPw (tk:=tk) (o:=Gx "<lambda>" (X.env.qual++"<lambda>") params body scope clos ((X.mg "__name__").getD .none) c' ctv) I hP hx hge hlt hrec htb rfl;have fresh:∀b,#v[0]<=b->H b=none:=λb hb=>I.hok.fresh hb;have neP:∀b,#v[0]<=b->b≠P:=λb hz e=>by rw[<-e,fresh _ hz]at hP;cases hP
  have hsz:#v[0]<=h'.objs.size:=Hy (Gz hge hlt);refine#[.ref h'.objs.size,_,J,rfl,q c' h'.objs.size ctv _ (λb u n e=>?_) #[ps++ (List.toArray [Ji pos.line,Ji pos.col,.ref c']),?_,?_,λp hp=>?_] ?_ aL (fresh _ hsz)]
  ·have l:b<#v[0]:=I.hok.lt e;rw[aJ (Aw (Ba l hsz)),aJ (Aw (Ba l hge)),aJ n];exact e
  ·rw[aJ (Cq (neP _ hsz)),aJ (Cq (neP _ hge)),aL]
  ·rw[Sx];exact TriplesOk_snoc _ _ _ _ ht
  ·rw[Sx];rcases hL p hp with rfl|ne
   ·exact .inr #[c',codeAmong_snoc _ ht hc,by rw[aJ (Aw hlt),aL]]
   ·rw[aAr _ ht ne];rcases hcs p hp with z|⟨c2,z1,z2⟩
    ·exact .inl z
    ·have l:c2<#v[0]:=I.hok.lt z2;refine .inr #[c2,z1,?_];rw[aJ (Aw (Ba l hsz)),aJ (Aw (Ba l hge)),aJ λe=>by rw[e,hP]at z2;cases z2];exact z2
  ·rw[aJ (Aw hlt),aL]
 ·refine PySem.W.kla_makeFunctionHit hcl I.ok.glob hgs hcode (hC.keeps I.bk) ha ht hc hb λctv h' tk hk hsz=>?_;have hf:H h'.objs.size=none:=I.hok.fresh hsz;have J:=I.laid (a:=h'.objs.size) (o:=aAl h'.objs.size (Gx "<lambda>" (X.env.qual++"<lambda>") params body scope clos ((X.mg "__name__").getD .none) c' ctv)) (t':=tk) (λb u e=>Ae _ (hk b u e)) hsz (aK8 (Ar _ rfl));have sm:aOc H (upd H h'.objs.size (aAl h'.objs.size (Gx "<lambda>" (X.env.qual++"<lambda>") params body scope clos ((X.mg "__name__").getD .none) c' ctv))):=λb u e=>by rw[aJ (aV e hf)];exact e
  exact#[.ref h'.objs.size,_,J,rfl,q c' h'.objs.size ctv _ (KpP.of sm) (uV.same sm #[ps,hP,ht,hcs]) (sm _ _ hH) aL hf]
end
def aJi{P:Aj}{w:Bd}{K:Ac}{mg mb:Str->#v[9]}{fa a:Addr}{fd:FuncData}{x:Str}{s₁:Ai}{vs:List Value}{ns:List Int}
  (KX:K.In s₁.heap) (hns:s₁.heap.Ns mainGlobals mg) (hb:s₁.heap.Ns Pp mb) (hbb:∀x:Str,x≠"__name__"->mb x=Fx x) (hlim:s₁.heap.NoLimit) (hg:s₁.gens= (List.toArray [])) (hBm:aBn mg s₁.heap)
  (hcd:∀Pt∈Ps,∃c,Kc s₁.heap c Pt) (hPt:∀Pt∈Ps,s₁.heap.get? Pt=some (Kb (List.toArray []))) (hKP:∀Pt∈Ps,K.lookup Pt=none)
  (ha:s₁.heap.get? a=some {cls:=.type "list",data:=.seq vs.toArray}) (hi:Nj vs ns) (hl:ns.length<=sizeLine) (hr:cV k Ro)
  (F:∀base:Heap,K.In base->base.Ns mainGlobals mg->aBn mg base->aX P w K mg base CX k fa fd [x] sp) (hbind:∀(s:Ai)(u:Value),Ui s fd #[[u],[]] [(x,u)])
  (hsp:∀H:Hp,(∀Pt∈Ps,H Pt=some (.tbl (List.toArray [])))->SqL K H a (ns.map V.int)->sp [.ref a] H (λv _=>v=.bl true) λ_ _ _=>False)
  (hCX:∀H e s',CX [] H s₁ (λ_ _ _=>False) e s'->False):
  Ii (model P w) Ro (.call (.ref fa) #[[.ref a],[]]) (λr s'=>r=.ok (.ret (.bool true))/\OldK s₁.heap s'.heap/\s'.os=s₁.os/\Og s'.gens) s₁:=by
 have rv:=aEz hi;have lenV:=hi.length;have naP:¬a∈Ps:=λz=>by rw[hPt a z]at ha;cases ha
 have core:∀H:Hp,(∀b,¬b∈Ps->H b=none∨∃o xs,H b=some (.frz o (.lst xs)))->(∀Pt∈Ps,H Pt=some (.tbl (List.toArray [])))->SqL K H a (ns.map V.int)->HOk P w H s₁.heap->(∀b,H b≠none->b=a∨b∈Ps)->(H a≠none->K.lookup a=none)->
   Ii (model P w) Ro (.call (.ref fa) #[[.ref a],[]]) (λr s'=>r=.ok (.ret (.bool true))/\OldK s₁.heap s'.heap/\s'.os=s₁.os/\Og s'.gens) s₁:=by
  intro H hO hP hS hok hA hK;have base_of:∀{b:Addr}{o:Obj},s₁.heap.get? b=some o->H b=none->(aCa s₁.heap H).get? b=some o:=λe n=>aHc e n;have noD:∀{b:Addr}{o:Obj},s₁.heap.get? b=some o->(∀xs n,o.data≠.seq xs n)->(∀xs,o.data≠.fields xs)->H b=none:=λ{b o} e d1 d2=>by
   cases q:H b with
   |none=>rfl
   |some u=>
    rcases hA b (by rw[q];simp)with rfl|z
    ·rw[ha]at e;cases e;exact Aa2 rfl (d1 _ _)
    ·rw[hPt b z]at e;cases e;exact Aa2 rfl (d2 _)
  have noA:∀{b:Addr}{o:Obj}{es:Array Rv}{ep:Nat},s₁.heap.get? b=some o->o.data=.dict es ep->H b=none:=λ{b o es ep} e d=>noD e (λxs n z=>by rw[d]at z;cases z) λxs z=>by rw[d]at z;cases z
  have nsK:∀{b:Addr}{m:Str->#v[9]},s₁.heap.Ns b m->(aCa s₁.heap H).Ns b m:=λ{b m} ⟨o,es,ep,e,d,r⟩=>#[o,es,ep,base_of e (noA e d),d,r];have hKb:K.In (aCa s₁.heap H):=λb o e=>base_of (KX b o e) (by
   cases q:H b with
   |none=>rfl
   |some u=>
    rcases hA b (by rw[q];simp)with rfl|z
    ·rw[hK (by rw[q];simp)]at e;cases e
    ·rw[hKP b z]at e;cases e)
  have hM:Mod K mg (aCa s₁.heap H):=#[hKb,nsK hns,#[mb,nsK hb,hbb],let⟨mc,h1,h2⟩:=hlim;#[mc,nsK h1,h2]];have hBb:aBn mg (aCa s₁.heap H):=let⟨bm,ob,b1,b2,b3,b4,b5,b6⟩:=hBm;#[bm,ob,b1,b2,base_of b3 (noD b3 (λxs n z=>by rw[b6]at z;cases z) λxs z=>by rw[b6]at z;cases z),b4,b5,b6];have e0:aGj P w K mg (aCa s₁.heap H) Ro [] s₁ H:=#[rfl,hM,λb o e=>aK9 e,Ss (aEi _ _),trivial,λb hb=>Aa2 (show b∈([]:List Addr)from hb) (by simp),hok,.of_eq hg];refine Jt ((F _ hKb (nsK hns) hBb).run Ro [] s₁ H #[[.ref a],[]] [.ref a] [.ref a] _ _ hr e0 (hbind s₁ (.ref a)) (.cons rfl .nil) (hsp H hP hS)) λr s' h=>?_;cases r with
  |error e=>exact(hCX H e s' h).elim
  |ok fl=>
   cases fl with
   |next=>exact Eg h
   |brk=>exact Eg h
   |cont=>exact Eg h
   |ret u=>
    obtain⟨v,H',os,bare,un,hok',r',q⟩:=h;have q':v=.bl true:=q;subst q';obtain rfl:u=Kq true:=r';have keep:∀b o,¬b∈Ps->s₁.heap.get? b=some o->s'.heap.get? b=some o:=λb o nb e=>by
     cases q:H b with
     |none=>exact un.keep b o e q (by intro z;exact Aa2 (show b∈([]:List Addr)from z) (by simp)) (by simp)
     |some u=>
      rcases hO b nb with z|⟨ob,xs,z⟩
      ·rw[q]at z;cases z
      ·have z2:=un.frzs b ob _ z;obtain⟨e1,_⟩:=hok b _ z;obtain⟨e2,_⟩:=hok' b _ z2;rw[e]at e1;cases e1;exact e2
    have z4:∀Pt∈Ps,∃more,s'.heap.get? Pt=some (Kb ((List.toArray [])++more)):=λPt hp=>by
     obtain⟨more,z3⟩:=un.tbls Pt _ (hP Pt hp);exact#[more,(show bL P w H' s'.heap Pt (.tbl _)from hok' Pt _ z3)]
    refine#[rfl,#[λb o e=>?_,λb o e=>?_],os,bare]
    ·by_cases hb:b∈Ps
     ·rw[hPt b hb]at e;cases e;obtain⟨c,hc⟩:=hcd b hb;obtain⟨more,z4⟩:=z4 b hb;exact .inr (.inl #[(hc.tab (hPt b hb)).isCodeTable,rfl, (List.toArray []),more,rfl,z4])
     ·exact .inl (keep b o hb e)
    ·by_cases hb:b∈Ps
     ·obtain⟨more,z4⟩:=z4 b hb;exact#[_,z4]
     ·exact#[o,keep b o hb e]
 cases hk:K.lookup a with
 |some o=>
  have e:=KX a o hk;rw[ha]at e;cases e;refine core (λb=>if b∈Ps then some (.tbl (List.toArray []))else none) (λb hb=> .inl (Aa0 hb)) (λ_ h=>Aa1 h) (.inr #[_,vs.toArray,_,hk,rfl,rfl,rfl,by rw[Al,lenV];exact hl,by simpa using rv]) (λb u z=>?_) (λb z=>?_) λz=>?_
  ·by_cases hb:b∈Ps
   ·have z':=(Aa1 hb).symm.trans z;cases z';exact hPt b hb
   ·have z':=(Aa0 hb).symm.trans z;cases z'
  ·by_cases hb:b∈Ps
   ·exact .inr hb
   ·exact Aa2 (Aa0 hb) z
  ·exact Aa2 (Aa0 naP) z
 |none=>
  refine core (λb=>if b∈Ps then some (.tbl (List.toArray []))else if b=a then some (.frz {cls:=.type "list",data:=.seq vs.toArray} (.lst (ns.map V.int)))else none) (λb hb=>?_) (λ_ h=>Aa1 h) (.inl (.inr #[{cls:=.type "list",data:=.seq vs.toArray},(Aa0 naP).trans (Aa1 rfl)])) (λb u z=>?_) (λb z=>?_) λ_=>hk
  ·by_cases h2:b=a
   ·exact .inr #[_,_,(Aa0 hb).trans (Aa1 h2)]
   ·exact .inl ((Aa0 hb).trans (Aa0 h2))
  ·by_cases hb:b∈Ps
   ·have z':=(Aa1 hb).symm.trans z;cases z';exact hPt b hb
   ·have z:=(Aa0 hb).symm.trans z;by_cases h2:b=a
    ·have z':=(Aa1 h2).symm.trans z;cases z';subst h2;exact#[ha,by rw[Ab];exact hl,vs,_,rv,ha]
    ·have z':=(Aa0 h2).symm.trans z;cases z'
  ·by_cases hb:b∈Ps
   ·exact .inr hb
   ·by_cases h2:b=a
    ·exact .inl h2
    ·exact Aa2 ((Aa0 hb).trans (Aa0 h2)) z
def aNv{l:PySem.W.OpenLaw}{n k:Nat}{q:Aj}{loose:List Str}{XP:(Str->#v[9])->Heap->Prop}{YP:Bd->Heap->Prop}{d:DefRec}{K:Params->Ac}{sp:Ac->Sp}{x:Str}
  (hn:l.most=some n) (hn2:n<=sizeLine) (hdf:d.params.defaults=[]) (hr:cV k Ro)
  (hY:∀(w:Bd)(h:Heap),YP w h->(K w.params).In h) (hT:∀(w:Bd)(h:Heap),YP w h->∀P∈Ps,h.get? P=some (Kb (List.toArray [])))
  (F:∀(w:Bd)(mg:Str->#v[9])(fa:Addr)(h:Heap),(K w.params).In h->h.Ns mainGlobals mg->mg d.name=some (.ref fa)->
   ∃fd:FuncData,(∀(s:Ai)(u:Value),Ui s fd #[[u],[]] [(x,u)])/\(∀Pt∈Ps,(K w.params).lookup Pt=none/\∃c,PySem.W.codeHdIn (K w.params) c Pt=true)/\
    ∀base:Heap,(K w.params).In base->base.Ns mainGlobals mg->aBn mg base->aX l.prog w (K w.params) mg base CX k fa fd [x] (sp (K w.params)))
  (hsp:∀(K:Ac)(H:Hp)(a:Addr)(ns:List Int),ns.length<=n->(∀Pt∈Ps,H Pt=some (.tbl (List.toArray [])))->SqL K H a (ns.map V.int)->sp K [.ref a] H (λv _=>v=.bl true) λ_ _ _=>False)
  (hCX:∀(H:Hp)(s:Ai)(e:Value)(s':Ai),CX [] H s (λ_ _ _=>False) e s'->False):
  PySem.W.WalkO q loose XP YP l.row.toRowW d [] (λf vs=>Tz f vs):=by
 refine Att.aGs hn hdf λw s₀ s₁ mg mb fa o pm cd doc a vs ns G Y ho hd hcd hmg hobj hints hlen hg=>?_;have KX:=hY w _ Y;obtain⟨fd,hb,h1,hF⟩:=F w mg fa _ KX G.T.g hmg;exact aJi KX G.T.g G.T.b G.T.builtins G.T.nolimit hg G.T.bmain (λPt hp=>let⟨_,c,h2⟩:=h1 Pt hp;#[c,PySem.W.codeHd_of_K KX h2]) (hT w _ Y) (λPt hp=>(h1 Pt hp).1) hobj hints (Bs hlen hn2) hr hF hb (λH hO hS=>hsp (K w.params) H a ns hlen hO hS) λH e s'=>hCX H s₁ e s'
structure Lm where
 q:Str
 args:Arguments
 body:Bu
 scope:Scope
 x:Str
 y:Str
structure See where
 fl:Addr
 cell:Addr
 dd:Addr
 c:Addr
 pm:Value
 ct:Value
abbrev Lm.obj(L:Lm)(z:See):Obj:=Gx "<lambda>" L.q L.args L.body L.scope [(L.y,z.cell)] z.pm z.c z.ct
abbrev Lm.fd(L:Lm)(z:See):FuncData:=Uo "<lambda>" L.q L.args L.body L.scope [(L.y,z.cell)] z.pm (.ref z.c) z.ct
def lamO(P:Aj)(w:Bd)(L:Lm)(z:See)(ab:List (Tke×U)):Opq:=⟨λW B H v=>v=.ref z.fl/\(¬B z.fl/\H z.fl=some (aAl z.fl (L.obj z)))/\(¬B z.c/\H z.c=some (aC9 z.c L.q))/\∃xs,(¬B z.dd/\H z.dd=some (.ext (cI P w z.dd xs)))/\PdR W B H ab xs,
 λk ⟨e,⟨a1,a2⟩,⟨b1,b2⟩,xs,⟨c1,c2⟩,r⟩=>#[e,k _ _ a1 a2,k _ _ b1 b2,xs,k _ _ c1 c2,r.mono k],λk ⟨e,a,b,xs,c,r⟩=>#[e,a,b,xs,c,r.wm k]⟩
structure aGo(L:Lm):Prop where
 kd:L.scope.kind=.function
 co:L.scope.isCoroutine=false
 gn:L.scope.isGenerator=false
 hx:L.scope.names.lookup L.x=some .local
 hy:L.scope.names.lookup L.y=some .free
 fr:∀z∈L.scope.names,z.2=.free->z.1=L.y
 ce:∀z∈L.scope.names,z.2≠.cell
 bd:∃p1 p2 p3,L.body=.Subscript (.Name L.y p1) (.Name L.x p2) p3
 d1:(L.x==("__debug__":Str))=false/\(L.x==("__classdict__":Str))=false
 d2:(L.y==("__debug__":Str))=false/\(L.y==("__classdict__":Str))=false
 bn:∀z a,Fd (L.fd z) #[[a],[]]=pure [(L.x,a)]
inductive aN7(P:Aj)(w:Bd)(L:Lm)(z:See)(vs:List V)(H:Hp)(Q:VK)(z3_:XK):Prop
 |mk (W B k ab u:_) (q0_:EB W B H) (q1_:(lamO P w L z ab).φ W B H (.ref z.fl)) (q2_:DUs W B H [tkU k] vs) (q3_:sY ab k=some u) (q4_:∀v,DU W B H u v->Q v H):aN7 P w L z vs H Q z3_
def aH0(P:Aj)(w:Bd)(L:Lm)(z:See):Sp:=λvs H Q z3_=>aN7 P w L z vs H Q z3_
variable {mg:Str->#v[9]}{base:Heap}{L:Lm}{z:See}
def aQr(o:aGo L)(hb:base.IsCell z.cell (some (.ref z.dd))):↥1 z.fl (L.fd z) [L.x] (aH0 P w L z):=by
 refine aXc (k:=0) (v:=.ref z.dd) (u:=.ref z.dd) o.kd o.co o.gn o.hx o.hy (λy hy=>o.fr _ (By hy) rfl) o.ce hb rfl (λvs H Q E h=>?_) (λvs H Q E h=>?_) λA outer s H a Q E hr h=>?_
 ·obtain⟨W,B,k,ab,u,_,_,d,_⟩:=h;exact d.length.symm
 ·obtain⟨W,B,k,ab,u,_,⟨_,a,b,_⟩,_⟩:=h;exact#[a.2,b.2]
 ·obtain⟨W,B,k,ab,u,eb,⟨_,_,_,xs,c,r⟩,d,hv,q⟩:=h;obtain⟨p1,p2,p3,e⟩:=o.bd;rw[e];obtain⟨b,hb',kb⟩:=aCx (k:=k) (let⟨x,r,e,d,_⟩:=d;by cases e;exact d:DU W B H (tkU k) a);refine#[_,bAv (by have:=hr.un;show(A.deeper _).units+2<cLine;lia) (fZ (i:=1) rfl (.inr (.inr o.hy)) o.d2.1 o.d2.2) (fZ (i:=0) rfl (.inl o.hx) o.d1.1 o.d1.2) (λ_ _=>rfl),?_];rcases r.val k with ⟨z1,_⟩|⟨u',c',y,v,z1,z2,rv,dv⟩
  ·rw[z1]at hv;cases hv
  ·rw[z1]at hv;cases hv;exact#[_,rfl,_,rfl,z.dd,b,xs,k,y,c',v,rfl,hb',c.2,λx hx=>aF9 (r.keys.2 x hx),kb,z2,rv,q v dv]
def aZt(o:aGo L):Binds K (L.fd z) [L.x] []:=Binds.all λus hl=>by
 match us,hl with
 | [a],_=>exact o.bn z a
def aYm(P:Aj)(w:Bd)(L:Lm)(z:See)(i:Nat)(G:TV):TV:=λρ R=>∃ab,ρ[i]? =some (.sh (.op (lamO P w L z ab)))/\G ρ λs=>s.es λku=>∃k u,ku=tkU k/\sY ab k=some u/\R (.sh u)
def aIb{X:Cx}{P:Aj}{w:Bd}{L:Lm}{z:See}{i k:Nat}{x:Str}{e:Bu}{p pos:Pos}{G:TV}(hP:X.prog=P)(hw:X.w=w)(o:aGo L)(F:aX P w X.K X.mg X.base CX0 1 z.fl (L.fd z) [L.x] (aH0 P w L z))(hr:cV (k+1) X.A)(ha:VE X e G)(hN:X.N[i]? =some x:=by rfl)(hv:Vis X.env.scope x:=by first|exact Dy rfl|exact Ew (Dy rfl))(hdb:ND x:=by decide)(hcd:NC x:=by decide)
  (he:SE X e []:=by rfl) (hpl:BT X pos []:=by rfl):VE X (.Call (.Name x p) [e] [] pos) (aYm P w L z i G):=by
 subst hP hw;obtain⟨_,q1,f⟩:=ha;refine#[_,aQ1 F (hr.mono ∅) (aZt o) (λvs H Q E ⟨_,_,_,_,_,_,⟨_,a,_⟩,_,_,_⟩=>#[_,_,a.2,rfl]) (dW q1 iZ he) hN hv hdb hcd he hpl,λ{W B ρ σ H R Q} ee h q=>?_];obtain⟨ab,hi,h⟩:=h;obtain⟨v,s1,d1⟩:=ee.sh i _ hi;have ev:=d1.1;subst ev;refine#[s1,f ee h λs v H1 h1 w1 r1=>?_];obtain⟨ku,⟨k',u,rfl,hu,h2⟩,dk⟩:=r1.du ee.eb h1;exact#[W,B,k',ab,u,ee.eb.to w1,(lamO X.prog X.w L z ab).mono (ee.eb.keep w1) d1,DUs.one dk,hu,λv dv=>q _ _ _ h2 w1 dv]
def bBw(j:Nat)(F:TV):TVS:=λE ρ=>∃ns us,ρ[j]? =some (.oo (dkO ns us))/\F ρ λs=>∃ms ws,s=.oo (dkO ms ws)/\(ns++ms).Nodup/\ns.length+ms.length<=50/\E.nx (ρ.set j (.oo (dkO (ns++ms) (us++ws))))
def aU1{x:Str}{e:Bu}{p' apos cpos pos:Pos}{F:TV}(j:Nat)(he:VE X e F)(hN:X.N[j]? =some x:=by rfl)(hvs:Vis X.env.scope x:=by trivial)(hd:ND x:=by decide)
  (hcd:NC x:=by decide) (hbase:Gi (.Name x p') "update" X.env (eval (.Name x p') X.env)=eval (.Name x p') X.env:=by rfl)
  (hfew:((Im cpos (Bz [e] X.env)).all (λx=> !x.1) && (Ft cpos (Cz [] X.env)).all (λx=>x.1.isSome)
   && decide ([e].length+([]:List Ij).length+(if([]:List Ij).isEmpty then 0 else 1)<30))=true:=by rfl)
  (hline:EL apos cpos:=by rfl) (ht:Im cpos (Bz [e] X.env)=[(false,eval e X.env)]:=by rfl)
  (hsw:Ed (.Call (.Attribute (.Name x p') "update" apos) [e] [] cpos) none pos.line X.env=pure false:=by rfl):VS X (.Expr (.Call (.Attribute (.Name x p') "update" apos) [e] [] cpos) pos) (bBw j F):=by
 obtain⟨_,p,f⟩:=he;refine#[_,rD (aTz (fZ hN hvs hd hcd) p #[hbase,hfew,hline,ht]) hsw,λ{W B H0 A ρ σ H E D} o h jj=>?_];obtain⟨ns,us,hj,h⟩:=h;obtain⟨q,g1,gs,xs,g3,_⟩:=o.hd j _ _ hj rfl;refine#[_,g1,q,rfl,.inl #[_,.inl g3],f o.ee h λs v H1 h1 w1 r1=>?_];obtain⟨ms,ws,rfl,nd,ll,h2⟩:=h1;have o1:=o.to w1;obtain⟨q',g1',_,xs',g3',g4,g5⟩:=o1.hd j _ _ hj rfl;rw[g1]at g1';cases g1';obtain⟨b,S,rfl,sn,sb,ys,y1,y2,y3⟩:=r1;have ne:q≠b:=λz=>by
  have:=sn b ((sb b).mpr rfl);rw[<-z,g3]at this;cases this
 have kk:∀{x:HO} b y,¬Bx B A b->H1 b=some y->¬Bx B A b/\upd H1 q x b=some y:=λb y n h=>#[n,(aJ (λz:b=q=>n (by rw[z];exact .inr #[j,(gs q).mpr rfl]))).trans h];refine#[b,_,_,rfl,g3',y1,ne,?_,?_]
 ·have h1:(zk ns xs').length<=ns.length:=by unfold zk;rw[Ie,Ab];lia
  have h2:(zk ms ys).length<=ms.length:=by unfold zk;rw[Ie,Ab];lia
  lia
 ·rw[aCk g4 y2 nd];exact jj.nx (o1.chg g1 ((gs q).mpr rfl) (s':=.oo (dkO (ns++ms) (us++ws))) rfl rfl #[gs,_,aL,by rw[Ak,Ak,g4,y2],DUs.mono kk _ (g5.app (DUs.mono (λb y n h=>#[λz=>n (.inl z),h]) ws y3))]) h2
open Classical in
def aW1(I:#v[3]){x:V}{v:Value}(rx:RelV x v)(hx:Den X.K H d x){A:Bp}{l:List D}{xs:List V}(r:Vals xs us)(h:vM X.K H l xs)(hu:A.units+d.dep+D.deps l<cLine):
  ∃e:Value->Bool,(∀w∈us,Kr A s w v (e w))/\us.length=l.length/\∀m(hm:m<us.length) d',l[m]? =some d'->e us[m]=d'.eq d:=by
 obtain⟨e,ee,i1,i2⟩:=qG (A:=A) I rx hx r h hu;have key:∀w d' x',RelV x' w->Den X.K H d' x'->e w=d'.eq d:=λw d' x' r' h'=>by
  rw[ee];by_cases hq:d'.eq d=true
  ·rw[hq];exact Aa5 #[d',x',r',h',hq]
  ·rw[Vo]at hq;rw[hq];refine Aa6 ?_;rintro⟨d2,x2,r2,h2,q2⟩;cases RelV.inj r2 r';rw[Den.inj I d2 d' h2 h',hq]at q2;cases q2
 refine#[e,i1,?_];clear ee i1 i2 hu;induction l generalizing xs us with
 |nil=>
  cases (show xs=[]from h);cases r;exact#[rfl,λm hm=>Aa2 hm (Eh m)]
 |cons d0 l ih=>
  obtain⟨x0,t,rfl,h1,h2⟩:=h;cases r with
  |@cons _ u0 _ us0 r0 rr=>
  obtain⟨e1,e2⟩:=ih rr h2;refine#[by rw[An,An,e1],λm hm d' hd=>?_];cases m with
  |zero=>
   cases hd;exact key _ _ _ r0 h1
  |succ m=>exact e2 m (Lx hm) d' hd
def aMr(hu:X.A.units+101<cLine):MtM X "list.index" (λx vs H Q=>∃(l:Addr)(y:V)(xs:List V)(ds:List D)(d d':D)(j:Nat),x=.ref l/\vs=[y]/\Den X.K H d y/\SqL X.K H l xs/\vM X.K H ds xs/\d.dep+D.deps ds<=99/\ds[j]? =some d'/\d'.eq d=true/\(∀m,m<j->∀x,ds[m]? =some x->x.eq d=false)/\Q (.int (j:Nat)) H):=by
 intro aa s σ H x vs v us Q I rx rv h;obtain⟨l,y,xs,ds,d,d',j,rfl,rfl,hd,hq,hds,hde,hj,he,hno,q⟩:=h;cases rx;obtain⟨u,rfl,ru⟩:=vals1 rv;obtain⟨ae,rv',pl,hz⟩:=I.list hq;obtain⟨e,i1,i2,i3⟩:=aW1 (A:=X.A.in1) I ru hd rv' hds (by show X.A.units+1+_+_<_;lia);obtain⟨⟨cls,dd,data,sl⟩,ho,hc,n,hd'⟩:=pl.isList;simp only at hc hd';subst hc hd';have hjl:j<ds.length:=(Be.mp hj).1;have hl:=rv'.length;have hs:sizeLine=16777216:=Ez;refine Te Pr #[_,ho,rfl] PySem.F.entry_list_index (PySem.F.args_list_index_2 _ _)
  (SeqAt.list_indexAt l ae.toArray n dd sl u e j (by simpa[i2]using hjl) ∅ ?_ ?_) #[ho,λy hy=>i1 y (by simpa using hy),#[.int _,H,I.tok _,#[_,rfl],q]]
 ·show e ae[j]=true;rw[i3 j ∅ _ hj,he]
 ·intro m hm hlt;show e ae[m]=false;have hm':m<ds.length:=by lia
  rw[i3 m (by simpa using hm) ds[m] (Af hm')];exact hno m hlt _ (Af hm')
theorem aI8:∀(l:List U)(j:Nat),(U.ds l)[j]? =l[j]?.map U.d
 | [],_=>by rw[U.ds];simp
 |u::l,0=>by rw[U.ds];rfl
 |u::l,j+1=>by
  rw[U.ds];exact aI8 l j
def bDm(F G:TV):TV:=λρ R=>F ρ λs=>∃l,s.rd=.ls l/\U.dts 40 l/\G ρ λs'=>∃j u,s'.rd.dt 40/\l[j]? =some u/\u.eq s'.rd=true/\(∀m,m<j->∀x,l[m]? =some x->x.eq s'.rd=false)/\R (.sh (.n (j:Nat)))
def aYz{o a:Bu}{apos cpos:Pos}{F G:TV}(hr:cV k X.A)(ho:VE X o F)(ha:VE X a G)(hbase:Gi o "index" X.env (eval o X.env)=eval o X.env:=by rfl)
  (hfew:((Im cpos (Bz [a] X.env)).all (λx=> !x.1) && (Ft cpos (Cz [] X.env)).all (λx=>x.1.isSome)
   && decide ([a].length+([]:List Ij).length+(if([]:List Ij).isEmpty then 0 else 1)<30))=true:=by rfl)
  (hline:EL apos cpos:=by rfl) (hs:SE X a []:=by rfl) (hplain:BT X cpos []:=by rfl):
  VE X (.Call (.Attribute o "index" apos) [a] [] cpos) (bDm F G):=by
 obtain⟨_,p,f⟩:=ho;obtain⟨_,p',f'⟩:=ha;refine#[_,aLe Hv Pr PySem.F.type_list_index (aMr (by have:=hr.un;lia)) p (dW p' iZ hs) hbase hfew hline hs hplain,λ{W B ρ σ H R Q} e h q=>f e h λs v H1 h1 w1 r1=>?_];obtain⟨l,e1,t1,h1⟩:=h1;have d1:=r1.db e.eb;rw[e1]at d1;obtain⟨p,xs,rfl,nw,hp,ds⟩:=d1.ls (e.to w1).eb;refine#[.inl #[rfl,_,SqL.of hp],f' (e.to w1) h1 λs' v' H2 h2 w2 r2=>?_];obtain⟨j,u,t2,hj,he,hno,h2⟩:=h2;have a1:=U.dep 40 _ t2;have a2:=U.deps 40 _ t1;refine#[p,v',xs,U.ds l,s'.rd.d,u.d,j,rfl,rfl,(r2.db (e.to w1).eb).den t2,SqL.of (w2.fr p _ nw hp),DUs.dens 40 _ t1 (DUs.mono ((e.to w1).eb.keep w2) l ds),∅,by rw[aI8,hj];rfl,he,λm hm x hx=>?_,q _ _ _ h2 (w1.trans w2) #[rfl,rfl]];rw[aI8]at hx;obtain⟨y,hy,rfl⟩:=Dp.mp hx;exact hno m hm y hy
abbrev W0:Addr->Prop:=λ_=>False
def fzS:Sl->Sl
 |.ow l=> .sh (.ls l)
 |.oo o=> .sh (.op o.fz)
 |s=>s
structure ET(B:Addr->Prop)(Tb:Hp->Prop)(ρ:EV)(σ:St)(H:Hp):Prop where
 eb:EB W0 B H
 len:ρ.length=σ.length
 sh:∀(i:Nat)(u:U),ρ[i]? =some (Sl.sh u)->∃v,σ[i]? =some (some v)/\DU W0 B H u v
 nh:∀(i:Nat)(s:Sl),ρ[i]? =some s->s.hold=none
 tb:Tb H
def Stb(W:Addr->Prop)(Tb:Hp->Prop):Prop:=∀H H',(∀p,W p->Wll H p)->Fw W H H'->Tb H->Tb H'
section
variable {B:Addr->Prop}{Tb:Hp->Prop}{ρ:EV}{σ:St}{H H' H0:Hp}{A:Nat->Addr->Prop}
def aPr{s:Sl}(h:s.hold=none):s.brd=false:=by
 cases s<;>first|rfl|cases h
def ET.ee(e:ET B Tb ρ σ H):EE W0 B H ρ σ:=#[e.eb,e.len,e.sh,λi s o h hs=>by rw[e.nh i s h]at hs;cases hs]
def ET.eo(e:ET B Tb ρ σ H):EO W0 B H (λ_ _=>False) ρ σ H:=
 #[e.eb,e.eb.refl,e.len,λ_ _ z=>z.elim,λ_ _ z=>z.elim,λ_ _ _ z=>z.elim,λi u h=>let⟨v,h1,h2⟩:=e.sh i u h;#[v,h1,DU.mono (λb x n h=>#[λz=>z.elim n λ⟨_,z⟩=>z,h]) _ h2],λi s w h hs=>(by rw[e.nh i s h]at hs;cases hs),λi s h=>aPr (e.nh i s h)]
def ET.to(e:ET B Tb ρ σ H)(k:∀b o,¬B b->H b=some o->H' b=some o)(m:∀p,B p->∃o,H' p=some o/\Mt o)(t:Tb H'):ET B Tb ρ σ H':=
 #[#[m,λ_ z=>z.elim,λ_ z=>z.elim],e.len,λi u h=>let⟨v,h1,h2⟩:=e.sh i u h;#[v,h1,DU.mono (λb x n h=>#[n,k b x n h]) _ h2],e.nh,t]
def ET.fw(e:ET B Tb ρ σ H)(tp:Stb W0 Tb)(f:Fw W0 H H'):ET B Tb ρ σ H':=e.to (λb o _ h=>f.fr b o id h) (λp hp=>let⟨o,h,m⟩:=e.eb.bl p hp;#[o,f.fr p o id h,m]) (tp _ _ (λ_ z=>z.elim) f e.tb)
def ET.setSh(e:ET B Tb ρ σ H)(d:DU W0 B H u v):ET B Tb (ρ.set i (.sh u)) (σ.set i (some v)) H:=
 ⟨e.eb,by rw[Bn,Bn,e.len],λj u' h=>by
  rcases cB h with ⟨rfl,h,hl⟩|⟨ne,h⟩
  ·cases h;exact#[v,by rw[Dd (by rw[<-e.len];exact hl)],d]
  ·obtain⟨v',h1,h2⟩:=e.sh j u' h;exact#[v',by rw[Ei (Cq ne)];exact h1,h2],λj s h=>by
  rcases cB h with ⟨rfl,rfl,hl⟩|⟨ne,h⟩
  ·rfl
  ·exact e.nh j s h,e.tb⟩
def aPl{s:Sl}(h:s.brd=false):(fzS s).hold=none:=by
 cases s<;>first|rfl|cases h
def EO.et(o:EO W0 B H0 A ρ σ H)(hB:∀b,B' b->B b)(tp:Stb W0 Tb)(h:Tb H0):ET B' Tb (ρ.map fzS) σ H:=by
 refine#[#[λp hp=>?_,λ_ z=>z.elim,λ_ z=>z.elim],by rw[Ab,o.len],λi u h=>?_,λi s h=>?_,tp _ _ (λ_ z=>z.elim) o.fw h]
 ·obtain⟨x,h1,h2⟩:=o.eb.bl p (hB p hp);exact#[x,o.fw.fr p x id h1,h2]
 ·rw[Ap]at h;obtain⟨s,hs,e⟩:=Dp.mp h;have less:∀b(x:HO),¬Bx B A b->H b=some x->¬B' b/\H b=some x:=λb x n h=>#[λz=>n (.inl (hB b z)),h];match s,hs,e with
  |.sh u',hs,e=>
   cases e;obtain⟨v,h1,h2⟩:=o.sh i _ hs;exact#[v,h1,DU.mono less _ h2]
  |.ow l,hs,e=>
   cases e;obtain⟨p,h1,h2,xs,h3,h4⟩:=o.hd i _ _ hs rfl;exact#[_,h1,p,xs,rfl,λz=>o.now (o.an i p ((h2 p).mpr rfl)) (hB p z),h3,DUs.mono less l h4]
  |.oo w,hs,e=>
   cases e;obtain⟨p,h1,h2⟩:=o.hd i _ _ hs rfl;exact#[_,h1,p,A i,rfl,λb hb z=>o.now (o.an i b hb) (hB b z),w.mono less (λ_ _=>rfl) h2]
 ·rw[Ap]at h;obtain⟨s',hs,rfl⟩:=Dp.mp h;exact aPl (o.nb i s' hs)
end
def aSw{P:Aj}{w:Bd}{c:Addr}{xs:#v[8]}(z:aC9 c q=.ext (cI P w c xs)):False:=by
 have e:(λh:Heap=>h.CodeRec (.ref c) q)=cI P w c xs:=by injection z
 let o:Obj:={cls:=.type "code",dict:=none,data:=.fields (List.toArray [.none,.str q 0])};let h0:Heap:={objs:=Array.replicate c o};have hg:(h0.push o).get? c=some o:=by
  have:=Ar (h:=h0) (o:=o) rfl
  rwa [show h0.objs.size=c from Array.size_replicate ..]at this
 have r:(h0.push o).CodeRec (.ref c) q:=#[c,o,_,0,rfl,hg,rfl,rfl];rw[show(h0.push o).CodeRec (.ref c) q=cI P w c xs (h0.push o)from congrFun e _]at r;obtain⟨_,o',es,ep,h1,_,h2,_⟩:=r;rw[hg]at h1;cases h1;cases h2
def uV.up{P:Aj}{w:Bd}{H:Hp}{T p:Addr}{L:List Pos}{xs:#v[8]}{o:HO}(t:uV H T L q)(hp:H p=some (.ext (cI P w p xs))):uV (upd H p o) T L q:=by
 obtain⟨ps,e,ok,c⟩:=t;refine#[ps,(aJ (λz:T=p=>by rw[z,hp]at e;cases e)).trans e,ok,λx hx=>?_];rcases c x hx with c|⟨c',e1,e2⟩
 ·exact .inl c
 ·exact .inr #[c',e1,(aJ (λz:c'=p=>by rw[z,hp]at e2;exact aSw (Bj e2).symm)).trans e2]
abbrev Tbs:=List (Addr×List Pos×Str)
structure yI(Ts:Tbs)(B:Addr->Prop)(Tb:Hp->Prop):Prop where
 st:Stb W0 Tb
 b:∀x∈Ts,B x.1
 tb:∀p,B p->∀H,Tb H->∃ps,H p=some (.tbl ps)
 at_:∀x∈Ts,∀H,Tb H->uV H x.1 x.2.1 x.2.2
 kp:∀x∈Ts,∀H H',KpP x.1 H H'->uV H' x.1 x.2.1 x.2.2->Tb H->Tb H'
 up:∀(P:Aj)(w:Bd)(p:Addr)(xs:#v[8])(o:HO)(H0 H:Hp),Tb H0->H0 p=none->¬B p->H p=some (.ext (cI P w p xs))->Tb H->Tb (upd H p o)
def yI.tr{B:Addr->Prop}(h:yI Ts B Tb)(H1:Hp):yI Ts B λH=>Tb H/\Tr B H1 B H:=
 ⟨λH H' w f t=>#[h.st H H' w f t.1,λb o n e=>#[n,f.fr b o id (t.2 b o n e).2]],h.b,λp hp H t=>h.tb p hp H t.1,λx hx H t=>h.at_ x hx H t.1,λx hx H H' k t1 t=>#[h.kp x hx H H' k t1 t.1,λb o n e=>#[n,k b o (λz=>n (by rw[z];exact h.b x hx)) (t.2 b o n e).2]],λP w p xs o H0 H t0 e n hp t=>⟨h.up P w p xs o H0 H t0.1 e n hp t.1,λb o' nb eb=>⟨nb,(aJ (λz:b=p=>by
  have:=(t0.2 b o' nb eb).2;rw[z,e]at this;cases this)).trans (t.2 b o' nb eb).2⟩⟩⟩
structure aKn(B:Addr->Prop)(Tb:Hp->Prop)(E:nJ)(D:Ends):Prop where
 nx:∀{ρ σ H},ET B Tb ρ σ H->E.nx ρ->D.nx σ H
 bk:∀{ρ σ H},ET B Tb ρ σ H->E.bk ρ->D.bk σ H
 ct:∀{ρ σ H},ET B Tb ρ σ H->E.ct ρ->D.ct σ H
 rt:∀{u v H},EB W0 B H->Tb H->DU W0 B H u v->E.rt (.sh u)->D.rt v H
def nJ.fz(E:nJ):nJ:=#[λρ=>E.nx (ρ.map fzS),λs=>s.es λu=>E.rt (.sh u),λρ=>E.bk (ρ.map fzS),λρ=>E.ct (ρ.map fzS),λ_ _=>False]
def VTt(Ts:Tbs)(t:TS)(G:TVS):Prop:=∀{B:Addr->Prop}{Tb:Hp->Prop}{ρ:EV}{σ:St}{H:Hp}{E:nJ}{D:Ends},yI Ts B Tb->ET B Tb ρ σ H->G E ρ->aKn B Tb E D->t D σ H
def VSt(X:Cx)(Ts:Tbs)(st:Stmt)(G:TVS):Prop:=∃t,PS X st t/\VTt Ts t G
def aBw(X:Cx)(Ts:Tbs)(st:List Stmt)(G:TVS):Prop:=∃t,PSs X st t/\VTt Ts t G
def VTq(Ts:Tbs)(t:TS)(G:TVS):Prop:=∀{B B':Addr->Prop}{Tb:Hp->Prop}{H0:Hp}{A:Nat->Addr->Prop}{ρ:EV}{σ:St}{H:Hp}{E:nJ}{D:Ends},yI Ts B' Tb->(∀b,B' b->B b)->Tb H0->EO W0 B H0 A ρ σ H->G E ρ->aKn B' Tb E D->t D σ H
def VSo(X:Cx)(Ts:Tbs)(st:List Stmt)(G:TVS):Prop:=∃t,PSs X st t/\VTq Ts t G
def bBr(G:TVS):TVS:=λE ρ=>G E.fz ρ
def bDt(F G:TVS):TVS:=λE ρ=>F {E.fz with nx:=G E} ρ
def vFz(G:TVS):TVS:=λE ρ=>G E (ρ.map fzS)
variable {Ts:Tbs}
def aFr{B B':Addr->Prop}{H0:Hp}{E:nJ}{D:Ends}(tp:Stb W0 Tb)(hB:∀b,B' b->B b)(eb:EB W0 B H0)(h:Tb H0)(j:aKn B' Tb E D):aZj W0 B H0 E.fz D:=
 ⟨λo h1=>j.nx (o.et hB tp h) h1,λo h1=>j.bk (o.et hB tp h) h1,λo h1=>j.ct (o.et hB tp h) h1,λ{s v H} f r h1=>by
  obtain⟨u,h2,d⟩:=r.du eb h1;refine j.rt #[λp hp=>?_,λ_ z=>z.elim,λ_ z=>z.elim] (tp _ _ (λ_ z=>z.elim) f h) (DU.mono (λb x n h=>#[λz=>n (hB b z),h]) u d) h2;obtain⟨o,h3,m⟩:=eb.bl p (hB p hp);exact#[o,f.fr p o id h3,m],λ_ _ z=>z.elim⟩
def aU4{G:TVS}(h:VSs X l G):aBw X Ts l (bBr G):=let⟨_,p,f⟩:=h;#[_,p,λtp e g j=>f e.eo g (aFr tp.st (λ_ z=>z) e.eb e.tb j)]
def zV{st:Stmt}{G:TVS}(h:VS X st G):VSt X Ts st (bBr G):=let⟨_,p,f⟩:=h;#[_,p,λtp e g j=>f e.eo g (aFr tp.st (λ_ z=>z) e.eb e.tb j)]
def uR{st:Stmt}{G:TVS}(h:VSt X Ts st G):aBw X Ts [st] G:=let⟨_,p,f⟩:=h;#[_,dI p,f]
def kE{st:Stmt}{F G:TVS}(h:VSt X Ts st F)(h':aBw X Ts rest G):aBw X Ts (st::rest) (aYs F G):=
 let⟨_,p,f⟩:=h;let⟨_,p',f'⟩:=h';#[_,bC p p',λtp e g j=>f tp e g #[λe1 g1=>f' tp e1 g1 j,j.bk,j.ct,j.rt]]
def bD2{G:TVS}(h:aBw X Ts l G):VSo X Ts l (vFz G):=let⟨_,p,f⟩:=h;#[_,p,λtp hB h0 o g j=>f tp (o.et hB tp.st h0) g j]
def aWj{G:TVS}(h:VSo X Ts l G):aBw X Ts l G:=let⟨_,p,f⟩:=h;#[_,p,λtp e g j=>f tp (λ_ z=>z) e.tb e.eo g j]
def aGf{st:Stmt}{F G:TVS}(h:VS X st F)(h':VSo X Ts rest G):VSo X Ts (st::rest) (bDt F G):=
 let⟨_,p,f⟩:=h;let⟨_,p',f'⟩:=h';⟨_,bC p p',λtp hB h0 o g j=>
  let i:=aFr tp.st hB o.eb h0 j
  f o g #[λo1 g1=>f' tp hB h0 o1 g1 j,i.bk,i.ct,i.rt,i.mr]⟩
def vI(g:TVg)(b:TVS)(E:nJ):List U->EV->Prop
 | [],ρ=>E.nx ρ
 |u::r,ρ=>g u ρ λρ1=>b {E with nx:=vI g b E r,ct:=vI g b E r,bk:=E.nx} (ρ1.map fzS)
def bBz(G:TVg)(F:TVa)(b:TVS):TVS:=λE ρ=>F ρ λl=>vI G b E l ρ
def ET.less{B:Addr->Prop}{Tb Tb':Hp->Prop}{σ:St}{H:Hp}(e:ET B Tb ρ σ H)(h:Tb' H):ET B Tb' ρ σ H:=#[e.eb,e.len,e.sh,e.nh,h]
def aY8{tg iter:Bu}{F:TVa}{G:TVg}{b:TVS}(hp:Vb #v[a] X.A X.env X.xe)(hc:X.calm=true)(hi:VI X tg iter F)(hg:VG X tg G)(hb:aBw X Ts body b)
  (hs:FS X iter:=by intro _;rfl):VSt X Ts (.For tg iter body [] pos) (bBz G F b):=
 let⟨_,p,f⟩:=hi;let⟨_,p1,f1⟩:=hg;let⟨_,p2,f2⟩:=hb;⟨_,aJ2 hp hc p p1 p2 hs,λ{B Tb ρ0 σ0 H E D} tp e0 h j=>f e0.ee h λl J H1 h1 w wk=>by
  have e1:=e0.fw tp.st w;have tp':=tp.tr H1;refine#[λi m σ H=>m=l.length-i/\i<=l.length/\∃ρ,ET B (λH=>Tb H/\Tr B H1 B H) ρ σ H/\vI G b E (l.drop i) ρ,#[l.length,by simp,Bt _,ρ0,e1.less #[e1.tb,λb o n e=>#[n,e]],h1],?_];rintro i m σ H ⟨rfl,hi,ρ,e2,h2⟩;by_cases hlt:i<l.length
  ·have e:l.drop i=l[i]::l.drop (i+1):=Dv hlt;rw[e]at h2;refine .inr #[wk.go i e2.tb.2 hlt,λσ H=>∃ρ,ET B (λH=>Tb H/\Tr B H1 B H) ρ σ H/\vI G b E (l.drop (i+1)) ρ,λσ' H' h=>#[l.length-(i+1),∅,rfl,hlt,h],λx H' y=>?_];obtain⟨w2,d⟩:=wk.yld i e2.eb e2.tb.2 (Af hlt) y;have e3:=e2.fw tp'.st w2;exact f1 e3.eo (DU.mono (λb x n h=>#[λz=>z.elim n λ⟨_,z⟩=>z,h]) _ d) h2 λA' ρ' σ' o3 h3=>f2 tp' (o3.et (λ_ z=>z) tp'.st e3.tb) h3 #[λe4 h4=>#[_,e4,h4],λe4 h4=>j.nx (e4.less e4.tb.1) h4,λe4 h4=>#[_,e4,h4],λeb t d h4=>j.rt eb t.1 d h4]
  ·have e:i=l.length:=by lia
   subst e;rw[Lh]at h2;exact .inl #[wk.stop e2.tb.2,j.nx (e2.less e2.tb.1) h2]⟩
theorem aEp{g:TVg}(I:List U->EV->Prop)(h0:∀ρ,I [] ρ->E.nx ρ)(hs:∀u l ρ,I (u::l) ρ->(∀ρ',I l ρ'->vI g b E l ρ')->g u ρ λρ1=>b {E with nx:=vI g b E l,ct:=vI g b E l,bk:=E.nx} (ρ1.map fzS)):∀{l ρ},I l ρ->vI g b E l ρ
 | [],ρ,h=>h0 ρ h
 |u::l,ρ,h=>hs u l ρ h λρ' h'=>aEp I h0 hs h'
abbrev TVu:=EV->(U->Prop)->Prop
def bCo(Ts:Tbs)(t:TE)(F:TVu):Prop:=∀{B:Addr->Prop}{Tb:Hp->Prop}{ρ:EV}{σ:St}{H:Hp}{R:U->Prop}{Q:VK},yI Ts B Tb->ET B Tb ρ σ H->F ρ R->(∀u v H',R u->ET B Tb ρ σ H'->Tr B H B H'->DU W0 B H' u v->Q v H')->t σ H Q
def VEt(X:Cx)(Ts:Tbs)(e:Bu)(F:TVu):Prop:=∃t,PE X e t/\bCo Ts t F
inductive aZn(Ts:Tbs)(F:List U->(Sl->Prop)->Prop)(vs:List V)(H:Hp)(Q:VK)(z3_:XK):Prop
 |mk (B:Addr->Prop) (Tb:Hp->Prop) (us:List U) (R:U->Prop) (q0_:yI Ts B Tb) (q1_:EB W0 B H) (q2_:Tb H) (q3_:DUs W0 B H us vs) (q4_:F us (λs=>s.es R)) (q5_:∀u v H',R u->EB W0 B H'->Tb H'->Tr B H B H'->DU W0 B H' u v->Q v H'):aZn Ts F vs H Q z3_
def spT(Ts:Tbs)(F:List U->(Sl->Prop)->Prop):Sp:=λvs H Q z3_=>aZn Ts F vs H Q z3_
def aLl{Ts:Tbs}{H:Hp}(h:spT Ts F vs H Q E):spV F vs H Q E:=by
 obtain⟨B,Tb,us,R,tp,eb,t,d,f,q⟩:=h;refine#[W0,B,us,_,eb,d,f,λs v H' hs w r=>?_];obtain⟨u,hu,du⟩:=r.du eb hs;exact q u v H' hu (eb.to w) (tp.st _ _ (λ_ z=>z.elim) w t) (eb.keep w) du
def yI.sub{Ts Ts':Tbs}{B:Addr->Prop}(h:yI Ts B Tb)(s:∀x∈Ts',x∈Ts):yI Ts' B Tb:=#[h.st,λx hx=>h.b x (s x hx),h.tb,λx hx=>h.at_ x (s x hx),λx hx=>h.kp x (s x hx),h.up]
def VTz(Ts:Tbs)(i:Nat)(c:Addr)(t:TA)(F:EV->(See->List U->Prop)->Prop):Prop:=∀{B:Addr->Prop}{Tb:Hp->Prop}{ρ:EV}{σ:St}{H:Hp}{R:See->List U->Prop}{Q:List V->Hp->Prop},yI Ts B Tb->ET B Tb ρ σ H->F ρ R->(∀z us vs H',R z us->z.cell=c->σ[i]? =some (some (V.ref z.dd))->ET B Tb ρ σ H'->Tr B H B H'->DUs W0 B H' us vs->Q vs H')->t σ H Q
def VAz(X:Cx)(Ts:Tbs)(i:Nat)(c:Addr)(es:List Bu)(F:EV->(See->List U->Prop)->Prop):Prop:=∃t,PA X es t/\VTz Ts i c t F
inductive aN9(P:Aj)(w:Bd)(L:Lm)(i:Nat)(c:Addr)(pm:Value)(ρ:EV)(R:(See->List U->Prop)):Prop
 |mk (ab:_) (q0_:ρ[i]? =some (.sh (.op (pdO P w ab).fz))) (q1_:∀z:See,z.cell=c->z.pm=pm->R z [.op (lamO P w L z ab)]):aN9 P w L i c pm ρ R
def bCi(P:Aj)(w:Bd)(L:Lm)(i:Nat)(c:Addr)(pm:Value):EV->(See->List U->Prop)->Prop:=λρ R=>aN9 P w L i c pm ρ R
def aZc(F:TV)(G:EV->(See->List U->Prop)->Prop):EV->(See->List U->Prop)->Prop:=λρ R=>F ρ λs=>s.es λu=>G ρ λz us=>R z (u::us)
def bCd{e:Bu}{F:TV}(h:VE X e F):VEt X Ts e (λρ R=>F ρ λs=>s.es R):=let⟨_,p,f⟩:=h;⟨_,p,λtp e h q=>f e.ee h λs v H1 h1 w r=>by
 obtain⟨u,hu,d⟩:=r.du e.eb h1;exact q u v H1 hu (e.fw tp.st w) (λb o n h=>#[n,w.fr b o id h]) d⟩
def bD3(g:U->U->(Sl->Prop)->Prop)(F:TVu)(G:TV):TVu:=λρ R=>F ρ λu=>G ρ λs'=>g u s'.rd λs=>s.es R
def aY3{op:Operator}{r:R2}{g:U->U->(Sl->Prop)->Prop}{a b:Bu}{F:TVu}{G:TV}(ho:OpR X (Gw op) r)(o:O2 r g)(ha:VEt X Ts a F)(hb:VE X b G):VEt X Ts (.BinOp a op b pos) (bD3 g F G):=
 let⟨_,p,f⟩:=ha;let⟨_,p',f'⟩:=hb;⟨_,gW ho p p',λtp e h q=>f tp e h λu v H1 h1 e1 tr d=>
  f' e1.ee h1 λs' v' H2 h3 w2 r2=>o (e1.fw tp.st w2).eb (.inl (DU.mono (λb x n h=>#[n,w2.fr b x id h]) _ d)) (r2.db e1.eb) h3 λs'' z H3 h4 w3 r3=>by
   obtain⟨u',hu',d'⟩:=r3.du (e1.fw tp.st w2).eb h4;exact q u' z H3 hu' ((e1.fw tp.st w2).fw tp.st w3) (λb x n h=>let⟨n',h'⟩:=tr b x n h;#[n',w3.fr b x id (w2.fr b x id h')]) d'⟩
def bCh(i:Nat)(F:TVu):TVS:=λE ρ=>F ρ λu=>E.nx (ρ.set i (.sh u))
def aWl(F:TVu):TVS:=λE ρ=>F ρ λu=>E.rt (.sh u)
def aGg{x:Str}{e:Bu}{pos pos':Pos}{F:TVu}(hN:X.N.Nodup)(he:VEt X Ts e F)(hi:X.N[i]? =some x:=by rfl)(hx:Loc X.env.scope x:=by first|exact Dy rfl|exact Ew rfl)(hs:Ed e (some (.Name x pos')) pos.line X.env=pure false:=by rfl)(hf:FL X x:=by trivial):
  VSt X Ts (.Assign [.Name x pos'] e pos) (bCh i F):=
 let⟨_,p,f⟩:=he;#[_,zE hN hi hx p hs hf,λtp e g j=>f tp e g λu v H1 h1 e1 _ d=>j.nx (e1.setSh d) h1]
def aKi{e:Bu}{F:TVu}(he:VEt X Ts e F):VSt X Ts (.Return (some e) pos) (aWl F):=
 let⟨_,p,f⟩:=he;#[_,vW p,λtp e g j=>f tp e g λu v H1 h1 e1 _ d=>j.rt e1.eb e1.tb d h1]
def aR6{c:Addr}{a:Bu}{es:List Bu}{F:TV}{G:EV->(See->List U->Prop)->Prop}(ha:VE X a F)(h:VAz X Ts i c es G)(hs:SE X a es:=by rfl):VAz X Ts i c (a::es) (aZc F G):=
 let⟨_,p,f⟩:=ha;let⟨_,p',f'⟩:=h;⟨_,dW p p' hs,λtp e g q=>f e.ee g λs v H1 h1 w r=>by
  obtain⟨u,hu,d⟩:=r.du e.eb h1;have e1:=e.fw tp.st w;exact f' tp e1 hu λz us vs H2 h2 hz hi e2 tr ds=>q z _ _ H2 h2 hz hi e2 (λb o n h=>tr b o n (w.fr b o id h)) #[v,vs,rfl,DU.mono tr u d,ds]⟩
def aLo{P:Aj}{w:Bd}{c cc Pt:Addr}(hP:X.prog=P)(hw:X.w=w)(hx:(Pt,Lp,lm.q)∈Ts)(hq0:X.env.qual=q0)(hq:q0++"<lambda>"=lm.q)(hpm:(X.mg "__name__").getD .none=pm)(hm:pos∈Lp)(hL:∀p∈Lp,p=pos∨¬(p.line=pos.line/\p.col=pos.col))(hC:Kc X.base cc Pt)(hcode:X.env.code=.ref cc)(hB:aBn X.mg X.base)
  (hcl:Lu lm.scope X.env=pure clos:=by rfl) (hcs:clos=[(lm.y,c)]:=by rfl) (hdef:defaultsOf lm.args X.env=([],[]):=by rfl) (hs:Bz [.Lambda lm.args lm.body lm.scope pos] X.env=(false,eval (.Lambda lm.args lm.body lm.scope pos) X.env)::Bz [] X.env:=by rfl):
  VAz X Ts i c [.Lambda lm.args lm.body lm.scope pos] (bCi P w lm i c pm):=by
 subst hP hw hcs hpm hq0;refine#[_,dW (aT1 hm hL hC hcode hB hdef hcl) iZ hs,λ{B Tb ρ σ H R Q} tp e g q=>?_];obtain⟨ab,hi,g⟩:=g;obtain⟨v,s1,p,S,rfl,nS,sb,xs,y1,y2⟩:=e.sh i _ hi;rw[hq];refine#[tp.at_ _ hx H e.tb,λc' f ctv H' kp tb' hc' hf hn=>?_];have bP:B Pt:=tp.b _ hx;have tbH:=tp.kp _ hx H H' kp tb' e.tb;have kk:∀b o,¬B b->H b=some o->¬B b/\H' b=some o:=λb o n h=>#[n,kp b o (λz=>n (by rw[z];exact bP)) h];have e':=e.to (λb o n h=>(kk b o n h).2) (λp hp=>let⟨ps,h⟩:=tp.tb p hp H' tbH;#[_,h,trivial]) tbH;have np:¬B p:=nS p ((sb p).mpr rfl);refine q #[f,c,p,c',_,ctv] _ _ H' (g _ rfl rfl) rfl s1 e' kk #[_,_,rfl,#[rfl,#[e.eb.nw hn,hf],#[λz=>?_,hc'],xs,kk p _ np y1,y2.mono kk],rfl];obtain⟨ps,h⟩:=tp.tb c' z H' tbH;rw[hc']at h;cases h
structure yH(P:Aj)(w:Bd)(K:Ac)(mg:Str->#v[9])(base:Heap)(k:Nat)(Cs:Addr->Prop)(m:Str)(ps:List Str)(ok:See->Prop)(sp:See->Addr->Sp):Prop where
 ex:∀C,Cs C->Cls K C/\∃f fd,Meth K C m f/\(∀z,ok z->↥k f fd ps (sp z C))/\Binds K fd ps []
variable {k:Nat}{Cs:Addr->Prop}{m:Str}{ps:List Str}{ok ok':See->Prop}{sp:See->Addr->Sp}
def yH.one(D:yH P w K mg base k Cs m ps ok sp){z:See}(hz:ok z):Dis P w K mg base CX0 k Cs m ps (sp z):=
 #[λC hC=>let⟨c,f,fd,h1,h2,h3⟩:=D.ex C hC;#[c,f,fd,h1,h2 z hz,h3]]
def yH.some(D:yH P w K mg base k Cs m ps ok sp)(h:∀z,ok' z->ok z):Dis P w K mg base CX0 k Cs m ps (λC vs H Q E=>∃z,ok' z/\sp z C vs H Q E):=
 #[λC hC=>let⟨c,f,fd,h1,h2,h3⟩:=D.ex C hC;#[c,f,fd,h1,#[λvs H Q E ⟨z,hz,q⟩=>(h2 z (h z hz)).len vs H Q E q,λA outer s H args us vs Q E hr e0 hb hv ⟨z,hz,q⟩=>(h2 z (h z hz)).run A outer s H args us vs Q E hr e0 hb hv q],h3]]
def yH.toT{F:See->Addr->List U->(Sl->Prop)->Prop}(Ts:Tbs)(D:yH P w K mg base k Cs m ps ok λz C=>spV (F z C)):yH P w K mg base k Cs m ps ok λz C=>spT Ts (F z C):=
 #[λC hC=>let⟨c,f,fd,h1,h2,h3⟩:=D.ex C hC;#[c,f,fd,h1,λz hz=>#[λvs H Q E q=>(h2 z hz).len vs H Q E (aLl q),λA outer s H args us vs Q E hr e0 hb hv q=>(h2 z hz).run A outer s H args us vs Q E hr e0 hb hv (aLl q)],h3]]
abbrev aGn(base:Heap)(z:See):Prop:=base.IsCell z.cell (some (.ref z.dd))
def aJw{X:Cx}{k i:Nat}{c:Addr}{y:Str}{Cs:Addr->Prop}{m:Str}{ps:List Str}{sp:V->Addr->Sp}{o e:Bu}{es:List Bu}{ta:TE}{t:TA}{apos pos:Pos}{pl:Sem Bool}(he:PE X o ta)
  (D:∀v base u,(∀b ob,X.base.get? b=some ob->base.get? b=some ob)->RelV v u->base.IsCell c (some u)->Dis X.prog X.w X.K X.mg base CX0 k Cs m ps (sp v)) (hr:cV k X.A) (ha:PA X (e::es) t) (hc:X.env.cells.lookup y=some c) (hi:X.N[i]? =some y) (hy:X.env.scope.names.lookup y=some .cell) (hf:X.fn y=true)
  (hst:SE X e es:=by rfl) (hpl:BT X pos es:=by rfl)
  (ht:eval (.Call (.Attribute o m apos) (e::es) [] pos) X.env=(do
   let ov<-eval o X.env
   Mg apos.atName
   let(f,first)<-holding [ov] (Ls ov m pl)
   Qu pos f first (Im pos (Bz (e::es) X.env)) (Ft pos (Cz [] X.env))):=by rfl):
  PE X (.Call (.Attribute o m apos) (e::es) [] pos) (λσ H Q=>∃v,σ[i]? =some (some v)/\aKb Cs m (sp v) E0 ta t σ H Q):=by
 intro aa s σ H Q I h;obtain⟨v,hs,h⟩:=h;refine Le (pl:=pl) (thn (he aa s σ H _ I h) λu s1 ⟨x,H1,I1,rx,a,C,dx,fs,ex,ea,hC,l,q⟩=>?_) ht;subst ex;obtain rfl:u=Ao a:=rx;obtain⟨u1,r1,c1⟩:=I1.cellB hc hi hy hf hs;obtain⟨cl,f,_,hm,_,_⟩:=(D v _ u1 I1.baseIn r1 c1).ex C hC;refine vR I1 ea cl hm l ?_;refine Jv (first:=[.ref a]) (h₀:=X.base) I.ok.mod.kin hm.kp (thn (ha pos aa s1 σ H1 _ I1 q) λus s2 ⟨vs,H2,I2,r,q2⟩=>#[I2.kIn,?_]) hst hpl;obtain⟨u2,r2,c2⟩:=I2.cellB hc hi hy hf hs;obtain⟨_,f',fd,hm',F,hb⟩:=(D v _ u2 I2.baseIn r2 c2).ex C hC;have ef:f'=f:=by
  have:=hm'.at_.symm.trans hm.at_;cases this;rfl
 subst ef;have r':Vals (.ref a::vs) (.ref a::us):=.cons rfl r;refine Pj (Jt (F.run X.A X.stack s2 H2 #[.ref a::us,[]] (.ref a::us) (.ref a::vs) Q E0 hr I2.env0B (by
  have:=hb s2 (.ref a::us) I2.kIn (by rw[Bi, <-r'.length];exact F.len _ _ _ _ q2);rw[Bi]at this;exact this) r' q2) λr s' hq=>?_)
 cases r with
 |error e=>exact Eg hq
 |ok fl=>
  cases fl with
  |ret u=>exact I2.after hq
  |next=>exact Eg hq
  |brk=>exact Eg hq
  |cont=>exact Eg hq
def aXd(Cs:Addr->Prop)(m:Str)(K:Addr->U->Prop):U->Prop
 |.ob C ns us=>Cs C/\ns.elem m=false/\K C (.ob C ns us)
 |_=>False
def aXd.of{Cs:Addr->Prop}{m:Str}{K:Addr->U->Prop}{ρ:EV}{R:Sl->Prop}:∀{u:U},mOb Cs m (λC us _=>∃u,us=[u]/\K C u) aGa ρ R u->aXd Cs m K u
 |.ob _ _ _,⟨h1,h2,u,e,h⟩=>#[h1,h2,by cases e;exact h]
def vuM(i:Nat)(Cs:Addr->Prop)(m:Str)(F:See->Addr->List U->(Sl->Prop)->Prop)(Fo:TV)(G:EV->(See->List U->Prop)->Prop):TVu:=λρ R=>(∃u,ρ[i]? =some (.sh u))/\Fo ρ λs=>s.es (aXd Cs m λC u=>G ρ λz vs=>F z C (u::vs) λs=>s.es R)
def aIe{X:Cx}{Ts Ts':Tbs}{k i:Nat}{c:Addr}{y:Str}{Cs:Addr->Prop}{m:Str}{ps:List Str}{F:See->Addr->List U->(Sl->Prop)->Prop}{o a:Bu}{es:List Bu}{apos pos:Pos}{pl:Sem Bool}{Fo:TV}{G:EV->(See->List U->Prop)->Prop}(ho:VE X o Fo)
  (D:∀base:Heap,(∀b ob,X.base.get? b=some ob->base.get? b=some ob)->yH X.prog X.w X.K X.mg base k Cs m ps (aGn base) λz C=>spT Ts' (F z C)) (hT:∀x∈Ts',x∈Ts) (hr:cV k X.A) (ha:VAz X Ts i c (a::es) G) (hc:X.env.cells.lookup y=some c) (hi:X.N[i]? =some y) (hy:X.env.scope.names.lookup y=some .cell) (hf:X.fn y=true)
  (hst:SE X a es:=by rfl) (hpl:BT X pos es:=by rfl)
  (ht:eval (.Call (.Attribute o m apos) (a::es) [] pos) X.env=(do
   let ov<-eval o X.env
   Mg apos.atName
   let(f,first)<-holding [ov] (Ls ov m pl)
   Qu pos f first (Im pos (Bz (a::es) X.env)) (Ft pos (Cz [] X.env))):=by rfl):
  VEt X Ts (.Call (.Attribute o m apos) (a::es) [] pos) (vuM i Cs m F Fo G):=by
 obtain⟨_,p,f⟩:=ho;obtain⟨_,p',g⟩:=ha;have DD:∀(v:V)(base:Heap)(u:Value),(∀b ob,X.base.get? b=some ob->base.get? b=some ob)->RelV v u->base.IsCell c (some u)->Dis X.prog X.w X.K X.mg base CX0 k Cs m ps (λC vs H Q E=>∃z:See,(z.cell=c/\V.ref z.dd=v)/\spT Ts' (F z C) vs H Q E):=λv base u hb r cl=>by
  refine(D base hb).some λz hz=>?_;obtain⟨h1,rfl⟩:=hz;obtain rfl:u=Ao z.dd:=r;unfold aGn;rw[h1];exact cl
 refine#[_,aJw (sp:=λv C vs H Q E=>∃z:See,(z.cell=c/\V.ref z.dd=v)/\spT Ts' (F z C) vs H Q E) p DD hr p' hc hi hy hf hst hpl ht,λ{B Tb ρ σ H R Q} tp e h q=>?_];obtain⟨⟨u0,h0⟩,h⟩:=h;obtain⟨v0,s0,_⟩:=e.sh i u0 h0;refine#[v0,s0,f e.ee h λs v1 H1 h1 w1 r1=>?_];obtain⟨u,h1,d⟩:=r1.du e.eb h1;match u,h1,d with
 |.ob C ns us,⟨hC,hm,h1⟩,d=>
  obtain⟨p,dx,xs,rfl,nb,hp,hl,ds⟩:=id d;refine#[p,C,dx,_,rfl,hp,hC,aGh hm,g tp (e.fw tp.st w1) h1 λz us' vs H2 h2 hz hi' e2 tr ds2=>?_];have ev:V.ref z.dd=v0:=by
   rw[s0]at hi';cases hi';rfl
  exact#[z,#[hz,ev],B,Tb,.ob C ns us::us',R,tp.sub hT,e2.eb,e2.tb,#[_,_,rfl,DU.mono tr _ d,ds2],h2,λu v H' hu eb' t' tr' d'=>q u v H' hu (e2.to (λb o n h=>(tr' b o n h).2) (λp hp=>eb'.bl p hp) t') (λb x n h=>let⟨n1,h1⟩:=tr b x n (w1.fr b x id h);tr' b x n1 h1) d']
def aUy{P:Aj}{w:Bd}{K:Ac}{mg:Str->#v[9]}{base:Heap}{Ts:Tbs}{x qual:Str}{st:Stmt}{f cc:Addr}{oc kV doc pm ct:Value}{N ps:List Str}{k:Nat}{G:Ai->TVS}{F:List U->(Sl->Prop)->Prop}
  (lk:K.lookup f=some #[oc,od,.func (Ca x qual (bQ st) (bG st) (aC st) .none kV doc pm an (.ref cc) ct),osl]) (hcd:Fj K (.ref cc) qual=true) (S:aK N ps (aC st))
  (hb:∀(A:Bp)(outer:List Env)(s:Ai)(H:Hp)(E:XK),cV k (A.deeper (Nv qual (aC st) #v[0] f (.ref cc)))->aBw (aFm CX0 P w K mg base N qual (aC st) f (.ref cc) A outer s H E).nox Ts (bG st) (G s))
  (hF:∀us R,F us (λs=>s.es R)->us.length=ps.length/\∀s,G s {nx:=λ_=>R .no,rt:=λs=>s.es R} (us.map .sh++Gs (N.length-us.length) .no)):
  ↥(k+1) f (Ca x qual (bQ st) (bG st) (aC st) .none kV doc pm an (.ref cc) ct) ps (spT Ts F):=by
 refine aPk lk hcd S (λvs H Q E h=>?_) (λA outer s H vs Q E hr h=>?_)
 ·obtain⟨B,Tb,us,R,_,_,_,d,h,_⟩:=h;rw[<-d.length];exact(hF us R h).1
 ·obtain⟨t,p,g⟩:=hb A outer s H E hr;obtain⟨B,Tb,us,R,tp,eb,t0,d,h,q⟩:=h;refine#[t,PSs.nox p,g (tp.tr H) (E:={nx:=λ_=>R .no,rt:=λs=>s.es R}) (ρ:=us.map .sh++Gs (N.length-us.length) .no) #[eb,?_,λi u h=>?_,λi s h=>?_,t0,λb o n h=>#[n,h]] ((hF us R h).2 s) #[λe h=>q U.no _ _ h e.eb e.tb.1 e.tb.2 #[rfl,rfl],λ_ z=>z.elim,λ_ z=>z.elim,λ{u v H'} eb' t' d' h=>q u v H' h eb' t'.1 t'.2 d']]
  ·simp only[start,Ak,Ab,Dz,d.length]
  ·rw[Ej]at h;split at h
   ·rename_i hl;rw[Ab]at hl;rw[Ap,Af hl]at h;cases h;obtain⟨v,h1,h2⟩:=d.get (Af hl);refine#[v,?_,h2];unfold start;rw[Es (by rw[Ab, <-d.length];exact hl),Ap,h1];rfl
   ·rw[Cu]at h;split at h<;>cases h
  ·rw[Ej]at h;split at h
   ·rw[Ap]at h;cases hu:us[i]? <;>rw[hu]at h<;>cases h;rfl
   ·rw[Cu]at h;split at h<;>cases h;rfl
open Classical in
def EO.wl{W B:Addr->Prop}{H0 H:Hp}{A:Nat->Addr->Prop}{σ:St}{a b c:Int}(o:EO W B H0 A ρ σ H)(hi:ρ[i]? =some (.ow [.v (.int a),.v (.int b),.v (.int c)])):
  ∃(q:Addr)(H2:Hp)(A':Nat->Addr->Prop),EO (λp=>W p∨p=q) (λb=>B b∨b=q) H2 A' (ρ.set i (.sh .wl)) σ H/\Fw W H0 H2:=by
 obtain⟨q,xs,h1,h2,h3,h4⟩:=o.ow i _ hi;have ex:xs=[.int a,.int b,.int c]:=DUs.ints (ns:=[a,b,c]) h4;subst ex;have hq:=(h2 q).mpr rfl;have nq:H0 q=none:=o.an i q hq;have nB:¬B q:=o.now nq;have bx:∀b,Bx (λb=>B b∨b=q) (λj q=>j≠i/\A j q) b↔Bx B A b:=λb=>by
  constructor
  ·rintro((h|rfl)|⟨j,h⟩)
   ·exact .inl h
   ·exact .inr #[i,hq]
   ·exact .inr #[j,h.2]
  ·rintro(hb|⟨j,hb⟩)
   ·exact .inl (.inl hb)
   ·by_cases e:j=i
    ·rw[e]at hb;exact .inl (.inr ((h2 b).mp hb))
    ·exact .inr #[j,e,hb]
 have k:∀b x,¬Bx B A b->H b=some x->¬Bx (λb=>B b∨b=q) (λj q=>j≠i/\A j q) b/\H b=some x:=λb x n h=>#[λz=>n ((bx b).mp z),h];have own:∀b,B b->¬ ∃j,j≠i/\A j b:=λb hb ⟨j,_,h⟩=>o.now (o.an j b h) hb;have ownq:¬ ∃j,j≠i/\A j q:=λ⟨j,n,h⟩=>n (o.inj j i q h hq);let H2:Hp:=λb=>if∃j,j≠i/\A j b then none else H b
 have hH2:∀b x,H2 b=some x->H b=some x:=λb x h=>by
  have h:(if∃j,j≠i/\A j b then none else H b)=some x:=h;split at h
  ·cases h
  ·exact h
 have hH:∀b,(¬ ∃j,j≠i/\A j b)->H2 b=H b:=λb n=>Aa0 n;have e0:=o.ee.eb;have Wl:∀p,(W p∨p=q)->Wll H p:=λp hp=>hp.elim (o.fw.wo p) λe=>#[a,b,c,by rw[e];exact h3];have wq:∀p,(W p∨p=q)->¬ ∃j,j≠i/\A j p:=λp hp=>hp.elim (λw=>own p (o.eb.wb p w)) λe=>by rw[e];exact ownq
 have o2:EO (λp=>W p∨p=q) (λb=>B b∨b=q) H2 (λj q=>j≠i/\A j q) (ρ.set i (.sh .wl)) σ H:=by
  refine#[#[λp hp=>?_,λp hp=>hp.elim (λw=> .inl (o.eb.wb p w)) .inr,λp hp=>?_],#[λb x _ h=>hH2 b x h,Wl],by rw[Bn,o.len],λj p h=>Aa1 #[j,h],λj p h=>o.aw j p h.2,λj j' p h h'=>o.inj j j' p h.2 h'.2,λj u h=>?_,λj m w h hm=>?_,λj m h=>?_]
  ·rcases hp with hp|hp
   ·obtain⟨xs,e,m⟩:=e0.bl p (.inl hp);exact#[xs,(hH p (own p hp)).trans e,m]
   ·exact#[.lst _,(hH p (wq p (.inr hp))).trans (by rw[hp];exact h3),trivial]
  ·obtain⟨x,y,z,e⟩:=Wl p hp;exact#[x,y,z,(hH p (wq p hp)).trans e]
  ·rcases cB h with ⟨rfl,e,hl⟩|⟨ne,h⟩
   ·cases e;exact#[_,h1,q,rfl,.inr rfl]
   ·obtain⟨v',g1,g2⟩:=o.sh j u h;exact#[v',g1,DU.wm (λ_=> .inl) u (DU.mono k u g2)]
  ·rcases cB h with ⟨rfl,rfl,hl⟩|⟨ne,h⟩
   ·cases hm
   ·obtain⟨p,g1,g3⟩:=o.hd j m w h hm;exact#[p,g1,w.at_ (w.wm (λ_=> .inl) (w.mono k (λ_ _=>rfl) g3)) (aJq ne)]
  ·rcases cB h with ⟨rfl,rfl,hl⟩|⟨ne,h⟩
   ·rfl
   ·exact o.nb j m h
 have keep:∀b x,H0 b=some x->H b=some x->H2 b=some x:=λb x h0 h=>(hH b λ⟨j,_,e⟩=>by rw[o.an j b e]at h0;cases h0).trans h;exact#[q,H2,_,o2,λb x w h0=>keep b x h0 (o.fw.fr b x w h0),λp hp=>o2.eb.wo p (.inl hp)]
def Wi(u:U):Prop:=∀{W W' B:Addr->Prop}{H:Hp}{v:V},DU W B H u v->DU W' B H u v
def Wi.nw(h:Nw u):Wi u:=λd=>DU.nw u h d
def wis{l:List U}(h:∀u∈l,Wi u){W W' B:Addr->Prop}{H:Hp}:∀{xs:List V},DUs W B H l xs->DUs W' B H l xs:=by
 induction l with
 |nil=>exactλh=>h
 |cons u l ih=>exactλ⟨x,r,e,d,t⟩=>#[x,r,e,h u Ag d,ih (λu hu=>h u (Ah _ hu)) t]
def Sub(ρ' ρ:EV):Prop:=ρ'.length=ρ.length/\∀(i:Nat)(s:Sl),ρ'[i]? =some s->s=.no∨∃u,s=.sh u/\ρ[i]? =some (.sh u)/\Wi u
def Sub.nil:Sub [] []:=#[rfl,λi s h=>by simp at h]
def Sub.no{s:Sl}(h:Sub ρ' ρ):Sub (.no::ρ') (s::ρ):=⟨Aa9 (·+1) h.1,λi s' e=>by
 cases i with
 |zero=>cases e;exact .inl rfl
 |succ i=>exact h.2 i s' e⟩
def Sub.sh(wi:Wi u)(h:Sub ρ' ρ):Sub (.sh u::ρ') (.sh u::ρ):=⟨Aa9 (·+1) h.1,λi s' e=>by
 cases i with
 |zero=>cases e;exact .inr #[u,rfl,rfl,wi]
 |succ i=>exact h.2 i s' e⟩
def VTw(Ts:Tbs)(t:TS)(G:TVS):Prop:=∀{W B B':Addr->Prop}{Tb:Hp->Prop}{H0:Hp}{A:Nat->Addr->Prop}{ρ:EV}{σ:St}{H:Hp}{E:nJ}{D:Ends},yI Ts B' Tb->(∀W,Stb W Tb)->(∀b,B' b->B b)->(∀b,B' b->¬W b)->Tb H0->EO W B H0 A ρ σ H->G E ρ->aKn B' Tb E D->t D σ H
def VSw(X:Cx)(Ts:Tbs)(st:List Stmt)(G:TVS):Prop:=∃t,PSs X st t/\VTw Ts t G
def bB9(F G:TVS):TVS:=λE ρ=>F {nx:=G E,rt:=λ_=>False} ρ
def bDz(i:Nat)(G:TVS):TVS:=λE ρ=>(∃a b c:Int,ρ[i]? =some (.ow [.v (.int a),.v (.int b),.v (.int c)]))/\G E (ρ.set i (.sh .wl))
def bCb(G:TVS):TVS:=λE ρ=>∃ρ',Sub ρ' (ρ.map fzS)/\G E ρ'
def kI{st:Stmt}{F G:TVS}(h:VS X st F)(h':VSw X Ts rest G):VSw X Ts (st::rest) (bB9 F G):=
 let⟨_,p,f⟩:=h;let⟨_,p',f'⟩:=h';#[_,bC p p',λtp sw hB hW h0 o g j=>f o g #[λo1 g1=>f' tp sw hB hW h0 o1 g1 j,λ_ z=>z.elim,λ_ z=>z.elim,λ_ _ z=>z.elim,λ_ _ z=>z.elim]]
def aU6{G:TVS}(i:Nat)(h:VSw X Ts l G):VSw X Ts l (bDz i G):=let⟨_,p,f⟩:=h;⟨_,p,λ{W B B' Tb H0 A ρ σ H E D} tp sw hB hW h0 o g j=>by
 obtain⟨⟨a,b,c,hi⟩,g⟩:=g;obtain⟨q,H2,A',o2,w2⟩:=o.wl hi;have t2:=sw W H0 H2 o.eb.wo w2 h0;refine f tp sw (λb hb=> .inl (hB b hb)) (λb hb z=>z.elim (hW b hb) λz=>?_) t2 o2 g j;obtain⟨ps,e⟩:=tp.tb b hb H2 t2;obtain⟨_,_,_,e'⟩:=o2.eb.wo b (.inr z);rw[e]at e';cases e'⟩
def bD4{G:TVS}(h:aBw X Ts l G):VSw X Ts l (bCb G):=let⟨_,p,f⟩:=h;⟨_,p,λ{W B B' Tb H0 A ρ σ H E D} tp sw hB hW h0 o g j=>by
 obtain⟨ρ',⟨sl,ss⟩,g⟩:=g;have tH:=sw W H0 H o.eb.wo o.fw h0;refine f tp #[#[λp hp=>let⟨ps,h⟩:=tp.tb p hp H tH;#[_,h,trivial],λ_ z=>z.elim,λ_ z=>z.elim],by rw[sl,Ab,o.len],λi u h=>?_,λi s h=>?_,tH] g j
 ·rcases ss i _ h with z|⟨u',e,h,wi⟩
  ·cases z
  ·cases e;rw[Ap]at h;obtain⟨s,hs,e⟩:=Dp.mp h;have less:∀b(x:HO),¬Bx B A b->H b=some x->¬B' b/\H b=some x:=λb x n h=>#[λz=>n (.inl (hB b z)),h];match s,hs,e with
   |.sh u',hs,e=>
    cases e;obtain⟨v,h1,h2⟩:=o.sh i _ hs;exact#[v,h1,wi (DU.mono less _ h2)]
   |.ow l,hs,e=>
    cases e;obtain⟨p,h1,h2,xs,h3,h4⟩:=o.hd i _ _ hs rfl;exact#[_,h1,wi (W:=W) (show DU W B' H (.ls l) (.ref p)from#[p,xs,rfl,λz=>o.now (o.an i p ((h2 p).mpr rfl)) (hB p z),h3,DUs.mono less l h4])]
   |.oo w,hs,e=>
    cases e;obtain⟨p,h1,h2⟩:=o.hd i _ _ hs rfl;exact#[_,h1,wi (W:=W) (show DU W B' H (.op w.fz) (.ref p)from#[p,A i,rfl,λb hb z=>o.now (o.an i b hb) (hB b z),w.mono less (λ_ _=>rfl) h2])]
 ·rcases ss i s h with rfl|⟨u,rfl,_⟩<;>rfl⟩
def uV.mono{H H':Hp}{P:Addr}{L:List Pos}(k:∀b o,H b=some o->(∀xs,o≠.lst xs)->(b=P∨∀ps,o≠.tbl ps)->H' b=some o)(t:uV H P L q):uV H' P L q:=by
 obtain⟨ps,e,ok,c⟩:=t;refine#[ps,k _ _ e (by intro _ z;cases z) (.inl rfl),ok,λp hp=>?_];rcases c p hp with c|⟨c',e1,e2⟩
 ·exact .inl c
 ·exact .inr #[c',e1,k _ _ e2 (by intro _ z;cases z) (.inr (by intro _ z;cases z))]
def Tb2(P1 P2:Addr)(La Lb:List Pos)(q1 q2:Str)(H:Hp):Prop:=uV H P1 La q1/\uV H P2 Lb q2
def aRz(W:Addr->Prop):Stb W (Tb2 P1 P2 La Lb q1 q2):=λH H' wl f t=>by
 have k:∀b o,H b=some o->(∀xs,o≠.lst xs)->H' b=some o:=λb o e n=>f.fr b o (λw=>by
  obtain⟨x,y,z,e'⟩:=wl b w;rw[e]at e';exact n _ (Bj e')) e
 exact#[t.1.mono λb o e n _=>k b o e n,t.2.mono λb o e n _=>k b o e n]
def aYi(ne:P1≠P2):yI [(P1,La,q1),(P2,Lb,q2)] (λb=>b=P1∨b=P2) (Tb2 P1 P2 La Lb q1 q2):=by
 have two:∀{p:Addr×List Pos×Str->Prop},p (P1,La,q1)->p (P2,Lb,q2)->∀x∈[(P1,La,q1),(P2,Lb,q2)],p x:=λh1 h2 x hx=>by
  rcases Ax.mp hx with rfl|hx
  ·exact h1
  ·rw[Bf.mp hx];exact h2
 refine#[aRz W0,two (.inl rfl) (.inr rfl),λp hp H t=>hp.elim (λe=>?_) λe=>?_,two (λH t=>t.1) λH t=>t.2,two (λH H' k t1 t=>#[t1,t.2.mono λb o e _ h=>k b o (λz=>?_) e]) λH H' k t1 t=>#[t.1.mono λb o e _ h=>k b o (λz=>?_) e,t1],λP w p xs o H0 H _ _ _ hp t=>#[t.1.up hp,t.2.up hp]]
 ·obtain⟨ps,h,_⟩:=t.1;exact#[ps,by rw[e];exact h]
 ·obtain⟨ps,h,_⟩:=t.2;exact#[ps,by rw[e];exact h]
 ·rcases h with h|h
  ·exact ne (z.symm.trans h)
  ·obtain⟨ps,e',_⟩:=t.1;have z:b=P1:=z;rw[z,e']at e;exact h ps (Bj e).symm
 ·rcases h with h|h
  ·exact ne (h.symm.trans z)
  ·obtain⟨ps,e',_⟩:=t.2;have z:b=P2:=z;rw[z,e']at e;exact h ps (Bj e).symm
def aNi(P1 P2:Addr)(F:List U->Prop):Sp:=λvs H Q _=>H P1=some (.tbl (List.toArray []))/\H P2=some (.tbl (List.toArray []))/\(∃us,DUs W0 (λb=>b=P1∨b=P2) H us vs/\F us)/\∀H',Q (.bl true) H'
def bD1{P:Aj}{w:Bd}{K:Ac}{mg:Str->#v[9]}{base:Heap}{x qual:Str}{st:Stmt}{f cc:Addr}{oc kV doc pm ct:Value}{N ps:List Str}{k:Nat}{G:Ai->TVS}{F:List U->Prop}(ne:P1≠P2)
  (lk:K.lookup f=some #[oc,od,.func (Ca x qual (bQ st) (bG st) (aC st) .none kV doc pm an (.ref cc) ct),osl]) (hcd:Fj K (.ref cc) qual=true) (S:aK N ps (aC st))
  (hb:∀(A:Bp)(outer:List Env)(s:Ai)(H:Hp)(E:XK),cV k (A.deeper (Nv qual (aC st) #v[0] f (.ref cc)))->VSw (aFm CX0 P w K mg base N qual (aC st) f (.ref cc) A outer s H E).nox [(P1,La,q1),(P2,Lb,q2)] (bG st) (G s))
  (hF:∀us,F us->us.length=ps.length/\∀s,G s {nx:=λ_=>False,rt:=λs=>s=.sh (.b true)} (us.map .sh++Gs (N.length-us.length) .no)):
  ↥(k+1) f (Ca x qual (bQ st) (bG st) (aC st) .none kV doc pm an (.ref cc) ct) ps (aNi P1 P2 F):=by
 refine aPk lk hcd S (λvs H Q E h=>?_) (λA outer s H vs Q E hr h=>?_)
 ·obtain⟨_,_,⟨us,d,h⟩,_⟩:=h;rw[<-d.length];exact(hF us h).1
 ·obtain⟨t,p,g⟩:=hb A outer s H E hr;obtain⟨h1,h2,⟨us,d,h⟩,q⟩:=h;have tb:Tb2 P1 P2 La Lb q1 q2 H:=#[#[(List.toArray []),h1,Er,λ_ _=> .inl rfl],#[(List.toArray []),h2,Er,λ_ _=> .inl rfl]];have eb:EB W0 (λb=>b=P1∨b=P2) H:=#[λp hp=>hp.elim (λe=>#[.tbl (List.toArray []),e▸h1,trivial]) λe=>#[.tbl (List.toArray []),e▸h2,trivial],λ_ z=>z.elim,λ_ z=>z.elim];have e:ET (λb=>b=P1∨b=P2) (Tb2 P1 P2 La Lb q1 q2) (us.map .sh++Gs (N.length-us.length) .no) (start N vs) H:=by
   refine#[eb,?_,λi u h=>?_,λi s h=>?_,tb]
   ·simp only[start,Ak,Ab,Dz,d.length]
   ·rw[Ej]at h;split at h
    ·rename_i hl;rw[Ab]at hl;rw[Ap,Af hl]at h;cases h;obtain⟨v,h1,h2⟩:=d.get (Af hl);refine#[v,?_,h2];unfold start;rw[Es (by rw[Ab, <-d.length];exact hl),Ap,h1];rfl
    ·rw[Cu]at h;split at h<;>cases h
   ·rw[Ej]at h;split at h
    ·rw[Ap]at h;cases hu:us[i]? <;>rw[hu]at h<;>cases h;rfl
    ·rw[Cu]at h;split at h<;>cases h;rfl
  refine#[t,PSs.nox p,g (aYi ne) aRz (λ_ z=>z) (λ_ _ z=>z) tb e.eo ((hF us h).2 s) #[λ_ z=>z.elim,λ_ z=>z.elim,λ_ z=>z.elim,λ{u v H'} _ _ d' h=>?_]];cases h;obtain⟨rfl,_⟩:=d';exact q H'
def aCh(P:Aj)(w:Bd)(F:TVu)(a:U)(nx:List (Tke×U)->Prop):List U->List (Tke×U)->Prop
 | [],ab=>nx ab
 |u::r,ab=>F [.sh a,.sh (.op (pdO P w ab).fz),.sh u] λv=>∃(k:Tke)(n:Int),u=tkU k/\v=.n n/\ab.length<10000/\aCh P w F a nx r (aHr ab k (.n n))
theorem aEo{P:Aj}{w:Bd}{a:U}(I:List U->List (Tke×U)->Prop)(h0:∀ab,I [] ab->nx ab)(hs:∀u r ab,I (u::r) ab->(∀kvs',I r kvs'->aCh P w F a nx r kvs')->aCh P w F a nx (u::r) ab):∀{l ab},I l ab->aCh P w F a nx l ab
 | [],ab,h=>h0 ab h
 |u::r,ab,h=>hs u r ab h λkvs' h'=>aEo I h0 hs h'
section
variable {W W' B B':Addr->Prop}{H H':Hp}{ls:List (List U)}{qs:List Addr}
end
def DUs.setN{W B:Addr->Prop}{H:Hp}(d:DU W B H u v):∀{l:List U}{xs:List V}(n:Nat),DUs W B H l xs->DUs W B H (l.set n u) (xs.set n v)
 | [],_,_,h=>by rw[show _=[]from h];exact rfl
 |_::_,_,0,⟨x,r,e,_,t⟩=>by rw[e];exact#[v,r,rfl,d,t]
 |_::_,_,n+1,⟨x,r,e,h,t⟩=>by rw[e];exact#[x,_,rfl,h,DUs.setN d n t]
def Fzb:HO->Prop
 |.dK _=>True
 |.ext _=>True
 |_=>False
section
variable {X:Cx}{aa:#v[4]}{σ:St}{H:Hp}{s:Ai}{d:Addr}{u:HO}{o:Obj}
def Inv.freezeU(fu:Fzb u)(I:#v[3])(e:H d=some u)(ho:s.heap.get? d=some o):Inv X aa σ (upd H d (.frz o u)) s:=by
 have ne:∀{b:Addr}{u':HO},H b=some u'->¬Fzb u'->b≠d:=λq n z=>n (by rw[z,e]at q;cases q;exact fu);have st:∀{b:Addr}{x:HO},bL X.prog X.w H s.heap b x->bL X.prog X.w (upd H d (.frz o u)) s.heap b x:=λh=>h.stay (λ_ _ _ z=>z) (λc z=>by rw[aJ (ne z λz=>z)];exact z) λc xs z=>by rw[aJ (ne z λz=>z)];exact z
 refine I.un (h':=s.heap) (t':=s.toks) #[λb u q _ _ _=>q,λb u q _ _ _=>#[u.slots,q],λb u q n _=>?_,λb u q _=>#[u,q],λb xs q=>?_,λb u v q=>?_,λb ps q=>#[(List.toArray []),?_]] λb u q=>?_
 ·rw[aJ (λz=>by rw[z,e]at n;cases n)];exact n
 ·rw[aJ (ne q λz=>z)];exact q
 ·rw[aJ (ne q λz=>z)];exact q
 ·rw[aJ (ne q λz=>z),q];simp
 ·by_cases hb:b=d
  ·subst hb;rw[aL]at q;cases q;exact#[ho,st (I.hok b _ e)]
  ·rw[aJ hb]at q;exact st (I.hok b u q)
end
def Itw(d:Addr)(o:Obj)(u:HO)(vs:List V):It:=#[λi H=>H d=some (.frz o u)/\i<vs.length,λi H x H'=>H'=H/\vs[i]? =some x,λi H=>H d=some (.frz o u)/\i=vs.length]
section
variable {W W' B B':Addr->Prop}{H H':Hp}
mutual
theorem DU.ttF(k:∀b xs,H b=some (.tup xs)->H' b=some (.tup xs))(e:EB W' B' H'):∀(u:U){v:V},u.tt->DU W B H u v->DU W' B' H' u v
 |.v _,_,_,h=>h
 |.tp l,_,t,⟨p,xs,e1,_,hp,ds⟩=>⟨p,xs,e1,λz=>by
  obtain⟨o,h,m⟩:=e.bl p z;rw[k p xs hp]at h;cases h;exact m,k p xs hp,DUs.ttF k e l t ds⟩
theorem DUs.ttF(k:∀b xs,H b=some (.tup xs)->H' b=some (.tup xs))(e:EB W' B' H'):∀(l:List U){xs:List V},U.tts l->DUs W B H l xs->DUs W' B' H' l xs
 | [],_,_,h=>h
 |u::l,_,⟨t,t'⟩,⟨x,r,e1,h,h'⟩=>#[x,r,e1,DU.ttF k e u t h,DUs.ttF k e l t' h']
end
end
inductive aN8(t:TS)(D:Ends)(σ:St)(H:Hp):Prop
 |mk (d u:_) (q0_:Fzb u) (q1_:H d=some u) (q2_:∀ob,t D σ (upd H d (.frz ob u))):aN8 t D σ H
def bBh(t:TS):TS:=λD σ H=>aN8 t D σ H
def aW0{X:Cx}{aa:#v[4]}{σ:St}{H:Hp}{s:Ai}(I:#v[3])(fu:Fzb u)(e0:H d=some u):∃ob,s.heap.get? d=some ob:=by
 have:=I.hok d u e0;cases u<;>first|exact fu.elim|skip
 ·obtain⟨_,_,_,_,o,_,_,g,_⟩:=(show bL X.prog X.w H s.heap d (.dK _)from this);exact#[o,g]
 ·exact this.2.1
def aUb{X:Cx}{t:TS}(h:PSs X l t):PSs X l (bBh t):=by
 intro aa s σ H D I #[d,u,fu,e0,q];obtain⟨ob,ho⟩:=aW0 I fu e0;exact h aa s σ _ D (I.freezeU fu e0 ho) (q ob)
def pnO(P:Aj)(w:Bd)(ab:List (Tke×U)):Opq:=⟨λW B H v=>∃p ob xs,v=.ref p/\¬B p/\H p=some (.frz ob (.ext (cI P w p xs)))/\PdR W B H ab xs,
 λk ⟨p,ob,xs,e,n,h,r⟩=>#[p,ob,xs,e,(k _ _ n h).1,(k _ _ n h).2,r.mono k],λk ⟨p,ob,xs,e,n,h,r⟩=>#[p,ob,xs,e,n,h,r.wm k]⟩
def bBy(P:Aj)(w:Bd)(Fi:TVa)(F:TVu)(G:TVS):TVS:=λE ρ=>∃a s,ρ=[.sh a,.oo (pdO P w []),s]/\Fi ρ λl=>aCh P w F a (λab=>G E [.sh a,.sh (.op (pnO P w ab)),.no]) l []
def aUz{x y:Str}{iter rhs:Bu}{Fi:TVa}{F:TVu}{G:TVS}{k:Nat}{pos p1 p2 p3 p4 p5:Pos}(hP:X.prog=P)(hw:X.w=w)(hp:Vb #v[a] X.A X.env X.xe)(hc:X.calm=true)(hr:cV k X.A)(hN:X.N.Nodup)(hi:VI X (.Name x p1) iter Fi)(he:VEt X Ts rhs F)(hrest:aBw X Ts rest G)
  (hx:X.N[2]? =some x:=by rfl) (hy:X.N[1]? =some y:=by rfl) (lx:Loc X.env.scope x:=by first|exact Dy rfl|exact Ew rfl) (fx:FL X x:=by trivial)
  (vx:Vis X.env.scope x:=by trivial) (vy:Vis X.env.scope y:=by trivial)
  (hd:ND x:=by decide) (hcd:NC x:=by decide) (hd2:ND y:=by decide) (hcd2:NC y:=by decide)
  (hs:Ed rhs (some (.Subscript (.Name y p2) (.Name x p3) p4)) p5.line X.env=pure false:=by rfl) (hf:FS X iter:=by intro _;rfl):
  VSo X Ts (.For (.Name x p1) iter [.Assign [.Subscript (.Name y p2) (.Name x p3) p4] rhs p5] [] pos::rest) (bBy P w Fi F G):=by
 subst hP hw;obtain⟨_,p,f⟩:=hi;obtain⟨_,q,g⟩:=he;obtain⟨_,r,gr⟩:=hrest;refine#[_,bC (aJ2 hp hc p (bU hN hx lx fx) (dI (aV8 (by have:=hr.un;lia) (fZ hy vy hd2 hcd2) (fZ hx vx hd hcd) q hs)) hf) (aUb r),λ{B B' Tb H0 A ρ σ H E D} tp hB t0 o h j=>?_];obtain⟨a,s,rfl,h⟩:=h;refine f o.ee h λl J H1 h1 w1 wk=>?_;have o1:=o.to w1;have t1:Tb H1:=tp.st _ _ (λ_ z=>z.elim) o1.fw t0;have ee:=o1.ee;have sub:∀b,B' b->Bx B A b:=λb z=> .inl (hB b z);obtain⟨p0,g1,pd0⟩:=o1.hd 1 _ _ rfl rfl;have bp:Bx B A p0:=.inr #[1,(pd0.1 p0).mpr rfl];have nbp:¬B' p0:=λz=>o1.now (o1.an 1 p0 ((pd0.1 p0).mpr rfl)) (hB _ z);obtain⟨av,g0,da⟩:=o1.sh 0 _ rfl;have sl:σ.length=3:=o1.len.symm;generalize hBx:Bx B A=Bb at*;have pd1:(pdO X.prog X.w []).φ W0 Bb (·=p0) H1 p0:=Own.at_ _ pd0 λb=>(pd0.1 b).symm;have eb1:EB W0 Bb H1:=ee.eb;have less:∀{H:Hp} b(o:HO),¬Bb b->H b=some o->¬B' b/\H b=some o:=λb _ n h=>#[λz=>n (sub b z),h];have mk:∀{σ:St}{H:Hp}{ab:List (Tke×U)}{s:Sl},s.hold=none->σ.length=3->σ[0]? =some (some av)->σ[1]? =some (some (.ref p0))->(∀u,s=.sh u->∃v,σ[2]? =some (some v)/\DU W0 B' H u v)->EB W0 Bb H->Tb H->DU W0 Bb H a av->(pdO X.prog X.w ab).φ W0 Bb (·=p0) H p0->ET B' Tb [.sh a,.sh (.op (pdO X.prog X.w ab).fz),s] σ H:=λ{σ H ab s} hs l3 z0 z1 z2 eb t d pd=>by
  refine#[#[λb hb=>eb.bl b (sub b hb),λ_ z=>z.elim,λ_ z=>z.elim],l3.symm,λi u hu=>?_,λi s' hs'=>?_,t]
  ·match i,hu with
   |0,hu=>cases hu;exact#[_,z0,DU.mono less _ d]
   |1,hu=>
    cases hu;exact#[_,z1,p0,(·=p0),rfl,λb hb=>by rw[hb];exact nbp,Own.mono _ less (λ_ _=>rfl) pd]
   |2,hu=>exact z2 u (Bj hu)
  ·match i,hs' with
   |0,hs'=>cases hs';rfl
   |1,hs'=>cases hs';rfl
   |2,hs'=>cases hs';exact hs
 refine#[λi m σ H=>m=l.length-i/\i<=l.length/\∃ab,σ.length=3/\σ[0]? =some (some av)/\σ[1]? =some (some (.ref p0))/\EB W0 Bb H/\Tb H/\Tr Bb H1 Bb H/\DU W0 Bb H a av/\(pdO X.prog X.w ab).φ W0 Bb (·=p0) H p0/\aCh X.prog X.w F a (λab=>G E [.sh a,.sh (.op (pnO X.prog X.w ab)),.no]) (l.drop i) ab,#[l.length,by simp,Bt _,[],sl,g0,g1,eb1,t1,λb o n e=>#[n,e],da,pd1,h1],?_];rintro i m σ H ⟨rfl,hi,ab,l3,z0,z1,eb,t,tr,d,pd,lw⟩;by_cases hlt:i<l.length
 ·have e:l.drop i=l[i]::l.drop (i+1):=Dv hlt;rw[e]at lw;refine .inr #[wk.go i tr hlt,λσ H=>∃ab,σ.length=3/\σ[0]? =some (some av)/\σ[1]? =some (some (.ref p0))/\EB W0 Bb H/\Tb H/\Tr Bb H1 Bb H/\DU W0 Bb H a av/\(pdO X.prog X.w ab).φ W0 Bb (·=p0) H p0/\aCh X.prog X.w F a (λab=>G E [.sh a,.sh (.op (pnO X.prog X.w ab)),.no]) (l.drop (i+1)) ab,λσ' H' h=>#[l.length-(i+1),∅,rfl,hlt,h],λv H2 yl=>?_];obtain⟨w2,du⟩:=wk.yld i eb tr (Af hlt) yl;have k2:=eb.keep w2;have eb2:=eb.to w2;have t2:Tb H2:=tp.st _ _ (λ_ z=>z.elim) w2 t;have d2:=DU.mono k2 _ d;have pd2:(pdO X.prog X.w ab).φ W0 Bb (·=p0) H2 p0:=Own.to _ eb w2 (λ_ _ z=>z) pd;have l3':(σ.set 2 (some v)).length=3:=by rw[Bn,l3]
  have y0:(σ.set 2 (some v))[0]? =some (some av):=by rw[Ei ⋯];exact z0
  have y1:(σ.set 2 (some v))[1]? =some (some (.ref p0)):=by rw[Ei ⋯];exact z1
  have y2:(σ.set 2 (some v))[2]? =some (some v):=Dd ∅;refine g tp (mk (s:=.sh l[i]) rfl l3' y0 y1 (λu e=>by cases e;exact#[v,y2,DU.mono less _ du]) eb2 t2 d2 pd2) lw λun z H3 hz e3 tr3 dz=>?_;obtain⟨k0,n,ek,rfl,kl,lw⟩:=hz;have kk:∀b(o:HO),¬Bb b->H2 b=some o->¬Bb b/\H3 b=some o:=λb o n h=>#[n,(tr3 b o (λz=>n (sub b z)) h).2];obtain⟨_,xs,g5,g6⟩:=id pd2;have g5':=(tr3 _ _ nbp g5).2;have g6':=g6.mono kk;have du3:=DU.mono kk _ du;rw[ek]at du3;obtain⟨b,rfl,kb⟩:=aCx du3;refine#[.ref p0,y1,.ref b,y2,?_];refine#[p0,b,xs,k0,rfl,rfl,g5',λx hx=>aF9 (g6'.keys.2 x hx),kb,by rw[g6'.len];exact Hx kl ⋯,λrz rv=>?_];have k4:∀c(o:HO),¬Bb c->H3 c=some o->¬Bb c/\upd H3 p0 (.ext (cI X.prog X.w p0 (Iw xs k0 b rz))) c=some o:=λc o n h=>#[n,(aJ (λz:c=p0=>n (by rw[z];exact bp))).trans h];have g7:=(g6'.put du3 rv (u:=.n n) #[dz.1,rfl]).mono k4;have nb3:∀b,Bb b->∃x,H3 b=some x/\Mt x:=λb hb=>by
   by_cases hb':B' b
   ·exact e3.eb.bl b hb'
   ·obtain⟨x,h,m⟩:=eb2.bl b hb;exact#[x,(tr3 b x hb' h).2,m]
  refine#[_,l3',y0,y1,#[λc hb=>?_,λ_ z=>z.elim,λ_ z=>z.elim],tp.up X.prog X.w p0 xs _ H0 H3 t0 (o1.an 1 p0 ((pd0.1 p0).mpr rfl)) nbp g5' e3.tb,λc o nb h=>?_,DU.mono k4 _ (DU.mono kk _ d2),#[λ_=>Lj,_,aL,g7],lw]
  ·by_cases e:c=p0
   ·rw[e];exact#[_,aL,trivial]
   ·obtain⟨x,h,m⟩:=nb3 c hb;exact#[x,(aJ e).trans h,m]
  ·exact k4 c o nb (kk c o nb (k2 c o nb (tr c o nb h).2).2).2
 ·have e:i=l.length:=by lia
  subst e;rw[Lh]at lw;obtain⟨_,xs,g5,g6⟩:=id pd;refine .inl #[wk.stop tr,p0,.ext (cI X.prog X.w p0 xs),trivial,g5,λob=>?_];have k5:∀c(o:HO),¬Bb c->H c=some o->¬B' c/\upd H p0 (.frz ob (.ext (cI X.prog X.w p0 xs))) c=some o:=λc o n h=>#[λz=>n (sub c z),(aJ (λz:c=p0=>n (by rw[z];exact bp))).trans h];refine gr tp (show ET B' Tb [.sh a,.sh (.op (pnO X.prog X.w ab)),.no] σ _ from#[#[λb hb=>?_,λ_ z=>z.elim,λ_ z=>z.elim],l3.symm,λi u hu=>?_,λi s' hs'=>?_,tp.up X.prog X.w p0 xs _ H0 H t0 (o1.an 1 p0 ((pd0.1 p0).mpr rfl)) nbp g5 t]) lw j
  ·obtain⟨x,h,m⟩:=eb.bl b (sub b hb);exact#[x,(aJ (λz:b=p0=>nbp (by rw[<-z];exact hb))).trans h,m]
  ·match i,hu with
   |0,hu=>cases hu;exact#[_,z0,DU.mono k5 _ d]
   |1,hu=>
    cases hu;exact#[_,z1,p0,ob,xs,rfl,nbp,aL,g6.mono k5]
   |2,hu=>cases hu
  ·match i,hs' with
   |0,hs'=>cases hs';rfl
   |1,hs'=>cases hs';rfl
   |2,hs'=>cases hs';rfl
section
variable {X:Cx}{o i:Bu}{pos:Pos}{td ty:TE}
def aQ8{P:Aj}{w:Bd}{H:Hp}{xs:#v[8]}(ok:HOk P w H h)(e:H a=some (.frz ob (.ext (cI P w a xs)))):cI P w a xs h:=((show bL P w H h a (.frz ob (.ext (cI P w a xs)))from ok a _ e).2:bL P w H h a (.ext (cI P w a xs))).1
def tPn(P:Aj)(w:Bd)(td ty:TE):TE:=λσ H Q=>td σ H λx H1=>ty σ H1 λy H2=>∃a ob b xs k r c v,x=.ref a/\y=.ref b/\H2 a=some (.frz ob (.ext (cI P w a xs)))/\(∀x∈xs,PKy H2 (x.1,x.2.1))/\PKy H2 (k,b)/\Kg xs k=some (c,r)/\RelV v r/\Q v H2
def bAw(hu:X.A.units+2<cLine)(ho:PE X o td)(hi:PE X i ty)(hs:aFa i):PE X (.Subscript o i pos) (tPn X.prog X.w td ty):=by
 intro aa s σ H Q I h;refine aBj Hj.lookup hs (thn (ho aa s σ H _ I h) λu s1 ⟨x,H1,I1,rx,q1⟩=>thn (hi aa s1 σ H1 _ I1 q1) λiv s2 ⟨y,H2,I2,ry,a,ob,b,xs,k,r,c,v,ex,ey,e,ks,eb,l,rv,q2⟩=>?_);subst ex ey;obtain rfl:u=Ao a:=rx;obtain rfl:iv=Ao b:=ry;obtain⟨y,o,es,ep,h1,h2,h3,h4,h5⟩:=aQ8 I2.hok e;refine#[#[o,h1,h2.1],Lc (show X.A.in1.units+1<cLine from hu) (rC (x:=(k,b)) I2.hok eb) #[o,es,ep,h1,h2,h3,h4,λx hx=>rC (x:=(x.1,x.2.1)) I2.hok (ks x hx),h5] l ?_];exact#[v,H2,I2.tok _,rv,q2]
end
def vPn(P:Aj)(w:Bd)(a b:TV):TV:=λρ R=>a ρ λs=>b ρ λs'=>∃ab k u,s.rd=.op (pnO P w ab)/\s'.rd=tkU k/\sY ab k=some u/\R (.sh u)
def aR8{o i:Bu}{F G:TV}{k:Nat}(hP:X.prog=P)(hw:X.w=w)(hr:cV k X.A)(ha:VE X o F)(hb:VE X i G)(hs:aFa i:=by exactλ_ _=>rfl):VE X (.Subscript o i pos) (vPn P w F G):=by
 subst hP hw;obtain⟨_,p,f⟩:=ha;obtain⟨_,p',f'⟩:=hb;refine#[_,bAw (by have:=hr.un;lia) p p' hs,λ{W B ρ σ H R Q} e h q=>f e h λs v H1 h1 w1 r1=>f' (e.to w1) h1 λs' v' H2 h2 w2 r2=>?_];obtain⟨ab,k,u,hs,ek,ev,h3⟩:=h2;have e1:=e.to w1;have d0:=r1.db e.eb;rw[hs]at d0;obtain⟨a,ob,xs,rfl,nb,g1,g2⟩:=(d0.op:(pnO X.prog X.w ab).φ W B H1 v);have g1:=(e1.eb.keep w2 a _ nb g1).2;have g2:=g2.mono (e1.eb.keep w2);have d:=r2.db e1.eb;rw[ek]at d;have dk:DU W B H2 (tkU k) v':=d.tp;obtain⟨b,rfl,kb⟩:=aCx dk;rcases g2.val k with ⟨z,_⟩|⟨u',c,r,v,z1,z2,rv,dv⟩
 ·rw[ev]at z;cases z
 ·rw[ev]at z1;cases z1;exact#[a,ob,b,xs,k,r,c,v,rfl,rfl,g1,λx hx=>aF9 (g2.keys.2 x hx),kb,z2,rv,q _ _ _ h3 (w1.trans w2) dv]
def aNo{P:Aj}{w:Bd}{K:Ac}{tg:Bu}{d it:Addr}{o:Obj}{u:HO}{es:Array Rv}{ep:Nat}(hx:o.ExactDict)(hd:o.data=.dict es ep)(hv:Vals vs (es.toList.map (·.key))):
  Turn P w K tg (Itw d o u vs) [it] it (λi h=>h.IsKeyIter it d i es.size ep) where
 mem:=by simp
 obj:=λi h st b hb=>by
  have e:b=it:=by simpa using hb
  subst e;obtain⟨o,e,c,d⟩:=st;exact#[o,e,λv z=>by rw[d]at z;cases z]
 keep:=λi h h' st k=>st.at λo e=>k it (by simp) o e
 item:=by
  intro X hP hw hK hc i aa s σ H E I hf st hg;subst hP hw hK;obtain⟨e,hi⟩:=hg;obtain⟨g,_⟩:=(show bL X.prog X.w H s.heap d (.frz o u)from I.hok d _ e);obtain⟨f0,f1,f2,f3,f4,f5⟩:=hf it (by simp);have hl:vs.length=es.size:=by rw[Vals.length hv,Ab,Bg]
  rw[hl]at hi;have hy:(es.toList.map (·.key))[i]? =some es[i].key:=by simp[hi]
  have hk:vs[i]? =some (vs[i]'(by rw[hl];exact hi)):=Af _;obtain⟨y,hy',rx⟩:=Vals.get hv hk;rw[hy]at hy';cases hy';refine aRl st #[o,g,hx,hd] hi λh' st' sb=>?_;have I1:Inv X aa σ H {s with heap:=h'}:=I.turned (t':=s.toks) (λb o hb e=>(sb.2 b hb).trans e) f0 f1 f3 f4 f5;obtain⟨o',e',c,d'⟩:=id st';exact#[_,rfl,aK4 (s:={s with heap:=h'}) e' c d' ⋯ #[_,H,I1,rx,#[rfl,hk],st',λb hb=>(hf b hb).1]]
 done:=by
  intro X hP hw hK hc i aa s σ H E I hf st hg;subst hP hw hK;obtain⟨e,hi⟩:=hg;obtain⟨g,_⟩:=(show bL X.prog X.w H s.heap d (.frz o u)from I.hok d _ e);obtain⟨f0,f1,f2,f3,f4,f5⟩:=hf it (by simp);have hl:vs.length=es.size:=by rw[Vals.length hv,Ab,Bg]
  rw[hl]at hi;subst hi;exact aUf (I.ok.hd hc) st #[o,g,hx,hd] λh' eb=>#[rfl,I.turned (t':=s.toks) (λb o hb e=>eb b o hb e) f0 f1 f3 f4 f5]
 self:=λ_ _ _ _ _ st h=>wpAny_pyIter_keyiter st h
def bAa(P:Aj)(w:Bd)(te:TE):TI:=λσ H R=>te σ H λv H1=>∃d ob xs,v=.ref d/\H1 d=some (.frz ob (.ext (cI P w d xs)))/\R (Itw d ob (.ext (cI P w d xs)) (xs.map λx=>V.ref x.2.1)) H1
def aT4{X:Cx}{o tg:Bu}{te:TE}(ho:PE X o te):PI X tg o (bAa X.prog X.w te):=by
 intro aa s σ H R I h;refine thn (ho aa s σ H _ I h) λv s1 ⟨x,H1,I1,r1,d,ob,xs,ex,e,q⟩=>?_;subst ex;obtain rfl:v=Ao d:=r1;obtain⟨g,_⟩:=(show bL X.prog X.w H1 s1.heap d (.frz ob (.ext (cI X.prog X.w d xs)))from I1.hok d _ e);obtain⟨lo,o',es,ep,h1,h2,h3,h4,h5⟩:=aQ8 I1.hok e;rw[g]at h1;cases h1;refine aRm lo #[ob,g,h2,h3] ?_;refine#[s1.heap.objs.size,[s1.heap.objs.size],_,_,H1,rfl,I1.kept (t':=s1.toks) λb o e=>Ae _ e,aNo h2 h3 ?_,#[_,Ar _ rfl,rfl,rfl],λb hb=>?_,q]
 ·rw[h4,Ce];have:∀l:#v[8],Vals (l.map λx=>V.ref x.2.1) (l.map λx=>(Po (iI (Eb X.prog X.w)) x).key):=λl=>by
   induction l with
   |nil=>exact .nil
   |cons x xs ih=>exact .cons rfl ih
  exact this xs
 ·have e:b=s1.heap.objs.size:=by simpa using hb
  subst e;exact I1.fpOk (Am _) (I1.hok.fresh (Am _))
def bDs(P:Aj)(w:Bd)(F:TV):TVa:=λρ R=>F ρ λs=>∃ab,s.rd=.op (pnO P w ab)/\R (ab.map λp=>tkU p.1)
def bCe{X:Cx}{P:Aj}{w:Bd}{o tg:Bu}{F:TV}(hP:X.prog=P)(hw:X.w=w)(h:VE X o F):VI X tg o (bDs P w F):=by
 subst hP hw;obtain⟨_,p,f⟩:=h;refine#[_,aT4 p,λ{W B ρ σ H R Q} e h q=>f e h λs v H1 h1 w r=>?_];obtain⟨ab,hs,h2⟩:=h1;have d0:=r.db e.eb;rw[hs]at d0;obtain⟨d,ob,xs,rfl,nb,hd,rx⟩:=(d0.op:(pnO X.prog X.w ab).φ W B H1 v);have ll:=rx.len;refine#[d,ob,xs,rfl,hd,q _ _ _ h2 w #[λ{B2 H2} t=>#[(t d _ nb hd).2,by rw[Ab,Ab,ll]],λ{B2 H2} i t h=>#[(t d _ nb hd).2,by rw[Ab]at h⊢;lia],λ{B2 H2} i{x H' u} e t h y=>?_]];obtain⟨rfl,y⟩:=y;rw[Ap]at y h;obtain⟨z,hz,rfl⟩:=Dp.mp y;obtain⟨kv,hkv,rfl⟩:=Dp.mp h;have ek:z.1=kv.1:=by
  have:=rx.keys.1;have h1:(xs.map (·.1))[i]? =some z.1:=by rw[Ap,hz];rfl
  rw[this,Ap,hkv]at h1;exact(Bj h1).symm
 refine#[e.refl,?_];have:=rx.keys.2 z (Bl hz);rw[ek]at this;exact DU.mono t _ this
def aL4:gQ X (.builtin "len") (λys H Q=>∃a ob xs,ys=[V.ref a]/\H a=some (.frz ob (.ext (cI X.prog X.w a xs)))/\xs.length<=10000/\Q (.int xs.length) H):=by
 intro aa s σ H xs us Q I r h;obtain⟨a,ob,ps,rfl,e,hl,q⟩:=h;obtain⟨u,rfl,ru⟩:=vals1 r;obtain rfl:u=Ao a:=ru;obtain⟨lo,o,es,ep,h1,h2,h3,h4,h5⟩:=aQ8 I.hok e;have el:es.size=ps.length:=by rw[<-Bg,h4,Ab]
 have ty:s.TypeIs (.ref a) "dict":=#[o,h1,h2.1];refine call_len_slot (n:=(es.size:Int)) ty Qr (λQ' q'=>Co Qr ty PySem.F.entry_dict_len ?_ (PySem.F.args_dict_len_1 _)) ∅ ∅ #[.int es.size,H,I.tok _,#[_,rfl],by rw[el];exact q];unfold Builtin.«dict.__len__» Np;refine Aa (Aa (Nb ty (Ad ?_)));show Bc _ _ (dictSize a>>=λn=>Nn a>>=λm=>retInt ((n:Int)+(m:Int))) _ _ s;unfold dictSize Nn;refine Aa (Aa (Lq h1 h3 (Ad ?_)));rw[Aa0 (by rw[lo];exact Au)];refine Aa (Ad ?_);rw[show((es.size:Int)+((0:Nat):Int))=es.size by lia];exact(show Bc _ _ (do ret (<-mkInt (es.size:Int))) _ _ s from Aa (wpAny_mkInt (Ad #[_,rfl,q'])))
def aYr(P:Aj)(w:Bd)(a:TV):TV:=λρ R=>a ρ λs=>∃ab,s.rd=.op (pnO P w ab)/\ab.length<=10000/\R (.sh (.n ab.length))
def aIc{o:Bu}{p pos:Pos}{F:TV}(hP:X.prog=P)(hw:X.w=w)(hm:X.mg "len"=none)(ha:VE X o F)(hg:Gl X "len":=by rfl)(hs:SE X o []:=by rfl)(hpl:BT X pos []:=by rfl):VE X (.Call (.Name "len" p) [o] [] pos) (aYr P w F):=by
 subst hP hw;obtain⟨_,p,f⟩:=ha;refine#[_,qJ aL4 hg hm Gk (dW p iZ hs) ⋯ ⋯ hs hpl,λ{W B ρ σ H R Q} e h q=>f e h λs v H1 h1 w1 r1=>?_];obtain⟨ab,hs,hl,h2⟩:=h1;have d0:=r1.db e.eb;rw[hs]at d0;obtain⟨a,ob,xs,rfl,nb,g1,g2⟩:=(d0.op:(pnO X.prog X.w ab).φ W B H1 v);exact#[a,ob,xs,rfl,g1,by rw[g2.len];exact hl,q _ _ _ h2 w1 (by rw[g2.len];exact#[rfl,rfl])]
variable {Ts Ts':Tbs}
def aSh(F:List U->(Sl->Prop)->Prop)(G:TVa):TVu:=λρ R=>G ρ λus=>F us λs=>s.es R
def qO{k:Nat}{x:Str}{ps:List Str}{F:List U->(Sl->Prop)->Prop}{a:Bu}{es:List Bu}{G:TVa}{p pos:Pos}(C:Cal X.prog X.w X.K X.mg X.base CX0 k x ps (spT Ts' F))(hT:∀x∈Ts',x∈Ts)(hr:cV k X.A)(hg:Gl X x)
  (ha:VA X (a::es) G) (hdb:ND x:=by decide) (he:SE X a es:=by rfl) (hpl:BT X pos es:=by rfl):
  VEt X Ts (.Call (.Name x p) (a::es) [] pos) (aSh F G):=
 let⟨_,p,f⟩:=ha;⟨_,aXn C hr hg aCo p hdb he hpl,λ{B Tb ρ σ H R Q} tp e h q=>f e.ee h λus vs H1 h1 l1 w1 d=>by
  have e1:=e.fw tp.st w1;refine#[B,Tb,us,R,tp.sub hT,e1.eb,e1.tb,(by rw[Bi];exact d),h1,λu v H2 hu eb' t' tr' d'=>q u v H2 hu (e1.to (λb o n h=>(tr' b o n h).2) (λp hp=>eb'.bl p hp) t') (λb o n h=>tr' b o n (w1.fr b o id h)) d']⟩
def bCg(g:U->U->(Sl->Prop)->Prop)(F:TV)(Fb:TVu)(G:TVS):TVS:=λE ρ=>F ρ λs=>s.es λu=>Fb ρ λv=>g u v λs'=>∃c,s'=.sh (.b c)/\(c=true->G E ρ)/\(c=false->E.nx ρ)
def aY9{op:Rw}{r:R2}{g:U->U->(Sl->Prop)->Prop}{a b:Bu}{cpos pos:Pos}{F:TV}{Fb:TVu}{G:TVS}(ho:OpR X (Ee op) r)(o:O2 r g)(ha:VE X a F)(hb:VEt X Ts b Fb)(hbody:aBw X Ts body G)(hm:Gh op b=false:=by first|exact aCm _|rfl):VSt X Ts (.If (.Compare a [op] [b] cpos) body [] pos) (bCg g F Fb G):=
 let⟨_,p,f⟩:=ha;let⟨_,p1,f1⟩:=hb;let⟨_,p2,f2⟩:=hbody;⟨_,xO (aBg ho p p1 hm) p2 mU,λ{B Tb ρ σ H E D} tp e h j=>f e.ee h λs v H1 h1 w1 r1=>by
  obtain⟨u,h1,d⟩:=r1.du e.eb h1;have e1:=e.fw tp.st w1;refine f1 tp e1 h1 λu2 v2 H2 h2 e2 tr2 d2=>o e2.eb (.inl (DU.mono tr2 _ d)) (.inl d2) h2 λs3 z H3 h3 w3 r3=>?_;obtain⟨c,rfl,ht,hf⟩:=h3;obtain rfl:z=.bl c:=r3.1;have e3:=e2.fw tp.st w3;refine#[c,rfl,?_];cases c with
  |true=>exact aMk (f2 tp e3 (ht rfl) j)
  |false=>exact aCc (j.nx e3 (hf rfl))⟩
def pcU(p:List Int):U:=.tp (p.map U.n)
def mH(P:Aj)(w:Bd)(a:Addr)(xs:List (List Int×Addr×Value))(h:Heap):Prop:=(a==Fz)=false/\∃o es ep,h.get? a=some o/\o.ExactDict/\o.data=.dict es ep/\es.toList=xs.map (Po (Iv (Eb P w)))/\(xs.map (·.1)).Nodup
def mH.stay{P:Aj}{w:Bd}(h1 h2:Heap)(p:mH P w a xs h1)(k:∀o,h1.get? a=some o->h2.get? a=some o):mH P w a xs h2:=let⟨y,o,es,ep,e,c⟩:=p;#[y,o,es,ep,k _ e,c]
inductive TdR(W B:Addr->Prop)(H:Hp):List (List Int×U)->List (List Int×Addr×Value)->Prop
 |nil:TdR W B H [] []
 |cons {k:List Int} {u:U} {l:List (List Int×U)} {r:List (List Int×Addr×Value)} {c:Addr} {x:Value} {v:V}:DU W B H (pcU k) (.ref c)->RelV v x->DU W B H u v->TdR W B H l r->TdR W B H ((k,u)::l) ((k,c,x)::r)
def aDv:List (List Int×U)->List Int->Option U
 | [],_=>none
 |p::l,k=>if p.1=k then some p.2 else aDv l k
section
variable {W W' B B':Addr->Prop}{H H':Hp}
def TdR.mono{l:List (List Int×U)}(k:∀b o,¬B b->H b=some o->¬B' b/\H' b=some o)(h:TdR W B H l xs):TdR W B' H' l xs:=by
 induction h with
 |nil=>exact .nil
 |cons d rv dv t ih=>exact .cons (DU.mono k _ d) rv (DU.mono k _ dv) ih
def TdR.wm{l:List (List Int×U)}(k:∀p,W p->W' p)(h:TdR W B H l xs):TdR W' B H l xs:=by
 induction h with
 |nil=>exact .nil
 |cons d rv dv t ih=>exact .cons (DU.wm k _ d) rv (DU.wm k _ dv) ih
def TdR.keys{l:List (List Int×U)}(h:TdR W B H l xs):xs.map (·.1)=l.map (·.1)/\∀x∈xs,DU W B H (pcU x.1) (.ref x.2.1):=by
 induction h with
 |nil=>exact#[rfl,nofun]
 |cons d rv dv t ih=>exact#[Aa9 (_::·) ih.1,λx hx=>(Ax.mp hx).elim (λz=>z▸d) (ih.2 x)]
def TdR.val(k:List Int){l:List (List Int×U)}(h:TdR W B H l xs):(aDv l k=none/\Kg xs k=none)∨∃u a r v,aDv l k=some u/\Kg xs k=some (a,r)/\RelV v r/\DU W B H u v:=by
 induction h with
 |nil=>exact .inl #[rfl,rfl]
 |@cons k' u l r c x v d rv dv t ih=>
  by_cases z:k'=k
  ·exact .inr #[u,c,x,v,Aa1 z,by simp[Kg,Ex,z],rv,dv]
  ·rw[show aDv ((k',u)::l) k=aDv l k from Aa0 z,show Kg ((k',c,x)::r) k=Kg r k by simp[Kg,Ex,z]];exact ih
end
def aJv{W B:Addr->Prop}{H:Hp}{k:List Int}(d:DU W B H (pcU k) y):∃b,y=.ref b/\TKy H (k,b):=by
 obtain⟨a,ys,rfl,nb,ha,dz⟩:=d;exact#[a,rfl,by rw[dz.ints]at ha;exact ha]
def aXl{W B:Addr->Prop}{H:Hp}{k:List Int}(d:DU W B H (pcU k) (.ref b)):TKy H (k,b):=by
 obtain⟨_,e,h⟩:=aJv d;cases e;exact h
def aYj{P:Aj}{w:Bd}{h h':Heap}{x:List Int}(e:(Iv (Eb P w)).is h x a)(k:∀b o,h.get? b=some o->h'.get? b=some o):(Iv (Eb P w)).is h' x a:=by
 obtain⟨o,ae,m,g1,g⟩:=e;exact#[o,ae,m,k _ _ g1,g]
def tdO(P:Aj)(w:Bd)(ab:List (List Int×U)):Own:=#[λW B S H p=>(∀b,S b↔b=p)/\∃xs,H p=some (.ext (mH P w p xs))/\TdR W B H ab xs,λk e ⟨s,xs,h,r⟩=>#[s,xs,(e _ ((s _).mpr rfl)).trans h,r.mono k],λk ⟨s,xs,h,r⟩=>#[s,xs,h,r.wm k],λ⟨s,_,h,_⟩ b hb=>by rw[(s b).mp hb];exact#[_,h,trivial]]
def bAf(P:Aj)(w:Bd)(s:Sl)(ab:List (List Int×U)):Prop:=s=.bo (tdO P w ab)∨s=.oo (tdO P w ab)∨s=.sh (.op (tdO P w ab).fz)
def RO.td{W B:Addr->Prop}{H H':Hp}{P:Aj}{w:Bd}{s:Sl}(h:bAf P w s ab)(r:RO W B H H' s v):∃p xs,v=.ref p/\H' p=some (.ext (mH P w p xs))/\TdR W B H' ab xs:=by
 rcases h with rfl|rfl|rfl
 ·obtain⟨p,S,e,_,_,xs,h⟩:=r;exact#[p,xs,e,h]
 ·obtain⟨p,S,e,_,h⟩:=r;obtain⟨_,xs,h⟩:=Own.less _ h;exact#[p,xs,e,h]
 ·obtain⟨p,S,e,_,_,xs,h⟩:=r;exact#[p,xs,e,h]
def aUq{P:Aj}{w:Bd}{H:Hp}(ok:HOk P w H h)(e:H a=some (.ext (mH P w a xs)))(k:∀x∈xs,TKy H (x.1,x.2.1)):(a==Fz)=false/\h.DictOfH (Iv (Eb P w)) a xs:=by
 obtain⟨⟨y,o,es,ep,h1,h2,h3,h4,h5⟩,_,_⟩:=(show bL P w H h a (.ext (mH P w a xs))from ok a _ e);exact#[y,o,es,ep,h1,h2,h3,h4,λx hx=>aBk (x:=(x.1,x.2.1)) ok (k x hx),h5]
def tTg(P:Aj)(w:Bd)(td ty:TE):TE:=λσ H Q=>td σ H λx H1=>ty σ H1 λy H2=>∃a b xs k r c v,x=.ref a/\y=.ref b/\H2 a=some (.ext (mH P w a xs))/\(∀x∈xs,TKy H2 (x.1,x.2.1))/\TKy H2 (k,b)/\Kg xs k=some (c,r)/\RelV v r/\Q v H2
variable {o i value:Bu}{pos pos':Pos}{td ty tv:TE}
def aUr{aa:#v[4]}{σ:St}{H:Hp}{s:Ai}(I:#v[3])(e:H a=some (.ext (mH X.prog X.w a xs))):s.TypeIs (.ref a) "dict":=by
 obtain⟨⟨y,o,es,ep,h1,h2,_⟩,_,_⟩:=(show bL X.prog X.w H s.heap a (.ext (mH X.prog X.w a xs))from I.hok a _ e);exact#[o,h1,h2.1]
def bAx(hu:X.A.units+2<cLine)(ho:PE X o td)(hi:PE X i ty)(hs:aFa i):PE X (.Subscript o i pos) (tTg X.prog X.w td ty):=by
 intro aa s σ H Q I h;refine aBj Hj.lookup hs (thn (ho aa s σ H _ I h) λu s1 ⟨x,H1,I1,rx,q1⟩=>thn (hi aa s1 σ H1 _ I1 q1) λiv s2 ⟨y,H2,I2,ry,a,b,xs,k,r,c,v,ex,ey,e,ks,eb,l,rv,q2⟩=>?_);subst ex ey;obtain rfl:u=Ao a:=rx;obtain rfl:iv=Ao b:=ry;refine#[aUr I2 e,Lc (show X.A.in1.units<cLine from Nat.lt_of_succ_lt hu) (aBk (x:=(k,b)) I2.hok eb) (aUq I2.hok e ks).2 l ?_];exact#[v,H2,I2.tok _,rv,q2]
def vTg(P:Aj)(w:Bd)(a b:TV):TV:=λρ R=>a ρ λs=>b ρ λs'=>∃ab k u,bAf P w s ab/\s'.rd=pcU k/\aDv ab k=some u/\R (.sh u)
def aLu{o i:Bu}{pos:Pos}{F G:TV}{k:Nat}(hP:X.prog=P)(hw:X.w=w)(hr:cV k X.A)(ha:VE X o F)(hb:VE X i G)(hs:aFa i:=by exactλ_ _=>rfl):VE X (.Subscript o i pos) (vTg P w F G):=by
 subst hP hw;obtain⟨_,p,f⟩:=ha;obtain⟨_,p',f'⟩:=hb;refine#[_,bAx (by have:=hr.un;lia) p p' hs,λ{W B ρ σ H R Q} e h q=>f e h λs v H1 h1 w1 r1=>f' (e.to w1) h1 λs' v' H2 h2 w2 r2=>?_];obtain⟨ab,k,u,hs,ek,ev,h3⟩:=h2;have e1:=e.to w1;obtain⟨a,xs,rfl,g1,g2⟩:=r1.td hs;have g1:=w2.fr a _ (λz=>by
  obtain⟨_,_,_,y⟩:=e1.eb.wo a z;rw[g1]at y;cases y) g1
 have g2:=g2.mono (e1.eb.keep w2);have d:=r2.db e1.eb;rw[ek]at d;have dk:DU W B H2 (pcU k) v':=d.tp;obtain⟨b,rfl,kb⟩:=aJv dk;rcases g2.val k with ⟨z,_⟩|⟨u',c,r,v,z1,z2,rv,dv⟩
 ·rw[ev]at z;cases z
 ·rw[ev]at z1;cases z1;exact#[a,b,xs,k,r,c,v,rfl,rfl,g1,λx hx=>aXl (g2.keys.2 x hx),kb,z2,rv,q _ _ _ h3 (w1.trans w2) dv]
inductive aL2(H:Hp):List V->List (List Int×Addr×V)->Prop
 |nil:aL2 H [] []
 |cons {vs:List V} {r:List (List Int×Addr×V)} {k:List Int} {c p:Addr} {v:V}:H p=some (.tup [.ref c,v])->TKy H (k,c)->aL2 H vs r->aL2 H (.ref p::vs) ((k,c,v)::r)
inductive aL1:List (List Int×Addr×V)->List (List Int×Addr×Value)->Prop
 |nil:aL1 [] []
 |cons {k:List Int} {c:Addr} {v:V} {x:Value} {r:List (List Int×Addr×V)} {s:List (List Int×Addr×Value)}:RelV v x->aL1 r s->aL1 ((k,c,v)::r) ((k,c,x)::s)
def aNr{P:Aj}{w:Bd}{H:Hp}(hok:HOk P w H h)(t:aL2 H vs zs)(rv:Vals vs ae):
  ∃ws,aL1 zs ws/\ws.map (·.1)=zs.map (·.1)/\ws.length=ae.length/\(∀x∈ws,TKy H (x.1,x.2.1))/\∀(i:Nat)(v:Value),ae[i]? =some v->∃x p,ws[i]? =some x/\v=.ref p/\h.TwoAt p (.ref x.2.1) x.2.2:=by
 induction t generalizing ae with
 |nil=>
  cases rv;exact#[[],.nil,rfl,rfl,nofun,λi v e=>by simp at e]
 |@cons vs r k c p v e1 e2 t ih=>
  cases rv with
  |@cons _ u _ _ ru rs=>
   obtain⟨ws,h1,h5,h2,h4,h3⟩:=ih rs;obtain rfl:u=Ao p:=ru;obtain⟨_,ae,ri,o,g1,g2,n,g3⟩:=(show bL P w H h p (.tup [.ref c,v])from hok p _ e1);obtain⟨v1,v2,rfl,r1,r2⟩:=vals2 ri;obtain rfl:v1=Ao c:=r1;refine#[(k,c,v2)::ws,.cons r2 h1,Aa9 (k::·) h5,Aa9 (·+1) h2,λx hx=>(Ax.mp hx).elim (λz=>z▸e2) (h4 x),λi v e=>?_];cases i with
   |zero=>
    obtain rfl:Ao p=v:=by simpa using e
    exact#[_,p,rfl,rfl,o,n,g1,g2,g3]
   |succ i=>exact h3 i v (by simpa using e)
def aUv{W B:Addr->Prop}{H:Hp}(d:DUs W B H (ab.map λp=>U.tp [pcU p.1,p.2]) vs):∃zs,aL2 H vs zs/\zs.map (·.1)=ab.map (·.1)/\∀ws,aL1 zs ws->TdR W B H ab ws:=by
 induction ab generalizing vs with
 |nil=>
  obtain rfl:vs=[]:=d;exact#[[],.nil,rfl,λws h=>by cases h;exact .nil]
 |cons k ks ih=>
  obtain⟨v,r,rfl,d,t⟩:=d;obtain⟨zs,h1,h2,h3⟩:=ih t;obtain⟨p,ys,rfl,nb,hp,y1,_,rfl,d1,y2,r2,rfl,d2,e3⟩:=d;obtain rfl:r2=[]:=e3;obtain⟨b,rfl,kb⟩:=aJv d1;exact#[(k.1,b,y2)::zs,.cons hp kb h1,by rw[Br,Br,h2],λws h=>by cases h with|cons rv t=>exact .cons d1 rv d2 (h3 _ t)]
inductive aKo(P:Aj)(w:Bd)(xs:List V)(H:Hp)(Q:VK):Prop
 |mk (l vs zs:_) (q0_:xs=[.ref l]) (q1_:H l=some (.lst vs)) (q2_:aL2 H vs zs) (q3_:(zs.map (·.1)).Nodup) (q4_:∀ws,aL1 zs ws->∀d,H d=none->Q (.ref d) (upd H d (.ext (mH P w d ws)))):aKo P w xs H Q
def aX2(P:Aj)(w:Bd):List V->Hp->VK->Prop:=λxs H Q=>aKo P w xs H Q
def aI2{X:Cx}(hc:X.calm=true)(hu:X.A.units+4<cLine):gQ X (.type "dict") (aX2 X.prog X.w):=by
 intro aa s σ H xs us Q I r h;obtain⟨l,vs,zs,rfl,hl,hp,nd,q⟩:=h;obtain⟨u,rfl,ru⟩:=vals1 r;obtain rfl:u=Ao l:=ru;obtain⟨z,ae,n,rv,hg⟩:=(show bL X.prog X.w H s.heap l (.lst vs)from I.hok l _ hl);obtain⟨ws,h0,h5,h2,h1,h3⟩:=aNr I.hok hp rv;have lz:ae.length<=sizeLine:=by rw[<-rv.length];exact z
 refine aAo (knd:=Iv (Eb X.prog X.w)) (I.ok.hd hc) hg (show X.A.units+1+1<cLine by lia) (λh' x a e k=>aYj e k) ws (by rw[h2,Al]) (by rw[Al];exact lz) (λx hx=>aBk I.hok (h1 x hx)) (λi v e=>h3 i v (by simpa using e)) λh' tk hd hk'=>?_;rw[aH2 _ ws rfl (by rw[h5];exact nd)]at hd;obtain⟨o,es,ep,g1,g2,g3,g4,g5⟩:=hd;have hpo:mH X.prog X.w #v[0] ws h':=#[beq_eq_false_iff_ne.mpr (Cq (Aw I.big)),o,es,ep,g1,g2,g3,g4,g5];have ok:bL X.prog X.w (upd H #v[0] (.ext (mH X.prog X.w #v[0] ws))) h' #v[0] (.ext (mH X.prog X.w #v[0] ws)):=#[hpo,#[o,g1],λa b p k=>mH.stay a b p k];exact#[.ref #v[0],_,I.laid (a:=#v[0]) (o:=.ext (mH X.prog X.w #v[0] ws)) (t':=tk) hk' (Am _) ok,rfl,q _ h0 _ (I.hok.fresh (Am _))]
def bBv(P:Aj)(w:Bd)(F:TV):TV:=λρ R=>F ρ λs=>∃ab:List (List Int×U),s.rd=.ls (ab.map λp=> .tp [pcU p.1,p.2])/\(ab.map (·.1)).Nodup/\R (.oo (tdO P w ab))
def aGc{X:Cx}{P:Aj}{w:Bd}{a:Bu}{p pos:Pos}{F:TV}{k:Nat}(hP:X.prog=P)(hw:X.w=w)(hr:cV k X.A)(hc:X.calm=true)(hm:X.mg "dict"=none)(ha:VE X a F)(hg:Gl X "dict":=by rfl)(hs:SE X a []:=by rfl)(hpl:BT X pos []:=by rfl):VE X (.Call (.Name "dict" p) [a] [] pos) (bBv P w F):=by
 subst hP hw;obtain⟨_,p,f⟩:=ha;refine#[_,qK (aI2 hc (by have:=hr.un;lia)) hg hm boot_dict (dW p iZ hs) ⋯ ⋯ hs hpl,λ{W B ρ σ H R Q} e h q=>f e h λs v H1 h1 w1 r1=>?_];obtain⟨ab,es,nd,h2⟩:=h1;have e1:=e.to w1;have d:=r1.db e.eb;rw[es]at d;obtain⟨p,xs,rfl,hp,ds⟩:∃p xs,v=.ref p/\H1 p=some (.lst xs)/\DUs W B H1 (ab.map λp=>U.tp [pcU p.1,p.2]) xs:=d.elim (λ⟨p,xs,a,_,b,c⟩=>#[p,xs,a,b,c]) λ⟨l',p,xs,e1,a,_,b,c⟩=>by cases e1;exact#[p,xs,a,b,c]
 obtain⟨zs,t1,t2,t3⟩:=aUv ds;exact#[p,xs,zs,rfl,hp,t1,by rw[t2];exact nd,λws rw l nl=>q _ _ _ h2 (w1.trans (e1.eb.new nl)) (RO.back (s:=.oo _) w1 #[l,(·=l),rfl,λb hb=>by rw[hb];exact nl,λ_=>Lj,ws,aL,(t3 ws rw).mono λb o nb h=>#[λz=>z.elim nb (aV h nl),(e1.eb.keep (e1.eb.new nl) b o nb h).2]])]
def aOp:gQ X (.type "dict") (λxs H Q=>∃a ab,xs=[.ref a]/\H a=some (.dK ab)/\∀p,H p=none->Q (.ref p) (upd H p (.dK ab))):=by
 intro aa s σ H xs us Q I r h;obtain⟨a,ab,rfl,ha,q⟩:=h;obtain⟨u,rfl,ru⟩:=vals1 r;obtain rfl:u=Ao a:=ru;exact aOv I (.inl ha) λp s' hn I'=>#[.ref p,_,I',rfl,q p hn]
def bDi(F:TV):TV:=λρ R=>F ρ λs=>∃ns us,s.rd=.dk ns us/\R (.oo (dkO ns us))
def aYy{a:Bu}{p pos:Pos}{F:TV}(hm:X.mg "dict"=none)(ha:VE X a F)(hg:Gl X "dict":=by rfl)(hs:SE X a []:=by rfl)(hpl:BT X pos []:=by rfl):VE X (.Call (.Name "dict" p) [a] [] pos) (bDi F):=by
 obtain⟨_,p,f⟩:=ha;refine#[_,qK aOp hg hm boot_dict (dW p iZ hs) ⋯ ⋯ hs hpl,λ{W B ρ σ H R Q} e h q=>f e h λs v H1 h1 w1 r1=>?_];obtain⟨ns,us,es,h2⟩:=h1;have e1:=e.to w1;have d:=r1.db e.eb;rw[es]at d;obtain⟨a,xs,rfl,_,ha,hl,ds⟩:=d.dk;exact#[a,_,rfl,ha,λp n=>q (.oo (dkO ns us)) _ _ h2 (w1.trans (e1.eb.new n)) (RO.back (s:=.oo _) w1 #[p,(·=p),rfl,λb hb=>by rw[hb];exact n,λ_=>Lj,xs,aL,hl,DUs.mono (λb o nb h=>#[λz=>z.elim nb (aV h n),(e1.eb.keep (e1.eb.new n) b o nb h).2]) us ds])]
theorem aPz{k:Str}{v:V}:∀{ns:List Str}{xs:List V},k∉ns->(zk ns xs).map (λkv=>if kv.1=Cm k then(kv.1,v)else kv)=zk ns xs
 | [],_,_=>rfl
 |_::_,[],_=>rfl
 |a::ns,x::xs,h=>by
  show(if(Cm a:Key)=Cm k then(Cm a,v)else(Cm a,x))::(zk ns xs).map _=(Cm a,x)::zk ns xs;rw[Aa0 (λz=>h (by rw[Oa z];exact Ag)),aPz λz=>h (Ah _ z)]
theorem aRs{k:Str}{v:V}:∀{ns:List Str}{xs:List V}{n:Nat},ns.length=xs.length->ns.Nodup->ns[n]? =some k->(zk ns xs).map (λkv=>if kv.1=Cm k then(kv.1,v)else kv)=zk ns (xs.set n v)
 | [],_,_,_,_,h=>by cases h
 |_::_,[],_,l,_,_=>by cases l
 |a::ns,x::xs,0,l,nd,h=>by
  cases h;show(if(Cm k:Key)=Cm k then(Cm k,v)else(Cm k,x))::(zk ns xs).map _=(Cm k,v)::zk ns xs;rw[Aa1 rfl,aPz (Ef.mp nd).1]
 |a::ns,x::xs,n+1,l,nd,h=>by
  have h:ns[n]? =some k:=h;show(if(Cm a:Key)=Cm k then(Cm a,v)else(Cm a,x))::(zk ns xs).map _=(Cm a,x)::zk ns (xs.set n v);rw[Aa0 (λz=>(Ef.mp nd).1 (by rw[Oa z];exact Bl h)),aRs (Dw l) (Ef.mp nd).2 h]
def aX0{xs:List V}{k:Str}(l:ns.length=xs.length)(nd:ns.Nodup)(h:ns[n]? =some k):putK (zk ns xs) (Cm k) v=zk ns (xs.set n v):=by
 unfold putK;rw[Aa1]
 ·exact aRs l nd h
 ·have hn:=(Be.mp h).1;refine Vi.mpr #[(Cm k,xs[n]'∅),Bl (i:=n) ?_,Aa5 rfl];unfold zk;rw[Ki,Ap,h];exact#[rfl,Af _]
def DUs.set{W B:Addr->Prop}{H:Hp}(d:DU W B H u v):∀{us:List U}{xs:List V}{n:Nat},DUs W B H us xs->DUs W B H (us.set n u) (xs.set n v)
 | [],_,_,h=>by rw[show _=[]from h];exact rfl
 |_::_,_,0,⟨x,r,e,_,t⟩=>by rw[e];exact#[v,r,rfl,d,t]
 |_::_,_,n+1,⟨x,r,e,h,t⟩=>by rw[e];exact#[x,_,rfl,h,DUs.set d t]
def aYn(i:Nat)(k:Str)(F:TV):TVS:=λE ρ=>F ρ λs=>s.es λu=>∃ns us n,ρ[i]? =some (.oo (dkO ns us))/\ns.length<=50/\ns.Nodup/\ns[n]? =some k/\E.nx (ρ.set i (.oo (dkO ns (us.set n u))))
def aYo(i:Nat)(k:Str)(F:TV):TVS:=λE ρ=>F ρ λs=>∃l ns us u0,s=.ow l/\ρ[i]? =some (.oo (dkO (ns++[k]) (us++[u0])))/\(ns++[k]).length<=50/\k∉ns/\E.nx (ρ.set i (.oo (dlO ns us k l)))
def aSc{x:Str}{k:Str}{j pk}{value:Bu}{pos pos' p':Pos}{F:TV}{m:Nat}(i:Nat)(hr:cV m X.A)(hv:VE X value F)(hN:X.N[i]? =some x:=by rfl)(hvs:Vis X.env.scope x:=by trivial)(hd:ND x:=by decide)
  (hcd:NC x:=by decide) (hs:Ed value (some (.Subscript (.Name x p') (.Constant (.str k) j pk) pos')) pos.line X.env=pure false:=by rfl):VS X (.Assign [.Subscript (.Name x p') (.Constant (.str k) j pk) pos'] value pos) (aYn i k F):=by
 obtain⟨_,p2,f2⟩:=hv;refine#[_,aLg (by have:=hr.un;lia) (fZ hN hvs hd hcd) tY p2 hs,λ{W B H0 A ρ σ H E D} o h jj=>f2 o.ee h λsv v H1 h1 w1 r1=>?_];obtain⟨u,⟨ns,us,n,hi,hl,nd,hn,h2⟩,dv⟩:=r1.du o.ee.eb h1;have o1:=o.to w1;obtain⟨p,g1,gs,xs,g2,g3,g4⟩:=o1.hd i _ _ hi rfl;have kk:∀{x:HO} b y,¬Bx B A b->H1 b=some y->¬Bx B A b/\upd H1 p x b=some y:=λb y n h=>#[n,(aJ (λz:b=p=>n (by rw[z];exact .inr #[i,(gs p).mpr rfl]))).trans h];refine#[_,g1,p,_,rfl,aL0.k (k:=Cm k) g2 ?_,?_]
 ·have:(zk ns xs).length<=ns.length:=by unfold zk;rw[Ie,Ab];lia
  exact Gz (Bs this hl) ⋯
 ·rw[aX0 g3 nd hn];exact jj.nx (o1.chg g1 ((gs p).mpr rfl) (s':=.oo (dkO ns (us.set n u))) rfl rfl #[gs,_,aL,by rw[Bn,g3],DUs.mono kk _ (DUs.set dv g4)]) h2
def aSd{x:Str}{k:Str}{j pk}{value:Bu}{pos pos' p':Pos}{F:TV}{m:Nat}(i:Nat)(hr:cV m X.A)(hv:VE X value F)(hN:X.N[i]? =some x:=by rfl)(hvs:Vis X.env.scope x:=by trivial)(hd:ND x:=by decide)
  (hcd:NC x:=by decide) (hs:Ed value (some (.Subscript (.Name x p') (.Constant (.str k) j pk) pos')) pos.line X.env=pure false:=by rfl):VS X (.Assign [.Subscript (.Name x p') (.Constant (.str k) j pk) pos'] value pos) (aYo i k F):=by
 obtain⟨_,p2,f2⟩:=hv;refine#[_,aLg (by have:=hr.un;lia) (fZ hN hvs hd hcd) tY p2 hs,λ{W B H0 A ρ σ H E D} o h jj=>f2 o.ee h λsv v H1 h1 w1 r1=>?_];obtain⟨l,ns,us,u0,rfl,hi,hl,hk,h2⟩:=h1;obtain⟨q,ys,rfl,nq,hq,dl⟩:=r1;have o1:=o.to w1;obtain⟨p0,g0,gs0,xs,g20,g3,g4⟩:=o.hd i _ _ hi rfl;have nWp:¬W p0:=o.nw ((gs0 p0).mpr rfl);have g2:=w1.fr p0 _ nWp g20;have pq:p0≠q:=λz=>by rw[<-z,g20]at nq;cases nq
 refine#[_,g0,p0,_,rfl,aL0.k (k:=Cm k) g2 ?_,?_]
 ·have:(zk (ns++[k]) xs).length<=(ns++[k]).length:=by unfold zk;rw[Ie,Ab];lia
  exact Gz (Bs this hl) ⋯
 ·obtain⟨xs,v0,rfl,g4,_⟩:=aSn g4;have g3:ns.length=xs.length:=by rw[Ak,Ak]at g3;exact Dw g3
  rw[aRd g3 hk];refine jj.nx (o.rep (i:=i) (s:=.oo (dlO ns us k l)) (S:=λb=>b=p0∨b=q) (p:=p0) rfl rfl (λb y w n h=>?_) (λr hr=>?_) (λb hb=>?_) #[q,xs,ys,λ_=>Lj,pq,aL,g3,DUs.mono (λb y n h=>#[λz=>?_,?_]) us g4,(aJ (Cq pq)).trans hq,DUs.mono (λb y n h=>#[λz=>?_,?_]) l dl] g0) h2
  ·exact(aJ (λz=>n (.inl z))).trans (w1.fr b y w h)
  ·obtain⟨x,y,z,h⟩:=o1.fw.wo r hr;exact#[x,y,z,(aJ (λe:r=p0=>nWp (by rw[<-e];exact hr))).trans h]
  ·rcases hb with rfl|rfl
   ·exact .inl ((gs0 _).mpr rfl)
   ·exact .inr nq
  ·rcases z with z|⟨j,_,z⟩|rfl|rfl
   ·exact n (.inl z)
   ·exact n (.inr #[j,z])
   ·exact n (.inr #[i,(gs0 _).mpr rfl])
   ·rw[nq]at h;cases h
  ·exact(aJ (λz:b=p0=>n (by rw[z];exact .inr #[i,(gs0 _).mpr rfl]))).trans (w1.fr b y (λz=>n (.inl (o.eb.wb b z))) h)
  ·rcases z with z|⟨j,_,z⟩|rfl|rfl
   ·exact n (.inl (.inl z))
   ·exact n (.inl (.inr #[j,z]))
   ·exact n (.inl (.inr #[i,(gs0 _).mpr rfl]))
   ·exact n (.inr rfl)
  ·exact(aJ (λz:b=p0=>n (by rw[z];exact .inl (.inr #[i,(gs0 _).mpr rfl])))).trans h
def SqZ(K:Ac)(c:Bool)(H:Hp)(a:Addr)(xs:List V):Prop:=match c with
 |true=>SqT K H a xs
 |false=>SqL K H a xs
def ZIt(c:Bool)(h:Heap)(i t:Addr)(k:Nat):Prop:=match c with
 |true=>h.IsTupleIter i t k
 |false=>h.IsListIter i t k
def ZSq(c:Bool)(h:Heap)(t:Addr)(xs:Array Value):Prop:=match c with
 |true=>h.IsTuple t xs
 |false=>h.IsList t xs
def ZIt.at_{c:Bool}{h h':Heap}{i t:Addr}{k:Nat}(x:ZIt c h i t k)(e:∀o,h.get? i=some o->h'.get? i=some o):ZIt c h' i t k:=by
 cases c
 ·have x:h.IsListIter i t k:=x;exact x.at e
 ·have x:h.IsTupleIter i t k:=x;exact x.at e
def ZIt.ob{c:Bool}{i t:Addr}{k:Nat}(x:ZIt c h i t k):∃o,h.get? i=some o/\∀v,o.data≠.cell v:=by
 cases c<;>exact let⟨o,e,_,d⟩:=x;#[o,e,λv q=>by rw[d]at q;cases q]
def ZSq.lt{c:Bool}{t:Addr}{xs:Array Value}(x:ZSq c h t xs):t<h.objs.size:=by
 cases c<;>exact let⟨_,e,_⟩:=x;As e
structure aOd(c:Bool)(h:Heap)(z TI TO i1 i2 t l:Addr)(k:Nat)(f0:Value):Prop where
 z:Wm h z TI TO f0
 ti:IsPair h TI (.ref i1) (.ref i2)
 to:∃a b,IsPair h TO a b
 h1:ZIt c h i1 t k
 h2:h.IsListIter i2 l k
section
variable {prog:Aj}{w:Bd}{A:Bp}{E:#v[c]}{s:Ai}
def aNw{c:Bool}{z TI TO i1 i2 t l:Addr}{k:Nat}{xs ys:Array Value}{x y:Value}{Q:#v[9]->Ai->Prop}(D:Qv z TI TO i1 i2 t l)(S:aOd c s.heap z TI TO i1 i2 t l k .none)
  (hl1:ZSq c s.heap t xs) (hl2:s.heap.IsList l ys) (hx:xs[k]? =some x) (hy:ys[k]? =some y)
  (hQ:∀h',aOd c h' z TI TO i1 i2 t l (k+1) (Ji #v[0])->IsPair h' #v[0] x y->h'.objs.size=#v[0]+1->
   (∀c o,c≠z->c≠TO->c≠i1->c≠i2->s.heap.get? c=some o->h'.get? c=some o)->Q (some (.ref #v[0])) {s with heap:=h'}):Bc #v[b] A (Ia (.ref z)) Q E s:=by
 obtain⟨z0,zTI,zTO,h1,h2⟩:=S;cases c
 ·obtain⟨_,_,zTO⟩:=zTO;exact wpAny_pyNext_zip_item D z0 zTI zTO h1 h2 hl1 hl2 hx hy λh' hz' hTO' h1' h2' ht hsz hk=>hQ h' #[hz',hk TI _ D.TIz D.TITO D.TIi1 D.TIi2 zTI,#[_,_,hTO'],h1',h2'] ht hsz hk
 ·exact aNx D #[z0,zTI,zTO,h1,h2] hl1 hl2 hx hy λh' ⟨a,b,c,d,e⟩=>hQ h' #[a,b,c,d,e]
def aSj{c:Bool}{z TI TO i1 i2 t l:Addr}{k:Nat}{xs ys:Array Value}{Q:#v[9]->Ai->Prop}(hh:A.handled=none)(D:Qv z TI TO i1 i2 t l)(S:aOd c s.heap z TI TO i1 i2 t l k .none)
  (hl1:ZSq c s.heap t xs) (hl2:s.heap.IsList l ys) (hx:xs[k]? =none)
  (hQ:∀h',(∀c o,c≠z->c≠TO->c≠i1->c≠i2->s.heap.get? c=some o->h'.get? c=some o)->Q none {s with heap:=h'}):Bc #v[b] A (Ia (.ref z)) Q E s:=by
 obtain⟨z0,zTI,zTO,h1,h2⟩:=S;cases c
 ·obtain⟨_,_,zTO⟩:=zTO;exact wpAny_pyNext_zip_end hh D z0 zTI zTO h1 h2 hl1 hl2 (.inl hx) hQ
 ·exact aSk hh D #[z0,zTI,zTO,h1,h2] hl1 hx hQ
def aL8{c:Bool}{t l:Addr}{xs ys:Array Value}{Q:#v[c]}(hl1:ZSq c s.heap t xs)(hl2:s.heap.IsList l ys)
  (h:∀h',aOd c h' (#v[0]+4) (#v[0]+2) (#v[0]+3) #v[0] (#v[0]+1) t l 0 .none->(∀c o,s.heap.get? c=some o->h'.get? c=some o)->Q (.ref (#v[0]+4)) {s with heap:=h'}):
  Bc #v[b] A (call (.type "zip") [.ref t,.ref l]) Q E s:=by
 cases c
 ·exact call_zip_2 hl1 hl2 λh' zz zTI zTO zh1 zh2 _ hk=>h h' #[zz,zTI,#[_,_,zTO],zh1,zh2] hk
 ·exact aL9 hl1 hl2 λh' ⟨a,b,c,d,e⟩=>h h' #[a,b,c,d,e]
end
def aF6{c:Bool}{xs:List V}(I:#v[3])(h:SqZ X.K c H a xs):∃ae,Vals xs ae/\ZSq c s.heap a ae.toArray:=by
 cases c
 ·exact let⟨ae,rv,p,_⟩:=I.list h;#[ae,rv,p.isList]
 ·exact let⟨ae,rv,p,_⟩:=I.tuple h;#[ae,rv,p]
def aUm{c:Bool}{xs ys:List V}(I:#v[3])(h:SqZ X.K c H a xs)(h':SqZ X.K c H a ys):xs=ys:=by
 cases c
 ·exact I.list_inj h h'
 ·exact I.tuple_inj h h'
def aWo(K:Ac)(κ:Bool)(a b:Addr):It:=
 ⟨λi H=>∃xs ys x y,SqZ K κ H a xs/\SqL K H b ys/\xs[i]? =some x/\ys[i]? =some y,λi H v H'=>∃p x y,H p=none/\v=.ref p/\H'=upd H p (.tup [x,y])/\(∀xs,SqZ K κ H a xs->xs[i]? =some x)/\∀ys,SqL K H b ys->ys[i]? =some y,
  λi H=>∃xs ys,SqZ K κ H a xs/\SqL K H b ys/\xs.length<=i⟩
def aNq{P:Aj}{w:Bd}{K:Ac}{k:Nat}{pos:Pos}{a b z TI TO i1 i2:Addr}(D:Qv z TI TO i1 i2 a b):
  Turn P w K (.Tuple es k pos) (aWo K κ a b) [z,TI,TO,i1,i2] z (λi h=>aOd κ h z TI TO i1 i2 a b i .none) where
 mem:=by simp
 obj:=λi h st c hc=>by
  obtain⟨hz,hTI,⟨x,y,hTO⟩,h1,⟨o2,e2,c2,d2⟩⟩:=st;obtain⟨o1,e1,d1⟩:=h1.ob;simp only[Ax,Cj,or_false]at hc;rcases hc with rfl|rfl|rfl|rfl|rfl
  ·exact⟨_,hz,λv q=>by
    have q':To _=Pg v:=q;cases q'⟩
  ·exact⟨_,hTI,λv q=>by
    have q':Data.seq _ _=Pg v:=q;cases q'⟩
  ·exact⟨_,hTO,λv q=>by
    have q':Data.seq _ _=Pg v:=q;cases q'⟩
  ·exact#[o1,e1,d1]
  ·exact#[o2,e2,λv q=>by rw[d2]at q;cases q]
 keep:=λi h h' st k=>by
  obtain⟨hz,hTI,⟨x,y,hTO⟩,h1,h2⟩:=st;exact#[k z (by simp) _ hz,k TI (by simp) _ hTI,#[x,y,k TO (by simp) _ hTO],h1.at_ λo e=>k i1 (by simp) o e,h2.at λo e=>k i2 (by simp) o e]
 item:=by
  intro X hP hw hK hc i aa s σ H E I hf st hg;subst hP hw hK;obtain⟨xs,ys,x,y,hq1,hq2,hx,hy⟩:=hg;obtain⟨its1,rv1,p1⟩:=aF6 I hq1;obtain⟨its2,rv2,p2,hz2⟩:=I.list hq2;obtain⟨u1,hu1,ru1⟩:=rv1.get hx;obtain⟨u2,hu2,ru2⟩:=rv2.get hy;refine aNw D st p1 p2.isList (x:=u1) (y:=u2) (by simpa using hu1) (by simpa using hu2) λh' st' ht hsz hk=>?_;obtain⟨hz',hTI',⟨a',b',hTO'⟩,h1',h2'⟩:=st';refine#[_,rfl,wpAny_letOwnedTupleGo_zip hz' λh'' hz'' hs''=>?_];have hT:H #v[0]=none:=I.hok.fresh (Am _);obtain⟨sz,sTI,⟨_,_,sTO⟩,sh1,⟨so2,s2,_⟩⟩:=st;obtain⟨so1,s1,_⟩:=sh1.ob;have lz:=As sz;have nz:z≠#v[0]:=Aw lz;have nTO:TO≠#v[0]:=Aw (As sTO);have nTI:TI≠#v[0]:=Aw (As sTI);have n1:i1≠#v[0]:=Aw (As s1);have n2:i2≠#v[0]:=Aw (As s2);have keep:∀c o,c≠z->c≠TO->c≠i1->c≠i2->s.heap.get? c=some o->h''.get? c=some o:=λc o c1 c2 c3 c4 e=>(hs''.2 c c1).trans (hk c o c1 c2 c3 c4 e);have keepc:∀c o,c∉[z,TI,TO,i1,i2]->s.heap.get? c=some o->h''.get? c=some o:=λc o hc e=>keep c o (λq=>hc (by simp[q])) (λq=>hc (by simp[q])) (λq=>hc (by simp[q])) (λq=>hc (by simp[q])) e;have tup:=(hs''.2 _ (Cq nz)).trans ht;have fz:=hf z (by simp);have fTI:=hf TI (by simp);have fTO:=hf TO (by simp);have f1:=hf i1 (by simp);have f2:=hf i2 (by simp);have nf:∀c u,H c=some u->c≠z/\c≠TO/\c≠i1/\c≠i2:=λc u q=>#[λe=>(by rw[e,fz.1]at q;cases q),λe=>(by rw[e,fTO.1]at q;cases q),λe=>(by rw[e,f1.1]at q;cases q),λe=>(by rw[e,f2.1]at q;cases q)];have nT:∀c u,H c=some u->c≠#v[0]:=λc u q=>aV q hT;refine⟨.ref #v[0],upd H #v[0] (.tup [x,y]),?_,rfl,#[_,x,y,hT,rfl,rfl,λzs hz=>(by rw[aUm I hz hq1];exact hx),λzs hz=>(by rw[I.list_inj hz hq2];exact hy)],
   #[hz'',(hs''.2 _ D.TIz).trans hTI',#[_,_,(hs''.2 _ D.TOz).trans hTO'],h1'.at_ λo e=>(hs''.2 _ D.i1z).trans e,h2'.at λo e=>(hs''.2 _ D.i2z).trans e],λc hc=>?_⟩
  ·show Inv X aa σ (upd H #v[0] (.tup [x,y])) {s with heap:=h'',gens:=s.gens,drawn:=s.drawn,toks:=s.toks};refine Inv.step (s:=s) (h':=h'') (t':=s.toks) (g':=s.gens) (d':=s.drawn) (ch:=[z,TI,TO,i1,i2]) I (λc hc=>?_) (λc o _ _ hc' q _=>keepc c o hc' q) (λc o _ _ hc' q _=>#[o.slots,keepc c o hc' q]) (λc o _ q n=>by rw[aJ (Aw (As q))];exact n)
    (λc o hc' q=>#[o,keepc c o hc' q]) (λc ys q=>by rw[aJ (nT c _ q)];exact q) (λc o' ys q=>by rw[aJ (nT c _ q)];exact q) (λc ps q=>#[(List.toArray []),by rw[aJ (nT c _ q),q];simp]) (λm hm=>?_) (λc ob q=>?_) I.bare
   ·have:=hf c hc;exact#[this.2.2.2.1,this.2.1,this.2.2.2.2.1,this.2.2.2.2.2]
   ·obtain⟨o,es,ep,ho,r⟩:=hm;exact#[o,es,ep,keep _ o (Cq fz.2.1) (Cq fTO.2.1) (Cq f1.2.1) (Cq f2.2.1) ho,r]
   ·by_cases hb:c=#v[0]
    ·subst hb;rw[aL]at q;cases q;exact#[show 2<=sizeLine by decide,[u1,u2],.cons ru1 (.cons ru2 .nil),#[_,tup,rfl,_,rfl]]
    ·rw[aJ hb]at q;refine(I.hok c ob q).stay (λd w' hc' q'=>?_) (λd q'=>by rw[aJ (nT d _ q')];exact q') (λd ys q'=>by rw[aJ (nT d _ q')];exact q');have hne:d≠z/\d≠TO/\d≠i1/\d≠i2:=by
      rcases hc' with rfl|hc'
      ·exact nf _ _ q
      ·exact nf _ _ hc'
     exact keep d w' hne.1 hne.2.1 hne.2.2.1 hne.2.2.2 q'
  ·simp only[Ax,Cj,or_false]at hc;rcases hc with rfl|rfl|rfl|rfl|rfl
   ·rw[aJ nz];exact fz.1
   ·rw[aJ nTI];exact fTI.1
   ·rw[aJ nTO];exact fTO.1
   ·rw[aJ n1];exact f1.1
   ·rw[aJ n2];exact f2.1
 done:=by
  intro X hP hw hK hc i aa s σ H E I hf st hg;subst hP hw hK;obtain⟨xs,ys,hq,hq2,hx⟩:=hg;obtain⟨ae,rv,p⟩:=aF6 I hq;have hl:=rv.length;have fz:=hf z (by simp);have fTO:=hf TO (by simp);have f1:=hf i1 (by simp);have f2:=hf i2 (by simp);obtain⟨its2,rv2,p2,hz2⟩:=I.list hq2;refine aSj (I.ok.hd hc) D st p p2.isList (by simp;lia) λh' hk=>#[rfl,?_];have keepc:∀c o,c∉[z,TO,i1,i2]->s.heap.get? c=some o->h'.get? c=some o:=λc o hc e=>hk c o (λq=>hc (by simp[q])) (λq=>hc (by simp[q])) (λq=>hc (by simp[q])) (λq=>hc (by simp[q])) e;have nf:∀c u,H c=some u->c∉[z,TO,i1,i2]:=λc u q hc=>by
   simp only[Ax,Cj,or_false]at hc;rcases hc with rfl|rfl|rfl|rfl
   ·rw[fz.1]at q;cases q
   ·rw[fTO.1]at q;cases q
   ·rw[f1.1]at q;cases q
   ·rw[f2.1]at q;cases q
  show Inv X aa σ H {s with heap:=h',gens:=s.gens,drawn:=s.drawn,toks:=s.toks};refine Inv.step (s:=s) (h':=h') (t':=s.toks) (g':=s.gens) (d':=s.drawn) (ch:=[z,TO,i1,i2]) I (λc hc=>?_) (λc o _ _ hc' q _=>keepc c o hc' q) (λc o _ _ hc' q _=>#[o.slots,keepc c o hc' q]) (λ_ _ _ _ n=>n)
   (λc o hc' q=>#[o,keepc c o hc' q]) (λ_ _ q=>q) (λ_ _ _ q=>q) (λc ps q=>#[(List.toArray []),by rw[q];simp]) (λm hm=>?_) (λc ob q=>?_) I.bare
  ·have hc':c∈[z,TI,TO,i1,i2]:=by
    simp only[Ax,Cj,or_false]at hc⊢;rcases hc with h|h|h|h<;>simp[h]
   have:=hf c hc';exact#[this.2.2.2.1,this.2.1,this.2.2.2.2.1,this.2.2.2.2.2]
  ·obtain⟨o,es,ep,ho,r⟩:=hm;exact#[o,es,ep,hk _ o (Cq fz.2.1) (Cq fTO.2.1) (Cq f1.2.1) (Cq f2.2.1) ho,r]
  ·refine(I.hok c ob q).stay (λd w' hc' q'=>?_) (λ_ q'=>q') (λ_ _ q'=>q');refine keepc d w' ?_ q';rcases hc' with rfl|hc'
   ·exact nf _ _ q
   ·exact nf _ _ hc'
 self:=λ_ _ _ _ _ st h=>Yl st.z h
def bAe(K:Ac)(κ:Bool)(ta:TA):TI:=λσ H R=>ta σ H λvs H1=>∃a b,vs=[.ref a,.ref b]/\(∃xs,SqZ K κ H1 a xs)/\(∃ys,SqL K H1 b ys)/\R (aWo K κ a b) H1
def aT6{k:Nat}{pos':Pos}{a b:Bu}{p pos:Pos}(hg:Gl X "zip")(hm:X.mg "zip"=none)(ha:PA X [a,b] ta)(hs:Bz [a,b] X.env=[(false,eval a X.env),(false,eval b X.env)]:=by rfl)(hs2:Bz [b] X.env=[(false,eval b X.env)]:=by rfl):
  PI X (.Tuple es k pos') (.Call (.Name "zip" p) [a,b] [] pos) (bAe X.K κ ta):=by
 intro aa s σ H R I h;refine Call_ (tR I hg hm (show Fx "zip"=some (.type "zip") by decide+kernel) (Fe (thn (ha pos aa s σ H _ I h) λus s1 ⟨vs,H1,I1,r1,q1⟩=>?_) (by rw[hs,hs2]) (by rw[hs2];rfl)));obtain⟨t,l,e,⟨xs,hq1⟩,⟨ys,hq2⟩,q⟩:=q1;subst e;obtain⟨u,w',rfl,ru,rw'⟩:=vals2 r1;cases ru;cases rw';obtain⟨its1,rv1,p1⟩:=aF6 I1 hq1;obtain⟨its2,rv2,p2,_⟩:=I1.list hq2;refine aL8 p1 p2.isList λh' st hk=>Yl st.z ?_;have I2:Inv X aa σ H1 {s1 with heap:=h'}:=I1.kept (t':=s1.toks) λb o e=>hk b o e;have lt:t<s1.heap.objs.size:=p1.lt;have ll:l<s1.heap.objs.size:=by obtain⟨o,e,_⟩:=p2.isList;exact As e
 have ne:∀{m n:Nat},m<n->m≠n:=λh=>Aw h;have D:Qv (s1.heap.objs.size+4) (s1.heap.objs.size+2) (s1.heap.objs.size+3) s1.heap.objs.size (s1.heap.objs.size+1) t l:=by
  have e:∀n:Nat,t≠s1.heap.objs.size+n:=λn=>ne (Ba lt (Da _ _));have e':∀n:Nat,l≠s1.heap.objs.size+n:=λn=>ne (Ba ll (Da _ _));refine#[?_,?_,?_,?_,?_,?_,?_,?_,?_,?_,e 4,e 3,e 0,e 1,e' 4,e' 3,e' 0,e' 1]<;>first|exact Aw ∅|exact Hw ∅
 refine#[s1.heap.objs.size+4,_,_,_,H1,rfl,I2,aNq D,st,λc hc=>?_,q];have hle:s1.heap.objs.size<=c:=by
  simp only[Ax,Cj,or_false]at hc;rcases hc with rfl|rfl|rfl|rfl|rfl
  ·exact Da _ _
  ·exact Da _ _
  ·exact Da _ _
  ·exact Am _
  ·exact Da _ _
 exact I1.fpOk hle (I1.hok.fresh hle)
def sqU(c:Bool)(l:List U):U:=match c with
 |true=> .tp l
 |false=> .ls l
def aU9{W B:Addr->Prop}{H:Hp}{K:Ac}{c:Bool}{a b:Addr}{l m:List U}{xs ys:List V}{o:HO}(hl:l.length<=m.length)(nb:¬B a)(ha:H a=some o)(hz:∀H',H' a=some o->SqZ K c H' a xs)(ds:DUs W B H l xs)(nb':¬B b)(hb:H b=some (.lst ys))(ds':DUs W B H m ys):WkU W B H (aWo K c a b) (aA2 l m):=by
 have e1:=ds.length;have e2:=ds'.length;have e3:(aA2 l m).length=l.length:=by simp[aA2];lia
 refine#[λt=>#[xs,ys,hz _ (t a _ nb ha).2,SqL.of (t b _ nb' hb).2,∅],λi t h=>#[xs,ys,xs[i]'∅,ys[i]'∅,hz _ (t a _ nb ha).2,SqL.of (t b _ nb' hb).2,Af _,Af _],λi x H' u e t h y=>?_];obtain⟨p,x',y',n,rfl,rfl,hx,hy⟩:=y;obtain⟨u1,hu1,d1⟩:=ds.getV (hx xs (hz _ (t a _ nb ha).2));obtain⟨u2,hu2,d2⟩:=ds'.getV (hy ys (SqL.of (t b _ nb' hb).2));rw[aZf hu1 hu2]at h;cases h;have f:=e.new (o:=.tup [x',y']) n;have k:=λb o n h=>e.keep f b o (t b o n h).1 (t b o n h).2;exact#[f,p,_,rfl,e.nw n,aL,_,_,rfl,DU.mono k u1 d1,_,_,rfl,DU.mono k u2 d2,rfl]
def bD0(c:Bool)(F:TVa):TVa:=λρ R=>F ρ λus=>∃l m,us=[sqU c l,.ls m]/\l.length<=m.length/\R (aA2 l m)
def aLx(c:Bool){X:Cx}{es:List Bu}{k:Nat}{pos':Pos}{a b:Bu}{F:TVa}{p pos:Pos}(hm:X.mg "zip"=none)(hi:VA X [a,b] F)(hgl:Gl X "zip":=by rfl)(hs1:Bz [a,b] X.env=[(false,eval a X.env),(false,eval b X.env)]:=by rfl)(hs2:Bz [b] X.env=[(false,eval b X.env)]:=by rfl):VI X (.Tuple es k pos') (.Call (.Name "zip" p) [a,b] [] pos) (bD0 c F):=by
 obtain⟨_,p,f⟩:=hi;refine#[_,aT6 (κ:=c) hgl hm p hs1 hs2,λ{W B _ _ _ _ _} e h q=>f e h λus vs H1 h1 _ w d=>?_];obtain⟨l,m,rfl,hl,h4⟩:=h1;obtain⟨x,_,e,d1,y,r,rfl,⟨b,ys,rfl,nb',hb,ds'⟩,d2⟩:=d;obtain rfl:r=[]:=d2;obtain⟨a,xs,o,rfl,nb,ha,hz,ds⟩:∃a xs o,x=.ref a/\¬B a/\H1 a=some o/\(∀H',H' a=some o->SqZ X.K c H' a xs)/\DUs W B H1 l xs:=by
  cases c
  ·exact let⟨a,xs,e,nb,ha,ds⟩:=d1;#[a,xs,_,e,nb,ha,λ_ h=>SqL.of h,ds]
  ·exact let⟨a,xs,e,nb,ha,ds⟩:=d1;#[a,xs,_,e,nb,ha,λ_ h=>SqT.of h,ds]
 exact#[a,b,e,#[xs,hz _ ha],#[ys,SqL.of hb],q _ _ _ h4 w (aU9 hl nb ha hz ds nb' hb ds')]
def ptO(q:Addr):Opq:=#[λ_ _ _ v=>v=.ref q,λ_ h=>h,λ_ h=>h]
def lqO(q:Addr)(l:List U):Own:=#[λW B S H p=>p=q/\(lsO l).φ W B S H p,λk e h=>#[h.1,(lsO l).mono k e h.2],λk h=>#[h.1,(lsO l).wm k h.2],λh=>(lsO l).th h.2]
def dwO(ns:List Str)(us:Addr->List U)(l:List U):Own:=⟨λW B S H p=>∃q,(∀b,S b↔b=p∨b=q)/\p≠q/\(dkO ns (us q)).φ W B (·=p) H p/\(lsO l).φ W B (·=q) H q,
 λk e ⟨q,s,n,a,b⟩=>#[q,s,n,(dkO ns (us q)).mono k (λx hx=>e x ((s x).mpr (.inl hx))) a,(lsO l).mono k (λx hx=>e x ((s x).mpr (.inr hx))) b],
 λk ⟨q,s,n,a,b⟩=>#[q,s,n,(dkO ns (us q)).wm k a,(lsO l).wm k b],
 λ⟨q,s,n,a,b⟩ x hx=>((s x).mp hx).elim ((dkO _ _).th a x) ((lsO l).th b x)⟩
def bB6(i:Nat)(G:TVS):TVS:=λE ρ=>∃l,ρ[i]? =some (.ow l)/\∀q,G E (ρ.set i (.oo (lqO q l)))
def bDu(i:Nat):TV:=λρ R=>∃q l,ρ[i]? =some (.oo (lqO q l))/\R (.sh (.op (ptO q)))
def aYq(i j:Nat)(G:TVS):TVS:=λE ρ=>∃q l ns us,ρ[i]? =some (.oo (dkO ns (us q)))/\ρ[j]? =some (.oo (lqO q l))/\G E ((ρ.set i (.oo (dwO ns us l))).set j .no)
def bB1(a:TV)(k:Str):TV:=λρ R=>a ρ λs=>∃ns us l,s=.bo (dwO ns us l)/\∀q,aDk k ns (us q) R
def bDx(i:Nat)(k:Str)(Fk Fv:TV):TVS:=λE ρ=>Fv ρ λs=>s.es λu=>∃ns us l,ρ[i]? =some (.oo (dwO ns us l))/\(∀q,aDk k ns (us q) (·=.sh (.op (ptO q))))/\Fk ρ λs'=>∃(e:Int)(n:Nat),s'.rd=.n e/\ixN l.length e=some n/\E.nx (ρ.set i (.oo (dwO ns us (l.set n u))))
def bDk(i n:Nat)(G:TVS):TVS:=λE ρ=>∃ns us l,ρ[i]? =some (.oo (dwO ns us l))/\(∀q,(us q)[n]? =some (.op (ptO q)))/\∃vs,(∀q,(us q).set n (.ls l)=vs)/\G E (ρ.set i (.sh (.dk ns vs)))
section
variable {W B:Addr->Prop}{H0 H:Hp}{A:Nat->Addr->Prop}{ρ:EV}{σ:St}
def EO.cv(o:EO W B H0 A ρ σ H){i:Nat}{s s':Sl}{w w':Own}(hi:ρ[i]? =some s)(hs:s.hold=some w)(hs':s'.hold=some w')(hb:s'.brd=false)(d:∀{p},σ[i]? =some (some (V.ref p))->w.φ W (Bx B A) (A i) H p->w'.φ W (Bx B A) (A i) H p):EO W B H0 A (ρ.set i s') σ H:=by
 refine#[o.eb,o.fw,by rw[Bn,o.len],o.an,o.aw,o.inj,λj u h=>?_,λj m v h hm=>?_,λj m h=>?_]
 ·rcases cB h with ⟨rfl,rfl,_⟩|⟨_,h⟩
  ·cases hs'
  ·exact o.sh j u h
 ·rcases cB h with ⟨rfl,rfl,_⟩|⟨_,h⟩
  ·rw[hs']at hm;cases hm;obtain⟨p,h1,h2⟩:=o.hd j s w hi hs;exact#[p,h1,d h1 h2]
  ·exact o.hd j m v h hm
 ·rcases cB h with ⟨rfl,rfl,_⟩|⟨_,h⟩
  ·exact hb
  ·exact o.nb j m h
def EO.join(o:EO W B H0 A ρ σ H){i j:Nat}{s:Sl}{w:Own}(ij:i≠j)(hg:σ[i]? =some (some (V.ref p)))(hs:s.hold=some w)(hb:s.brd=false)(d:w.φ W (Bx B A) (λb=>A i b∨A j b) H p):
  EO W B H0 (λk b=>(k=i/\(A i b∨A j b))∨(k≠i/\k≠j/\A k b)) ((ρ.set i s).set j .no) σ H:=by
 have bx:∀b y,¬Bx B A b->H b=some y->¬Bx B (λk b=>(k=i/\(A i b∨A j b))∨(k≠i/\k≠j/\A k b)) b/\H b=some y:=λb y n h=>#[λz=>n (z.elim .inl λ⟨k,z⟩=> .inr (z.elim (λz=>z.2.elim (λz=>#[i,z]) λz=>#[j,z]) λz=>#[k,z.2.2])),h];have own:∀{k b},(k=i/\(A i b∨A j b))∨(k≠i/\k≠j/\A k b)->∃k',A k' b/\(k'=k∨(k=i/\k'=j)):=λh=>h.elim (λ⟨e,h⟩=>h.elim (λh=>#[i,h,.inl e.symm]) λh=>#[j,h,.inr #[e,rfl]]) λh=>#[_,h.2.2,.inl rfl];have ge:∀{k s'},((ρ.set i s).set j .no)[k]? =some s'->(k=j/\s'=.no)∨(k≠j/\((k=i/\s'=s)∨(k≠i/\ρ[k]? =some s'))):=λh=>by
  rcases cB h with ⟨e,e',_⟩|⟨ne,h⟩
  ·exact .inl #[e,e']
  ·rcases cB h with ⟨e,e',_⟩|⟨n',h⟩
   ·exact .inr #[ne,.inl #[e,e']]
   ·exact .inr #[ne,.inr #[n',h]]
 refine#[o.eb,o.fw,by rw[Bn,Bn,o.len],λk b h=>let⟨k',h,_⟩:=own h;o.an k' b h,λk b h=>let⟨k',h,_⟩:=own h;o.aw k' b h,λk k' b h h'=>?_,λk u h=>?_,λk m v h hm=>?_,λk m h=>?_]
 ·rcases h with ⟨e,h⟩|⟨n,n',h⟩<;>rcases h' with ⟨e1,h'⟩|⟨n1,n1',h'⟩
  ·rw[e,e1]
  ·exact h.elim (λh=>Aa2 (o.inj _ _ b h' h) n1) λh=>Aa2 (o.inj _ _ b h' h) n1'
  ·exact h'.elim (λh'=>Aa2 (o.inj _ _ b h h') n) λh'=>Aa2 (o.inj _ _ b h h') n'
  ·exact o.inj k k' b h h'
 ·rcases ge h with ⟨_,e⟩|⟨_,⟨_,e⟩|⟨_,h⟩⟩
  ·cases e
  ·rw[<-e]at hs;cases hs
  ·obtain⟨v,h1,h2⟩:=o.sh k u h;exact#[v,h1,DU.mono bx u h2]
 ·rcases ge h with ⟨_,rfl⟩|⟨_,⟨rfl,rfl⟩|⟨ni,h⟩⟩
  ·cases hm
  ·rw[hs]at hm;cases hm;exact#[p,hg,w.at_ (w.mono bx (λ_ _=>rfl) d) λb=>#[λh=>h.elim (λh=>h.2) λh=>Aa2 rfl h.1,λh=> .inl #[rfl,h]]]
  ·rename_i nj;obtain⟨q,h1,h3⟩:=o.hd k m v h hm;exact#[q,h1,v.at_ (v.mono bx (λ_ _=>rfl) h3) λb=>#[λh=>h.elim (λh=>Aa2 h.1 ni) λh=>h.2.2,λh=> .inr #[ni,nj,h]]]
 ·rcases ge h with ⟨_,rfl⟩|⟨_,⟨_,rfl⟩|⟨_,h⟩⟩
  ·rfl
  ·exact hb
  ·exact o.nb k m h
def aZz{l vs:List U}(hn:∀q,(us q)[n]? =some (.op (ptO q)))(hv:∀q,(us q).set n (.ls l)=vs):∀{W B S:Addr->Prop}{H:Hp}{p:Addr},(∀b,S b->¬B b)->(dwO ns us l).φ W B S H p->DU W B H (.dk ns vs) (.ref p):=by
 rintro W B S H p nb ⟨q,s,pq,⟨_,xs,h1,h2,h3⟩,_,ys,h4,h5⟩;refine#[p,xs,rfl,nb p ((s p).mpr (.inl rfl)),h1,h2,?_];obtain⟨x,hx,e⟩:=h3.get (hn q);have e:x=.ref q:=e;subst e;have:=DUs.setN (u:=.ls l) (v:=.ref q) #[q,ys,rfl,nb q ((s q).mpr (.inr rfl)),h4,h5] n h3;rw[hv q]at this
 rwa [show xs.set n (.ref q)=xs from Iq λk=>by
  rw[Kv];split
  ·rename_i z;subst z;rw[hx,Aa1 (Be.mp hx).1]
  ·rfl]at this
end
def aSf{st:List Stmt}{G:TVS}(i:Nat)(h:VSs X st G):VSs X st (bB6 i G):=let⟨_,p,f⟩:=h;#[_,p,λo h j=>let⟨l,hi,h⟩:=h;let⟨q,_,g,_⟩:=o.ow i l hi;f (o.cv (s':=.oo (lqO q l)) hi rfl rfl rfl λg' d=>#[by rw[g]at g';cases g';rfl,d]) (h q) j]
def aNu{st:List Stmt}{G:TVS}(i j:Nat)(h:VSs X st G)(ij:i≠j:=by decide):VSs X st (aYq i j G):=by
 obtain⟨_,p,f⟩:=h;refine#[_,p,λ{W B H0 A ρ σ H E D} o h jj=>?_];obtain⟨q,l,ns,us,hi,hj,h⟩:=h;obtain⟨p,g1,d1⟩:=o.hd i _ _ hi rfl;obtain⟨_,g2,rfl,d2⟩:=o.hd j _ _ hj rfl;have s1:=d1.1;have s2:=d2.1;rename_i q;refine f (o.join (s:=.oo (dwO ns us l)) ij g1 rfl rfl #[q,λb=>#[λz=>z.imp (s1 b).mp (s2 b).mp,λz=>z.imp (s1 b).mpr (s2 b).mpr],λz=>ij (o.inj i j p ((s1 p).mpr rfl) ((s2 p).mpr z)),(dkO _ _).at_ d1 λb=>(s1 b).symm,(lsO l).at_ d2 λb=>(s2 b).symm]) h jj
def aY2(i:Nat){x:Str}{pos:Pos}(hN:X.N[i]? =some x:=by rfl)(hv:Vis X.env.scope x:=by trivial)(hd:ND x:=by decide)
  (hcd:NC x:=by decide):VE X (.Name x pos) (bDu i):=⟨_,fZ hN hv hd hcd,λ{W B ρ σ H R Q} e h q=>by
 obtain⟨a,l,hu,h⟩:=h;obtain⟨p,S,h1,h2,rfl,_⟩:=e.hd i _ _ hu rfl;exact#[_,h1,q _ _ _ h e.eb.refl rfl]⟩
def aLr{a:Bu}{k:Str}{j pos p}{F:TV}{m:Nat}(hr:cV m X.A)(ha:VE X a F)(hs:aFa (.Constant (.str k) j p):=by exactλ_ _=>rfl):VE X (.Subscript a (.Constant (.str k) j p) pos) (bB1 F k):=by
 obtain⟨_,p,f⟩:=ha;refine#[_,aBe (by have:=hr.un;lia) p tY hs,λ{W B ρ σ H R Q} e h q=>f e h λs v H1 h1 f1 r=>?_];obtain⟨ns,us,l,rfl,h1⟩:=h1;obtain⟨p,S,rfl,_,a,_,_,⟨_,xs,hp,_,ds⟩,_⟩:=r;obtain⟨u,v,h2,h3,h4⟩:=aBa ds (h1 a);exact#[p,v,rfl,by rw[<-h4];exact aBp.k (k:=Cm k) hp,q _ _ _ h2 f1 h3]
def aY5{x k:Str}{j pk}{i value:Bu}{pos pos' p' sp:Pos}{Fk Fv:TV}{m:Nat}(s:Nat)(hr:cV m X.A)(hk:VE X i Fk)(hv:VE X value Fv)(hN:X.N[s]? =some x:=by rfl)(hvs:Vis X.env.scope x:=by trivial)(hd:ND x:=by decide)
  (hcd:NC x:=by decide) (hs:swapsWithSole [.Subscript (.Subscript (.Name x p') (.Constant (.str k) j pk) sp) i pos'] value pos.line X.env=pure false:=by rfl) (hw:swappedStores [.Subscript (.Subscript (.Name x p') (.Constant (.str k) j pk) sp) i pos'] value X.env=pure none:=by rfl)
  (h1:(Ho [.Subscript (.Subscript (.Name x p') (.Constant (.str k) j pk) sp) i pos'] X.env).map (·.2)=[assign (.Subscript (.Subscript (.Name x p') (.Constant (.str k) j pk) sp) i pos') X.env]:=by rfl)
  (ha:∀v,assign (.Subscript (.Subscript (.Name x p') (.Constant (.str k) j pk) sp) i pos') X.env v=(do
   let ov<-holding [v] (eval (.Subscript (.Name x p') (.Constant (.str k) j pk) sp) X.env)
   let iv<-holding [v,ov] (eval i X.env)
   Mg pos'
   holding [v,ov,iv] (Zk ov iv v)
   release [v,ov,iv] []):=by intro _;rfl):VS X (.Assign [.Subscript (.Subscript (.Name x p') (.Constant (.str k) j pk) sp) i pos'] value pos) (bDx s k Fk Fv):=by
 obtain⟨_,p1,f1⟩:=hk
 obtain⟨_,p2,f2⟩:=hv
 refine#[_,aJ1 p2 (aJx (aBe (by have:=hr.un;lia) (fZ hN hvs hd hcd) tY (λ_ _=>rfl)) p1 set_list ha) hs hw h1,λ{W B H0 A ρ σ H E D} o h jj=>f2 o.ee h λsv v H1 h1 w1 r1=>?_]
 obtain⟨u,⟨ns,us,l,hi,hk,h1⟩,dv⟩:=r1.du o.ee.eb h1
 have o1:=o.to w1
 obtain⟨p,g1,q,gs,pq,⟨_,xs,g2,g3,g4⟩,_⟩:=o1.hd s _ _ hi rfl
 obtain⟨u',v',e,d',g5⟩:=aBa g4 (hk q)
 cases e
 obtain rfl:v'=.ref q:=d'
 refine#[_,g1,p,_,rfl,by rw[<-g5];exact aBp.k (k:=Cm k) g2,f1 o1.ee h1 λs' y H2 h2 w2 r2=>?_]
 obtain⟨e,n,ee,hn,h3⟩:=h2
 have d:=r2.db o1.ee.eb
 rw[ee]at d
 have o2:=o1.to w2
 have Aq:A s q:=(gs q).mpr (.inr rfl)
 obtain⟨p2,k1,q2,ks,kq,⟨kb,zs,k2,k3,k4⟩,kc,ys,k5,k6⟩:=o2.hd s _ _ hi rfl
 rw[g1]at k1
 cases k1
 have:q2=q:=by
  have:=(ks q).mp Aq
  rcases this with z|z
  ·exact Aa2 z.symm pq
  ·exact z.symm
 subst this
 have kk:∀{x:HO} b y,¬Bx B A b->H2 b=some y->¬Bx B A b/\upd H2 q2 x b=some y:=λb y n h=>#[n,(aJ (λz:b=q2=>n (by rw[z];exact .inr #[s,Aq]))).trans h]
 exact#[q2,ys,e,n,rfl,d.int,k5,by rw[<-k6.length];exact hn,jj.nx (o2.chg g1 Aq (s':=.oo (dwO ns us (l.set n u))) rfl rfl #[q2,ks,kq,#[kb,zs,(aJ kq).trans k2,k3,DUs.mono kk _ k4],kc,_,aL,DUs.mono kk _ (k6.setN (DU.mono (o1.ee.eb.keep w2) u dv) n)]) h3]
def aUw(F:List U->(Sl->Prop)->Prop)(a:TV)(b:TVa):TV:=λρ R=>a ρ λs=>match s with
 |.ow [.v (.int _),.v (.int _),.v (.int _)]=>b ρ λus=>F (.wl::us) λs=>(∃ns us l,s=.oo (dwO ns us l)/\(∀q,∀u∈us q,Wi u)/\∀u∈l,Wi u)/\R s
 |_=>False
def aNt{k:Nat}{x:Str}{ps:List Str}{F:List U->(Sl->Prop)->Prop}{a:Bu}{es:List Bu}{Fa:TV}{G:TVa}{p pos:Pos}(C:Cal X.prog X.w X.K X.mg X.base CX0 k x ps (spV F))(hr:cV k X.A)(hg:Gl X x)
  (ha:VE X a Fa) (hb:VA X es G) (hdb:ND x:=by decide) (he:SE X a es:=by rfl) (hpl:BT X pos es:=by rfl):
  VE X (.Call (.Name x p) (a::es) [] pos) (aUw F Fa G):=
 let⟨_,p,f⟩:=ha;let⟨_,p',f'⟩:=hb;⟨_,aXn C hr hg aCo (dW p p' he) hdb he hpl,λ{W B ρ σ H R Q} e h q=>f e h λs v H1 h1 f1 r1=>by
  match s,h1,r1 with
  |.ow [.v (.int x),.v (.int y),.v (.int z)],h1,⟨p,xs,e1,n1,g2,dd⟩=>
   obtain⟨x1,_,rfl,d1,x2,_,rfl,d2,x3,r3,rfl,d3,d4⟩:=dd;obtain rfl:r3=[]:=d4;rw[d1.1,d2.1,d3.1]at g2;have nw:¬W p:=λz=>e.eb.dm p (e.eb.wb p z) n1;refine f' (e.more f1 n1 g2 trivial) h1 λus vs H2 h2 _ f2 d=>?_;have g3:=f2.fr p _ nw g2;have e2:=((e.more f1 n1 g2 trivial).to f2).eb;refine#[λb=>W b∨b=p,λb=>B b∨b=p,.wl::us,_,#[e2.bl,λq hq=>hq.imp (e.eb.wb q) id,λq hq=>hq.elim (e2.wo q) λz=>by rw[z];exact#[_,_,_,g3]],(by rw[Bi];exact#[v,vs,rfl,#[p,e1,.inr rfl],DUs.wm (λ_=> .inl) us d]),h2,λs v H3 h3 f3 r3=>?_];have f4:Fw W H H3:=#[λb o w h=>f3.fr b o (λz=>z.elim w λy=>by rw[y,n1]at h;cases h) ((f1.trans f2).fr b o w h),λq hq=>f3.wo q (.inl hq)];have mo:∀{S:Addr->Prop} b o,¬((B b∨b=p)∨S b)->H3 b=some o->¬(B b∨S b)/\H3 b=some o:=λb o n h=>#[λz=>n (z.imp .inl id),h];refine q _ _ _ h3.2 f4 ?_;obtain⟨ns,us,l,rfl,hu,hl⟩:=h3.1;obtain⟨c,S,e3,m1,q',s',pq,⟨a1,xs,a2,a3,a4⟩,b1,ys,b2,b3⟩:=r3;exact#[c,S,e3,λb hb=>(f1.trans f2).none_ (m1 b hb),q',s',pq,#[a1,xs,a2,a3,DUs.mono mo _ (wis (hu q') a4)],b1,ys,b2,DUs.mono mo _ (wis hl b3)]⟩
def aZb{Ts:Tbs}{G:TVS}(n i:Nat)(h:VSw X Ts l G):VSw X Ts l (bDk i n G):=let⟨_,p,f⟩:=h;#[_,p,λtp sw hB hW h0 o h j=>let⟨_,_,_,hi,hn,_,hv,h⟩:=h;f tp sw hB hW h0 (o.frz hi rfl (aZz hn hv)) h j]
end L2
namespace KR
open PySem PyProof.Rows L2
inductive Tm where
 |num (n:Int)
 |take (b:Int) (ss:List Int)
 |rest (t:Tm) (y:Int)
 |cho (a b c:Tm)
 |bin (k:Fin 5) (a b:Tm)
abbrev Tk:Type:=Int×List Int
def opn(k:Fin 5):Str:=match k with|0=>"+"|1=>"-"|2=>"*"|3=>"min"|4=>"max"
structure Cn where
 num:Addr
 take:Addr
 rest:Addr
 cho:Addr
 bin:Fin 5->Addr
def cls(N:Cn):Tm->Addr
 |.num _=>N.num
 |.take _ _=>N.take
 |.rest _ _=>N.rest
 |.cho _ _ _=>N.cho
 |.bin k _ _=>N.bin k
def IsC(N:Cn)(C:Addr):Prop:=C=N.num∨C=N.take∨C=N.rest∨C=N.cho∨∃k,C=N.bin k
def isC(N:Cn):∀t:Tm,IsC N (cls N t)
 |.num _=> .inl rfl
 |.take _ _=> .inr (.inl rfl)
 |.rest _ _=> .inr (.inr (.inl rfl))
 |.cho _ _ _=> .inr (.inr (.inr (.inl rfl)))
 |.bin k _ _=> .inr (.inr (.inr (.inr #[k,rfl])))
def kids:Tm->List Tm
 |.num _=>[]
 |.take _ _=>[]
 |.rest t _=>[t]
 |.cho a b c=>[a,b,c]
 |.bin _ a b=>[a,b]
def ht:Tm->Nat
 |.num _=>1
 |.take _ _=>1
 |.rest t _=>ht t+1
 |.cho a b c=>max (ht a) (max (ht b) (ht c))+1
 |.bin _ a b=>max (ht a) (ht b)+1
def iJ:Tm->Nat
 |.num _=>1
 |.take _ _=>1
 |.rest t _=>1+iJ t
 |.cho a b c=>1+(iJ a+(iJ b+iJ c))
 |.bin _ a b=>1+(iJ a+iJ b)
def raw:Tm->List Tk
 |.num _=>[]
 |.take b ss=>[(b,ss)]
 |.rest t _=>raw t
 |.cho a b c=>raw a++(raw b++raw c)
 |.bin _ a b=>raw a++raw b
def tQ(t:Tm):0<ht t:=by cases t<;>exact Oj _
theorem aW9(h:k∈kids t):ht k<ht t:=by cases t<;>grind [kids,ht]
def aBb(t:Tm):(kids t).length<=3:=by cases t<;>simp[kids]
theorem aFt(h:k∈kids t)(x:Tk)(hx:x∈raw k):x∈raw t:=by cases t<;>grind [kids,raw]
def eF(t:Tm)(l:List Tk):Prop:=l.Pairwise (λx y=>aAt x y=true)/\∀x,x∈l↔x∈raw t
def aMn(h:aAt x y=true):aAt y x=false:=by
 unfold aAt at h⊢;by_cases e:x.1=y.1
 ·rw[Aa1 e]at h;rw[Aa1 e.symm];exact aEn _ _ h
 ·rw[Aa0 e,Aa7]at h;rw[Aa0 (Cq e),decide_eq_false_iff_not]
  lia
def aGk(x:Tk):Prop:=1<=x.1/\x.1<=3/\∀s∈x.2, -9<=s/\s<=9
def Wf:Tm->Prop
 |.num n=> -1000000000000<=n/\n<=1000000000000
 |.take _ _=>True
 |.rest t y=>1<=y/\y<=1000000000/\Wf t
 |.cho a b c=>Wf a/\Wf b/\Wf c
 |.bin _ a b=>Wf a/\Wf b
theorem aXa(h:k∈kids t)(w:Wf t):Wf k:=by cases t<;>grind [kids,Wf]
def aIs(t:Tm):Prop:=Wf t/\∀x∈raw t,aGk x/\1<=x.2.length/\x.2.length<=3
def aIs.kid(h:k∈kids t)(a:aIs t):aIs k:=#[aXa h a.1,λx hx=>a.2 x (aFt h x hx)]
end KR
namespace Q
variable {us:List Value}{ns:List Int}{osl:Array (#v[9])}{od an:Option Addr}{ps:List Str}{n:Nat}{ys:List Tk}{cc P1 P2:Addr}{ls:List (List Int)}{t:Tm}{p:List Int}{x q:Str}{l:List Tk}{g1 g2 g3 g4:FuncData}{k:Nat}{f1 f2 f3 f4:Addr}
open PySem PyProof.Rows L2
def top(i:Nat):Stmt:=PySem.Challenge.pw_slanttiles_k26_whole_turned_about.main.body.getD i (.Pass #[0,0,0,0])
abbrev vY:Stmt:=top 7
abbrev uE:Stmt:=top 8
abbrev bM:Stmt:=top 10
abbrev cD:Stmt:=top 11
abbrev mX:Stmt:=inClass (top 21) 0
abbrev gJ:Stmt:=inClass (top 21) 1
abbrev mY:Stmt:=inClass (top 21) 4
abbrev jT:Stmt:=inClass (top 21) 5
abbrev jU:Stmt:=inClass (top 21) 6
abbrev jP:Stmt:=inClass (top 22) 0
abbrev eU:Stmt:=inClass (top 22) 1
abbrev fM:Stmt:=inClass (top 22) 2
abbrev lW:Stmt:=inClass (top 23) 0
abbrev gH:Stmt:=inClass (top 23) 1
abbrev iV:Stmt:=inClass (top 23) 2
abbrev mW:Stmt:=inClass (top 23) 4
abbrev jQ:Stmt:=inClass (top 24) 0
abbrev jR:Stmt:=inClass (top 24) 1
abbrev gD:Stmt:=inClass (top 25) 0
abbrev eO:Stmt:=inClass (top 26) 0
abbrev dX:Stmt:=inClass (top 27) 0
abbrev gF:Stmt:=inClass (top 28) 0
abbrev iT:Stmt:=inClass (top 29) 0
abbrev lV:Stmt:=inClass (top 30) 0
abbrev mV:Stmt:=inClass (top 30) 1
abbrev gG:Stmt:=inClass (top 30) 2
abbrev iU:Stmt:=inClass (top 30) 3
abbrev jK:Stmt:=inClass (top 31) 0
abbrev jL:Stmt:=inClass (top 31) 1
abbrev fL:Stmt:=inClass (top 31) 2
abbrev oZ:Stmt:=top 32
abbrev rN:Stmt:=top 33
abbrev lB:Stmt:=top 34
abbrev rM:Stmt:=top 35
abbrev jN:Stmt:=inClass (top 40) 0
abbrev rF:Stmt:=inClass (top 40) 1
abbrev iR:Stmt:=inClass (top 40) 2
abbrev jO:Stmt:=inClass (top 40) 4
abbrev uB:Stmt:=inClass (top 40) 5
abbrev lU:Stmt:=inClass (top 40) 6
abbrev kW:Stmt:=inClass (top 40) 7
abbrev bB:Stmt:=inClass (top 40) 8
abbrev rK:Stmt:=top 41
abbrev xQ:Stmt:=top 42
abbrev aCt:Stmt:=top 45
abbrev lX:Stmt:=top 46
abbrev vZ:Stmt:=top 47
abbrev lR:Stmt:=inClass (top 52) 0
abbrev rE:Stmt:=inClass (top 52) 1
abbrev jA:Stmt:=inClass (top 52) 2
abbrev jM:Stmt:=inClass (top 52) 3
abbrev iB:Stmt:=inClass (top 52) 5
abbrev pP:Stmt:=inClass (top 52) 6
abbrev pR:Stmt:=top 53
abbrev zH:Stmt:=top 54
abbrev uF:Stmt:=top 55
abbrev oA:Stmt:=top 57
abbrev uD:Stmt:=top 58
abbrev uC:Stmt:=top 59
abbrev rJ:Stmt:=top 60
abbrev vX:Stmt:=top 61
abbrev mZ:Stmt:=top 62
abbrev fO:Stmt:=top 63
abbrev pQ:Stmt:=top 64
abbrev oY:Stmt:=top 65
abbrev oX:Stmt:=top 66
abbrev nC:Stmt:=top 67
abbrev jB:Stmt:=top 68
abbrev kZ:Stmt:=top 69
abbrev lA:Stmt:=top 70
abbrev rH:Stmt:=top 71
abbrev rG:Stmt:=top 72
abbrev dD:Stmt:=top 73
abbrev lK:Stmt:=top 74
abbrev cM:Stmt:=top 75
abbrev oE:Stmt:=top 76
structure Txt(mg:Str->#v[9]):Prop where
 isinstance:mg "isinstance"=none
 int:mg "int"=none
 bool:mg "bool"=none
 str:mg "str"=none
 tuple:mg "tuple"=none
 list:mg "list"=none
 len:mg "len"=none
 range:mg "range"=none
 enumerate:mg "enumerate"=none
 max:mg "max"=none
 min:mg "min"=none
 sorted:mg "sorted"=none
 sum:mg "sum"=none
 set:mg "set"=none
 all:mg "all"=none
 any:mg "any"=none
 zip:mg "zip"=none
 abs:mg "abs"=none
 dict:mg "dict"=none
 c_GREATEST_NUMBER:∃t,mg "GREATEST_NUMBER"=some (.int 1000000000000 t)
 c_GREATEST_DIVISOR:∃t,mg "GREATEST_DIVISOR"=some (.int 1000000000 t)
 c_GREATEST_BACK:∃t,mg "GREATEST_BACK"=some (.int 3 t)
 c_GREATEST_STEP:∃t,mg "GREATEST_STEP"=some (.int 9 t)
 c_MOST_STEPS:∃t,mg "MOST_STEPS"=some (.int 3 t)
 c_MOST_DEPTH:∃t,mg "MOST_DEPTH"=some (.int 12 t)
 c_MOST_PARTS:∃t,mg "MOST_PARTS"=some (.int 60 t)
 c_MOST_TAKES:∃t,mg "MOST_TAKES"=some (.int 6 t)
 c_GREATEST_MODULUS:∃t,mg "GREATEST_MODULUS"=some (.int 1000000000 t)
 c_MOST_ROUNDS:∃t,mg "MOST_ROUNDS"=some (.int 12 t)
 c_MOST_SPOTS:∃t,mg "MOST_SPOTS"=some (.int 120 t)
 c_GREATEST_FIXED:∃t,mg "GREATEST_FIXED"=some (.int 1000000000 t)
 c_MOST_LINES:∃t,mg "MOST_LINES"=some (.int 3 t)
 c_GREATEST_SIZE:∃t,mg "GREATEST_SIZE"=some (.int 9 t)
 c_MOST_PLACES:∃t,mg "MOST_PLACES"=some (.int 40 t)
variable {P:Aj}{w:Bd}{K:Ac}{mg:Str->#v[9]}{base:Heap}{f:Addr}{fd:FuncData}
abbrev Fv:=List U->(Sl->Prop)->Prop
def mir(s n:Int):Int:=if n % (2*s)<s then n % (2*s)else 2*s-1-n % (2*s)
def aZy:Fv:=λus R=>∃s n:Int,us=[.n s,.n n]/\0<s/\s<=1000/\R (.sh (.n (mir s n)))
def aAi:aK ["size","number","along"] ["size","number"] (aC vZ):={}
def aQn(F:Fun K "mirrored" "mirrored" vZ f fd):↥1 f fd ["size","number"] (spV aZy):=by
 refine vfn F aAi (λaf A outer s H E hr=>(aG (aR (i:=2) aAi.nd (aW nY lQ (aA 1) (aW jJ lQ aH (aA 0)))) (aG (bT (bH aLc cU (aA 2) (aA 0)) (aF (gP 2)) aU) (aF (aN (aW fY cU (aW fY cU (aW jJ lQ aH (aA 0)) aH) (aA 2))))))) ?_;rintro _ R ⟨s,n,rfl,h1,h2,q⟩;unfold mir at q;refine#[rfl,?_];refine#[.inl (by constructor<;>decide),by show 0<2*s;lia,?_];refine#[λh=>?_,λh=>?_]
 ·rw[Aa1 (Aa3 h)]at q;exact q
 ·rw[Aa0 (Aa4 h)]at q;exact#[.inl (by constructor<;>decide),q]
def bCy:U->Bool
 |.v (.int _)=>true
 |_=>false
def aPf:Fv:=λus R=>∃u t,us=[u]/\tyU u=some t/\R (.sh (.b (bCy u)))
def aHy:aK ["thing"] ["thing"] (aC vY):={}
def aQv(F:Fun K "is_whole" "is_whole" vY f fd)(T:Txt mg):↥1 f fd ["thing"] (spV aPf):=by
 refine vfn F aHy (λaf A outer s H E hr=>(aF (aN (aGb (rZ .int nofun T.isinstance T.int boot_int (aA 0)) (aGe (aY1 (rZ .bl nofun T.isinstance T.bool boot_bool (aA 0)))))))) ?_;rintro _ R ⟨u,t,rfl,ht,q⟩;unfold tyU at ht;split at ht<;>cases ht<;>first|exact#[rfl,_,rfl,λ_=>#[_,rfl,q],nofun]|exact#[rfl,_,rfl,nofun,λ_=>q]
def isIn(u:U)(a b:Int):Bool:=match u with
 |.v (.int i)=>decide (a<=i) && decide (i<=b)
 |_=>false
def jH:Fv:=λus R=>∃u t a b,us=[u,.n a,.n b]/\tyU u=some t/\R (.sh (.b (isIn u a b)))
def aF3:aK ["thing","least","most"] ["thing","least","most"] (aC uE):={}
def aM8(F:Fun K "is_within" "is_within" uE f fd)(aI0:⇑1 "is_whole" ["thing"] (spV aPf)):↥2 f fd ["thing","least","most"] (spV jH):=by
 refine vfn F aF3 (λaf A outer s H E hr=>(aF (aN (aGb (aM aI0 (hr.mono ⋯) rfl (aB (aA 0) aD)) (aGe (aR7 aAe aAe cU cU (aA 1) (aA 0) (aA 2))))))) ?_;rintro _ R ⟨u,t,a,b,rfl,ht,q⟩;refine#[rfl,u,t,rfl,ht,?_];match u,q with
 |.v (.int i),q=>exact#[λ_=>#[λh=>by simp only[isIn,h,Xn]at q;exact q,λh=>by simp only[isIn,h,Kk]at q;exact q],nofun]
 |.v .non,q=>exact#[nofun,λ_=>q]
 |.v (.bl _),q=>exact#[nofun,λ_=>q]
 |.v (.str _),q=>exact#[nofun,λ_=>q]
 |.tp _,q=>exact#[nofun,λ_=>q]
 |.ls _,q=>exact#[nofun,λ_=>q]
 |.dk _ _,q=>exact#[nofun,λ_=>q]
inductive Rim where
 |fixed (v:Int)
 |mirror
 |round
def Rim.u:Rim->U
 |.fixed v=> .tp [.s "fixed",.n v]
 |.mirror=> .tp [.s "mirror"]
 |.round=> .tp [.s "round"]
def Rim.ok:Rim->Prop
 |.fixed v=>0<=v/\v<=1000000000
 |_=>True
def aO5:Fv:=λus R=>∃r:Rim,us=[r.u]/\r.ok/\R (.sh (.b true))
abbrev PW3:List Str:=["thing","least","most"]
def aNf:aK ["thing"] ["thing"] (aC aCt):={}
def aQh(F:Fun K "is_rim" "is_rim" aCt f fd)(c_is_within:⇑2 "is_within" PW3 (spV jH))(T:Txt mg):↥3 f fd ["thing"] (spV aO5):=by
 obtain⟨_,g_GREATEST_FIXED⟩:=T.c_GREATEST_FIXED;refine vfn F aNf (λaf A outer s H E hr=>(aG (bT (yD (yC (jC (gB (rZ .tp nofun T.isinstance T.tuple Lv (aA 0)))) (sG (bH (cH (huD hr)) cY (bR bF fV T.len Gk (aP (aA 0) aY)) aH)))) (aF (aN aC6)) aU) (aG (bT (jC (gB (rZ .str nofun T.isinstance T.str boot_str (bA aQ aZ (aA 0) aH)))) (aF (aN aC6)) aU) (aG (bT #v[e] (aF (aN (aGb (zU (cH (huD hr)) cY (bR bF fV T.len Gk (aP (aA 0) aY)) aH) (aGe (aM c_is_within (hr.mono ⋯) rfl (aB (bA aQ aZ (aA 0) aH) (aB aH (aB (eE g_GREATEST_FIXED) aD)))))))) aU) (aF (aN (aGb (zU (cH (huD hr)) cY (bR bF fV T.len Gk (aP (aA 0) aY)) aH) (aGe (zU (aXj (huD hr)) aV7 (bA aQ aZ (aA 0) aH) (bV (aB bI (aB bI aD)))))))))))) ?_;rintro _ R ⟨r,rfl,ok,q⟩;match r,ok with
 |.fixed v,ok=>
  refine#[rfl,_,rfl,nofun,λ_=>#[trivial,trivial,nofun,λ_=>?_]];refine#[_,rfl,_,rfl,nofun,λ_=>?_];refine#[_,rfl,trivial,trivial,λ_=>?_,λh=>Aa2 h #v[1]];refine#[trivial,trivial,λ_=>#[_,rfl,_,_,_,_,rfl,rfl,?_],nofun];simp only[isIn,ok.1,ok.2,decide_true,Xn];exact q
 |.mirror,_=>
  refine#[rfl,_,rfl,nofun,λ_=>#[trivial,trivial,nofun,λ_=>?_]];refine#[_,rfl,_,rfl,nofun,λ_=>?_];refine#[_,rfl,trivial,trivial,λh=>Aa2 h #v[1],λ_=>?_];refine#[trivial,trivial,λ_=>#[_,rfl,trivial,#[trivial,trivial,trivial],?_],λh=>Aa2 h #v[1]];exact Rbl q #v[1]
 |.round,_=>
  refine#[rfl,_,rfl,nofun,λ_=>#[trivial,trivial,nofun,λ_=>?_]];refine#[_,rfl,_,rfl,nofun,λ_=>?_];refine#[_,rfl,trivial,trivial,λh=>Aa2 h #v[1],λ_=>?_];refine#[trivial,trivial,λ_=>#[_,rfl,trivial,#[trivial,trivial,trivial],?_],λh=>Aa2 h #v[1]];exact Rbl q #v[1]
def dC(ns:List Int):Int:=ns.foldl (λa n=>a*n) 1
structure jD(ns:List Int):Prop where
 ok:∀n∈ns,1<=n/\n<=9
 l1:1<=ns.length
 l3:ns.length<=3
 mn:dC ns<=40
def aPa:Fv:=λus R=>∃ns:List Int,us=[.ls (ns.map U.n)]/\(∀n∈ns,1<=n/\n<=9)/\ns.length<=3/\R (.sh (.n (dC ns)))
def rR:aK ["sizes","many","size"] ["sizes"] (aC zH):={}
def aTh(F:Fun K "product" "product" zH f fd):↥1 f fd ["sizes"] (spV aPa):=by
 refine vfn F rR (λaf A outer s H E hr=>(aG (aR (i:=1) rR.nd aH) (aG (fH Bw rfl (bY (aA 0)) (fQ (i:=2) rR.nd) (aF (aR (i:=1) rR.nd (aW jJ lQ (aA 1) (aA 2))))) (aF (gP 1))))) ?_;rintro _ R ⟨ns,rfl,ok,_,q⟩;refine#[rfl,?_];refine cL (λl ρ=>∃(ms:List Int)(a:Int)(x y:Sl),l=ms.map U.n/\ρ=[x,.sh (.n a),y]/\(∀n∈ms,1<=n/\n<=9)/\R (.sh (.n (ms.foldl (λa n=>a*n) a)))) ?_ ?_ #[ns,1,_,_,rfl,rfl,ok,q]
 ·rintro ρ ⟨ms,a,x,y,e,rfl,_,q⟩;obtain rfl:=Bo.mp e.symm;exact q
 ·rintro u r ρ ⟨ms,a,x,y,e,rfl,h,q⟩ ih;obtain⟨n,ms,rfl,rfl,rfl⟩:=Jk.mp e.symm;have hn:=h n Ag;exact#[.inr #[∅,∅],ih _ #[ms,_,_,_,rfl,rfl,λm hm=>h m (Ah _ hm),q]]
def grU(C:Addr)(ns:List Int)(rs:List Rim):U:=.ob C ["sizes","rims"] [.ls (ns.map U.n),.ls (rs.map Rim.u)]
def aO4:Fv:=λus R=>∃(ns:List Int)(rs:List Rim),us=[.ls (ns.map U.n),.ls (rs.map Rim.u)]/\(∀n∈ns,1<=n/\n<=9)/\1<=ns.length/\ns.length<=3/\rs.length=ns.length/\(∀r∈rs,r.ok)/\R (.sh .no)
def oG:aK ["sizes","rims","line","rim"] ["sizes","rims"] (aC pR):={}
def aQe(F:Fun K "check_lines" "check_lines" pR f fd)(c_is_within:⇑2 "is_within" PW3 (spV jH))(aOm:⇑3 "is_rim" ["thing"] (spV aO5))(T:Txt mg):↥4 f fd ["sizes","rims"] (spV aO4):=by
 obtain⟨_,g_MOST_LINES⟩:=T.c_MOST_LINES;obtain⟨_,g_GREATEST_SIZE⟩:=T.c_GREATEST_SIZE;refine vfn F oG (λaf A outer s H E hr=>(aG (bT (yD (yC (jC (aC5 aAe aAe cU cU aH (bR bF fV T.len Gk (aP (aA 0) aY)) (eE g_MOST_LINES))) (sG (bH (yZ (huD hr)) cY (bR bF fV T.len Gk (aP (aA 1) aY)) (bR bF fV T.len Gk (aP (aA 0) aY)))))) (aF lN) aU) (aF (fH Bw rfl (aLw T.enumerate (aB (aA 1) aD)) (aC7 rfl (iM (i:=2) oG.nd (iM (i:=3) oG.nd xZ))) (aF (bT (yD (yC (jC (gB (aM c_is_within (hr.mono ⋯) rfl (aB (bA aQ aZ (aA 0) (aA 2)) (aB aH (aB (eE g_GREATEST_SIZE) aD)))))) (sG (jC (gB (aM aOm (hr.mono ⋯) rfl (aB (aA 3) aD))))))) (aF lN) aU)))))) ?_;rintro _ R ⟨ns,rs,rfl,ok,l1,l3,el,rk,q⟩;refine#[rfl,?_];have e1:(ns.map U.n).length=ns.length:=Ab ..;have e2:(rs.map Rim.u).length=ns.length:=by rw[Ab,el]
 refine#[λ_=>#[λh=>?_,λ_=>#[trivial,trivial,λh=>?_,λ_=>?_]],λh=>?_]
 ·simp at h;lia
 ·simp only[U.eq,U.d,D.eq,eqV,Sl.rd]at h;simp[el]at h
 ·refine cL (λl ρ=>∃(k:Nat)(ss:List Rim)(x y:Sl),l=(ss.map Rim.u |>.zipIdx k).map (λx=> .tp [.n (x.2:Nat),x.1])/\ρ=[.sh (.ls (ns.map U.n)),.sh (.ls (rs.map Rim.u)),x,y]/\k+ss.length=ns.length/\∀r∈ss,r.ok) ?_ ?_ #[0,rs,_,_,rfl,rfl,∅,rk]
  ·rintro ρ ⟨k,ss,x,y,e,rfl,_⟩;exact q
  ·rintro u r ρ ⟨k,ss,x,y,e,rfl,hk,ho⟩ ih;match ss,e,hk,ho with
   |s::ss,e,hk,ho=>
    cases e;have hl:k<ns.length:=by rw[An]at hk;lia
    have hn:=ok _ (Gc hl);refine#[rfl,U.n ns[k],iQ (by rw[Ap,Af hl];rfl),_,_,_,_,rfl,rfl,?_];refine#[λh=>?_,λ_=>#[s,rfl,ho s Ag,nofun,λ_=>ih _ #[k+1,ss,_,_,rfl,rfl,by rw[An]at hk;lia,λr hr=>ho r (Ah _ hr)]]];simp[isIn,hn.1,hn.2]at h
 ·simp at h;lia
def aO7(C:Addr):Fv:=λus R=>∃ns rs,us=[grU C ns rs]/\R (.sh (.n ns.length))
def aDl:aK ["self"] ["self"] (aC rE):={}
def aQm(F:Fun K "lines" "Grid.lines" rE f fd)(cG:Cfl K C ["sizes","rims"])(T:Txt mg):↥1 f fd ["self"] (spV (aO7 C)):=by
 refine vfn F aDl (λaf A outer s H E hr=>(aF (aN (bR bF fV T.len Gk (aP (bD cG (aA 0)) aY))))) ?_;rintro _ R ⟨ns,rs,rfl,q⟩;refine#[rfl,rfl,.inl #[rfl,?_]];rw[<-Ab (f:=U.n)]at q;exact q
def aVy(C:Addr):Fv:=λus R=>∃ns rs,us=[grU C ns rs]/\jD ns/\R (.sh (.n (dC ns)))
def uW:aK ["self"] ["self"] (aC jA):={}
def aTe(F:Fun K "places_many" "Grid.places_many" jA f fd)(cG:Cfl K C ["sizes","rims"])(yK:⇑1 "product" ["sizes"] (spV aPa)):↥2 f fd ["self"] (spV (aVy C)):=by
 refine vfn F uW (λaf A outer s H E hr=>(aF (aN (aM yK (hr.mono ⋯) rfl (aB (bD cG (aA 0)) aD))))) ?_;rintro _ R ⟨ns,rs,rfl,g,q⟩;exact#[rfl,rfl,.inl #[rfl,ns,rfl,g.ok,g.l3,q]]
open PySem PyProof.Rows L2 KR
def enc(N:Cn):Tm->U
 |.num n=> .ob N.num ["value"] [.n n]
 |.take b ss=> .ob N.take ["back","steps"] [.n b,.tp (ss.map U.n)]
 |.rest t y=> .ob N.rest ["one","by"] [enc N t,.n y]
 |.cho a b c=> .ob N.cho ["test","one","other"] [enc N a,enc N b,enc N c]
 |.bin k a b=> .ob (N.bin k) ["one","other"] [enc N a,enc N b]
def bW{N:Cn}{m:Str}{F:Addr->Fv}{G:TVa}{ρ:EV}{R:Sl->Prop}(t:Tm)(h1:(["value","back","steps","one","by","test","other"]:List Str).elem m=false)(h:G ρ λvs=>F (cls N t) (enc N t::vs) R):mOb (IsC N) m F G ρ R (enc N t):=by
 have hc:=isC N t;have k:∀ns:List Str,(∀x∈ns,x∈(["value","back","steps","one","by","test","other"]:List Str))->ns.elem m=false:=λns hn=>by
  cases q:ns.elem m with
  |false=>rfl
  |true=>
   have:=hn m (Xg.mp q);rw[Xg.mpr this]at h1;cases h1
 cases t with
 |num n=>exact#[hc,k _ (by simp),h]
 |take b ss=>exact#[hc,k _ (by simp),h]
 |rest t y=>exact#[hc,k _ (by simp),h]
 |cho a b c=>exact#[hc,k _ (by simp),h]
 |bin j a b=>exact#[hc,k _ (by simp),h]
def jG(N:Cn)(C:Addr):Fv:=λus R=>∃t,us=[enc N t]/\cls N t=C/\R (.ow ((kids t).map (enc N)))
variable {f C:Addr}{N:Cn}
def aDp:aK ["self"] ["self"] (aC mX):={}
def aEs(F:Fun K "inner" "Term.inner" mX f fd)(hC:∀t,cls N t=C->kids t=[]):↥1 f fd ["self"] (spV (jG N C)):=by
 refine vfn F aDp (λaf A outer s H E hr=>(aF (aN (cR aD)))) ?_;rintro _ R ⟨t,rfl,e,q⟩;rw[hC t e]at q;exact#[rfl,q]
def aAy:aK ["self"] ["self"] (aC jR):={}
def aMz{k:Fin 5}(F:Fun K "inner" "Paired.inner" jR f fd)(cP:Cfl K (N.bin k) ["one","other"])(hC:∀t,cls N t=N.bin k->∃a b,t=.bin k a b):↥1 f fd ["self"] (spV (jG N (N.bin k))):=by
 refine vfn F aAy (λaf A outer s H E hr=>(aF (aN (cR (aB (bD cP (aA 0)) (aB (bD cP (aA 0)) aD)))))) ?_;rintro _ R ⟨t,rfl,e,q⟩;obtain⟨a,b,rfl⟩:=hC t e;exact#[rfl,rfl,.inl #[rfl,rfl,.inr #[by decide+kernel,.inl #[rfl,q]]]]
def aDm:aK ["self"] ["self"] (aC mV):={}
def aM2(F:Fun K "inner" "Rest.inner" mV f fd)(cP:Cfl K N.rest ["one","by"])(hC:∀t,cls N t=N.rest->∃a y,t=.rest a y):↥1 f fd ["self"] (spV (jG N N.rest)):=by
 refine vfn F aDm (λaf A outer s H E hr=>(aF (aN (cR (aB (bD cP (aA 0)) aD))))) ?_;rintro _ R ⟨t,rfl,e,q⟩;obtain⟨a,b,rfl⟩:=hC t e;exact#[rfl,rfl,.inl #[rfl,q]]
def aAv:aK ["self"] ["self"] (aC jL):={}
def aMv(F:Fun K "inner" "Chosen.inner" jL f fd)(cP:Cfl K N.cho ["test","one","other"])(hC:∀t,cls N t=N.cho->∃a b c,t=.cho a b c):↥1 f fd ["self"] (spV (jG N N.cho)):=by
 refine vfn F aAv (λaf A outer s H E hr=>(aF (aN (cR (aB (bD cP (aA 0)) (aB (bD cP (aA 0)) (aB (bD cP (aA 0)) aD))))))) ?_;rintro _ R ⟨t,rfl,e,q⟩;obtain⟨a,b,c,rfl⟩:=hC t e;exact#[rfl,rfl,.inl #[rfl,rfl,.inr #[by decide+kernel,.inl #[rfl,rfl,.inr #[by decide+kernel,.inr #[by decide+kernel,.inl #[rfl,q]]]]]]]
def yX(h:l.Pairwise λx y=>aAt x y=true):l.Nodup:=h.imp λ{x y} h z=>by
 subst z;rw[aMn h]at h;cases h
def Few(t:Tm):Prop:=∃ks:List Tk,ks.length<=4/\∀x∈raw t,x∈ks
def pB(f:Few t)(h:eF t l):l.length<=4:=by
 obtain⟨ks,kl,km⟩:=f;have:=(yX h.1).length_le_of_subset (l₂:=ks) λx hx=>km x ((h.2 x).mp hx)
 lia
theorem aCs(h:∀b ss,t≠.take b ss)(x:Tk):x∈raw t↔ ∃k∈kids t,x∈raw k:=by cases t<;>simp[raw,kids]<;>grind
def rA(t:Tm)(h:ht t<=d+1):∀k∈kids t,ht k<=d:=λk hk=>by have:=aW9 hk;lia
def tM(N:Cn)(d:Nat)(C:Addr):Fv:=λus R=>∃t,us=[enc N t]/\cls N t=C/\ht t<=d/\Few t/\∀ys,eF t ys->R (.ow (ys.map tkU))
abbrev lO(P:Aj)(w:Bd)(K:Ac)(mg:Str->#v[9])(base:Heap)(N:Cn)(k:Nat)(m:Str)(F:Addr->Fv):Prop:=Dis P w K mg base CX0 k (IsC N) m ["self"] λC=>spV (F C)
variable {d:Nat}
def pW:aK ["self","pairs","part"] ["self"] (aC mY):={}
def aM7(F:Fun K "takes" "Term.takes" mY f fd)(hC:∀t,cls N t=C->∀b ss,t≠.take b ss)(dF:lO P w K mg base N 1 "inner" (jG N))(qU:lO P w K mg base N (d+1) "takes" (tM N d))(T:Txt mg):↥(d+2) f fd ["self"] (spV (tM N (d+1) C)):=by
 refine vfn F pW (λaf A outer s H E hr=>(aG (aR (i:=1) pW.nd (cR aD)) (aG (fH Bw rfl (bY (bZ (aA 0) dF (hr.mono ∅))) (fQ (i:=2) pW.nd) (aF (aSe 1 (bZ (aA 2) qU (hr.mono ∅))))) (aF (aN (aLt hr rfl T.sorted T.set (aP (aA 1) aY))))))) ?_;rintro _ R ⟨t,rfl,e,hd,fw,q⟩;refine#[rfl,bW t #v[1] #[t,rfl,rfl,?_]];refine cL (λl ρ=>∃(ks js:List Tm)(ps:List Tk)(x:Sl),l=ks.map (enc N)/\js++ks=kids t/\ρ=[.sh (enc N t),.ow (ps.map tkU),x]/\ps.length<=17*js.length/\∀y,y∈ps↔ ∃k∈js,y∈raw k) ?_ ?_ #[kids t,[],[],_,rfl,rfl,rfl,Am _,by simp]
 ·rintro ρ ⟨ks,js,ps,x,el,ej,rfl,pl,pm⟩;obtain rfl:=Bo.mp el.symm;rw[Bi]at ej;subst ej;have kl:=aBb t;have rk:=aCs (hC t e);exact#[ps,rfl,∅,(let⟨zs,zl,zm⟩:=fw;#[zs,zl,λy hy=>zm y ((rk y).mpr ((pm y).mp hy))]),λys pw ym=>q ys #[pw,λy=>(ym y).trans ((pm y).trans (rk y).symm)]]
 ·rintro u r ρ ⟨ks,js,ps,x,el,ej,rfl,pl,pm⟩ ih;obtain⟨k,ks,rfl,rfl,rfl⟩:=Jk.mp el.symm;have hk:k∈kids t:=by rw[<-ej];simp
  have fk:Few k:=let⟨zs,zl,zm⟩:=fw;#[zs,zl,λy hy=>zm y (aFt hk y hy)];refine bW k #v[1] #[k,rfl,rfl,rA t hd k hk,fk,λys ik=>?_];have yl:=pB fk ik;have kl:=aBb t;have jl:js.length+(ks.length+1)<=3:=by rw[<-ej,Ak,An]at kl;exact kl
  refine#[by rw[Ab,Ab];lia,ih _ #[ks,js++[k],ps++ys,_,rfl,by rw[Bm];exact ej,by rw[Cc];rfl,by rw[Ak,Ak];show _<=17*(js.length+1);lia,λy=>?_]];rw[Cb,pm y,ik.2 y];constructor
  ·rintro(⟨j,hj,hy⟩|hy)
   ·exact#[j,Bq _ hj,hy]
   ·exact#[k,by simp,hy]
  ·rintro⟨j,hj,hy⟩;rcases Cb.mp hj with hj|hj
   ·exact .inl #[j,hj,hy]
   ·rw[Bf.mp hj]at hy;exact .inr hy
def aDn:aK ["self"] ["self"] (aC mW):={}
def aMx(F:Fun K "takes" "Take.takes" mW f fd)(cK:Cfl K N.take ["back","steps"])(hC:∀t,cls N t=N.take->∃b ss,t=.take b ss):↥(d+2) f fd ["self"] (spV (tM N (d+1) N.take)):=by
 refine vfn F aDn (λaf A outer s H E hr=>(aF (aN (cR (aB (bV (aB (bD cK (aA 0)) (aB (bD cK (aA 0)) aD))) aD))))) ?_;rintro _ R ⟨t,rfl,e,hd,fw,q⟩;obtain⟨b,ss,rfl⟩:=hC t e;exact#[rfl,rfl,.inl #[rfl,rfl,.inr #[by decide+kernel,.inl #[rfl,q [(b,ss)] #[Dm ..,λ_=>Lj]]]]]
def aG7(N:Cn)(g:Tm->Nat)(d:Nat)(C:Addr):Fv:=λus R=>∃t,us=[enc N t]/\cls N t=C/\ht t<=d/\iJ t<=200/\R (.sh (.n (g t)))
theorem aCr{t k:Tm}(h:k∈kids t):iJ k<=iJ t:=by cases t<;>grind [kids,iJ]
def aPs(t:Tm):∀m:Int,(kids t=[]/\m=0)∨(m∈(kids t).map (λk=>(ht k:Int))/\∀a∈(kids t).map (λk=>(ht k:Int)),a<=m)->1+m=(ht t:Int):=by
 intro m h;cases t with
 |num n=>rcases h with ⟨_,h⟩|⟨h,_⟩<;>simp[kids,ht]at h⊢;lia
 |take b ss=>rcases h with ⟨_,h⟩|⟨h,_⟩<;>simp[kids,ht]at h⊢;lia
 |rest t y=>rcases h with ⟨h,_⟩|⟨h,_⟩<;>simp[kids,ht]at h⊢;lia
 |cho a b c=>rcases h with ⟨h,_⟩|⟨h,g⟩<;>simp[kids,ht]at h⊢;simp[kids]at g;lia
 |bin k a b=>rcases h with ⟨h,_⟩|⟨h,g⟩<;>simp[kids,ht]at h⊢;simp[kids]at g;lia
def aRa(t:Tm):1+((kids t).map (λk=>(iJ k:Int))).sum=(iJ t:Int):=by
 cases t<;>simp[kids,iJ]<;>lia
def ints_map{g:Tm->Nat}(ks:List Tm):ks.map (λk=>U.n (g k))=(ks.map λk=>(g k:Int)).map U.n:=by rw[Ce];rfl
def aHf{g:Tm->Nat}{h:U->(Option U->Prop)->Prop}{R:List U->Prop}(hf:∀k∈kids t,∀c:Option U->Prop,c (some (.n (g k)))->h (enc N k) c)(q:R (((kids t).map λk=>(g k:Int)).map U.n)):mJ h ((kids t).map (enc N)) [] R:=by
 rw[<-ints_map]at q;revert hf q;generalize kids t=ks;have key:∀(ks:List Tm)(ag:List U),(∀k∈ks,∀c:Option U->Prop,c (some (.n (g k)))->h (enc N k) c)->R (ag++ks.map λk=>U.n (g k))->mJ h (ks.map (enc N)) ag R:=by
  intro ks;induction ks with
  |nil=>exactλag _ q=>by rw[Fq,Bi]at q;exact q
  |cons k ks ih=>exactλag hf q=>hf k Ag _ (ih _ (λj hj=>hf j (Ah _ hj)) (by rw[Bm];exact q))
 exactλhf q=>key ks [] hf q
abbrev aE6:List Str:=["self"]
def aDo:aK ["self"] ["self"] (aC jT):={}
def aM5(F:Fun K "depth" "Term.depth" jT f fd)(dF:lO P w K mg base N 1 "inner" (jG N))(aE1:lO P w K mg base N (d+1) "depth" (aG7 N ht d))(T:Txt mg):↥(d+2) f fd ["self"] (spV (aG7 N ht (d+1) C)):=by
 refine vfn F aDo (λaf A outer s H E hr=>(aF (aN (aW bN cC aH (aGd rfl T.max (aP (iK (own:=["part"]) (cap:=[]) (aC jT) aE6 rfl rfl (λx h=>bO h) #v[1] rfl (vic (bY (bZ (aA 0) dF (hr.mono ∅)))) ↑(bU (i:=0) (~~~["part"]) rfl (Dy rfl) (Ew rfl)) (cO ⋯) ↑(bZ (aA 0) aE1 (hr.mono ∅))) aY) aH))))) ?_;rintro _ R ⟨t,rfl,e,hd,hp,q⟩;refine#[rfl,bW t #v[1] #[t,rfl,rfl,?_]];refine#[by have:=aBb t;rw[Ab];lia,aHf (g:=ht) (λk hk c hc=>bW k #v[1] #[k,rfl,rfl,rA t hd k hk,by have:=aCr hk;lia,hc]) ?_];refine#[_,rfl,λh=>?_,λm hm ha=>?_]
 ·have:=aPs t 0 (.inl #[Bo.mp h,rfl]);rw[<-this]at q;exact q
 ·have:=aPs t m (.inr #[hm,ha]);rw[<-this]at q;exact q
abbrev aE7:List Str:=["self"]
def aDq:aK ["self"] ["self"] (aC jU):={}
def aM6(F:Fun K "parts" "Term.parts" jU f fd)(dF:lO P w K mg base N 1 "inner" (jG N))(aE2:lO P w K mg base N (d+1) "parts" (aG7 N iJ d))(T:Txt mg):↥(d+2) f fd ["self"] (spV (aG7 N iJ (d+1) C)):=by
 refine vfn F aDq (λaf A outer s H E hr=>(aF (aN (aW bN cC aH (bR (aOq rfl) aWv T.sum boot_sum (aP (iK (own:=["part"]) (cap:=[]) (aC jU) aE7 rfl rfl (λx h=>bO h) #v[1] rfl (vic (bY (bZ (aA 0) dF (hr.mono ∅)))) ↑(bU (i:=0) (~~~["part"]) rfl (Dy rfl) (Ew rfl)) (cO ⋯) ↑(bZ (aA 0) aE2 (hr.mono ∅))) aY)))))) ?_;rintro _ R ⟨t,rfl,e,hd,hp,q⟩;have kl:=aBb t;refine#[rfl,bW t #v[1] #[t,rfl,rfl,?_]];refine#[by rw[Ab];lia,aHf (g:=iJ) (λk hk c hc=>bW k #v[1] #[k,rfl,rfl,rA t hd k hk,by have:=aCr hk;lia,hc]) ?_];refine#[_,rfl,by rw[Ab];lia,λn hn=>?_,?_]
 ·obtain⟨k,hk,rfl⟩:=Ay.mp hn;have:=aCr hk
  lia
 ·have:=aRa t;rw[<-this]at q;exact q
def aJc:Fv:=λus R=>∃ss:List Int,us=[.tp (ss.map U.n)]/\1<=ss.length/\ss.length<=3/\(∀s∈ss, -9<=s/\s<=9)/\R (.sh (.b true))
abbrev aGp:List Str:=["thing"]
def aF2:aK ["thing"] ["thing"] (aC oZ):={}
def aQu(F:Fun K "are_steps" "are_steps" oZ f fd)(c_is_within:⇑2 "is_within" PW3 (spV jH))(T:Txt mg):↥3 f fd ["thing"] (spV aJc):=by
 obtain⟨_,g_MOST_STEPS⟩:=T.c_MOST_STEPS;obtain⟨_,g_GREATEST_STEP⟩:=T.c_GREATEST_STEP;refine vfn F aF2 (λaf A outer s H E hr=>(aG (bT (yD (yC (jC (gB (rZ .tp nofun T.isinstance T.tuple Lv (aA 0)))) (sG (jC (aC5 aAe aAe cU cU aH (bR bF fV T.len Gk (aP (aA 0) aY)) (eE g_MOST_STEPS)))))) (aF (aN aC6)) aU) (aF (aN (bR aB0 (aI3 rfl) T.all boot_all (aP (iK (own:=["step"]) (cap:=[]) (aC oZ) aGp rfl rfl (λx h=>bO h) #v[1] rfl (vic (aKg (aA 0))) ↑(bU (i:=0) (~~~["step"]) rfl (Dy rfl) (Ew rfl)) (cO ⋯) ↑(aM c_is_within (hr.mono ⋯) rfl (aB (aA 0) (aB (aKf (eE g_GREATEST_STEP)) (aB (eE g_GREATEST_STEP) aD))))) aY)))))) ?_;rintro _ R ⟨ss,rfl,l1,l3,hs,q⟩;have e1:(ss.map U.n).length=ss.length:=Ab ..;refine#[rfl,_,rfl,nofun,λ_=>#[λ_=>#[λh=>?_,λ_=>?_],λh=>?_]]
 ·simp at h;lia
 ·refine#[∅,iG (h:=λ_=> .b true) (λu hu k hk=>?_) ?_]
  ·obtain⟨s,hs',rfl⟩:=Ay.mp hu;have:=hs s hs';refine#[_,_,_,_,rfl,rfl,?_];show k (some (.b (isIn (.n s) (-9) 9)));rw[show isIn (.n s) (-9) 9=true by simp[isIn,this.1,this.2]];exact hk
  ·refine#[ss.map λ_=>true,by rw[Ce,Ce];rfl,?_];exact Rbl q (by simp)
 ·simp at h;lia
def tL(N:Cn)(C:Addr):Fv:=λus R=>∃t,us=[enc N t]/\cls N t=C/\aIs t/\R (.sh .no)
def xW:aK ["self"] ["self"] (aC gJ):={}
def aEr(F:Fun K "own_fault" "Term.own_fault" gJ f fd):↥4 f fd ["self"] (spV (tL N C)):=by
 refine aX.mono (vfn F xW (λaf A outer s H E(hr:cV 0 _)=>(aF (aN wL))) ?_) ⋯;rintro _ R ⟨t,rfl,e,ok,q⟩;exact#[rfl,q]
def uX:aK ["self"] ["self"] (aC eU):={}
def aMy(F:Fun K "own_fault" "Number.own_fault" eU f fd)(cN:Cfl K N.num ["value"])(hC:∀t,cls N t=N.num->∃n,t=.num n)(c_is_within:⇑2 "is_within" PW3 (spV jH))(T:Txt mg):↥4 f fd ["self"] (spV (tL N N.num)):=by
 obtain⟨_,g_GREATEST_NUMBER⟩:=T.c_GREATEST_NUMBER;refine vfn F uX (λaf A outer s H E hr=>(aG (bT (gB (aM c_is_within (hr.mono ⋯) rfl (aB (bD cN (aA 0)) (aB (aKf (eE g_GREATEST_NUMBER)) (aB (eE g_GREATEST_NUMBER) aD))))) (aF (aN wL)) aU) (aF (aN bI)))) ?_;rintro _ R ⟨t,rfl,e,ok,q⟩;obtain⟨n,rfl⟩:=hC t e;have h:=ok.1;simp only[Wf]at h;refine#[rfl,rfl,.inl #[rfl,_,_,_,_,rfl,rfl,λ_=>q,λz=>?_]];simp[isIn,h.1,h.2]at z
def xV:aK ["self"] ["self"] (aC gH):={}
def aMw(F:Fun K "own_fault" "Take.own_fault" gH f fd)(cK:Cfl K N.take ["back","steps"])(hC:∀t,cls N t=N.take->∃b ss,t=.take b ss)(c_is_within:⇑2 "is_within" PW3 (spV jH))(aGu:⇑3 "are_steps" ["thing"] (spV aJc))(T:Txt mg):↥4 f fd ["self"] (spV (tL N N.take)):=by
 obtain⟨_,g_GREATEST_BACK⟩:=T.c_GREATEST_BACK;refine vfn F xV (λaf A outer s H E hr=>(aG (bT (jC (gB (aM c_is_within (hr.mono ⋯) rfl (aB (bD cK (aA 0)) (aB aH (aB (eE g_GREATEST_BACK) aD)))))) (aF (aN bI)) aU) (aG (bT (jC (gB (aM aGu (hr.mono ⋯) rfl (aB (bD cK (aA 0)) aD)))) (aF (aN bI)) aU) (aF (aN wL))))) ?_;rintro _ R ⟨t,rfl,e,ok,q⟩;obtain⟨b,ss,rfl⟩:=hC t e;obtain⟨⟨h1,h2,h3⟩,h4,h5⟩:=ok.2 (b,ss) Ag;refine#[rfl,rfl,.inl #[rfl,_,_,_,_,rfl,rfl,λz=>?_,λ_=>?_]]
 ·simp only at h1 h2;simp[isIn,h1,h2]at z
 ·exact#[rfl,.inr #[by decide+kernel,.inl #[rfl,ss,rfl,h4,h5,h3,nofun,λ_=>q]]]
def xU:aK ["self"] ["self"] (aC gG):={}
def aM1(F:Fun K "own_fault" "Rest.own_fault" gG f fd)(cP:Cfl K N.rest ["one","by"])(hC:∀t,cls N t=N.rest->∃a y,t=.rest a y)(c_is_within:⇑2 "is_within" PW3 (spV jH))(T:Txt mg):↥4 f fd ["self"] (spV (tL N N.rest)):=by
 obtain⟨_,g_GREATEST_DIVISOR⟩:=T.c_GREATEST_DIVISOR;refine vfn F xU (λaf A outer s H E hr=>(aG (bT (gB (aM c_is_within (hr.mono ⋯) rfl (aB (bD cP (aA 0)) (aB aH (aB (eE g_GREATEST_DIVISOR) aD))))) (aF (aN wL)) aU) (aF (aN bI)))) ?_;rintro _ R ⟨t,rfl,e,ok,q⟩;obtain⟨a,y,rfl⟩:=hC t e;have h:=ok.1;simp only[Wf]at h;refine#[rfl,rfl,.inr #[by decide+kernel,.inl #[rfl,_,_,_,_,rfl,rfl,λ_=>q,λz=>?_]]];simp[isIn,h.1,h.2.1]at z
def fFF(N:Cn)(d:Nat):Fv:=λus R=>∃t,us=[enc N t]/\ht t<=d/\aIs t/\R (.sh .no)
def oH:aK ["term","part","fault"] ["term"] (aC lB):={}
def bAm(F:Fun K "first_fault" "first_fault" lB f fd)(pK:⇑(d+4) "first_fault" ["term"] (spV (fFF N d)))(dF:lO P w K mg base N 1 "inner" (jG N))(aGi:lO P w K mg base N 4 "own_fault" (tL N)):↥(d+5) f fd ["term"] (spV (fFF N (d+1))):=by
 refine vfn F oH (λaf A outer s H E hr=>(aG (fH Bw rfl (bY (bZ (aA 0) dF (hr.mono ∅))) (fQ (i:=1) oH.nd) (aG (aR (i:=2) oH.nd (aM pK (hr.mono ∅) rfl (aB (aA 1) aD))) (aF (bT (aLp (aA 2)) (aF (gP 2)) aU)))) (aF (aN (bZ (aA 0) aGi (hr.mono ∅)))))) ?_;rintro _ R ⟨t,rfl,hd,ok,q⟩;refine#[rfl,bW t #v[1] #[t,rfl,rfl,?_]];refine cL (λl ρ=>∃(ks:List Tm)(x y:Sl),l=ks.map (enc N)/\(∀k∈ks,k∈kids t)/\ρ=[.sh (enc N t),x,y]) ?_ ?_ #[kids t,_,_,rfl,λ_ h=>h,rfl]
 ·rintro ρ ⟨ks,x,y,el,hk,rfl⟩;exact bW t #v[1] #[t,rfl,rfl,ok,q]
 ·rintro u r ρ ⟨ks,x,y,el,hk,rfl⟩ ih;obtain⟨k,ks,rfl,rfl,rfl⟩:=Jk.mp el.symm;have kk:=hk k Ag;exact#[k,rfl,rA t hd k kk,ok.kid kk,nofun,λ_=>ih _ #[ks,_,_,rfl,λj hj=>hk j (Ah _ hj),rfl]]
def Ln(t:Tm)(n:Nat):Prop:=(n=1∨n=2∨n=3)/\(∀x∈raw t,x.2.length=n)/\∃ks:List Tk,ks.length<=4/\∀x∈raw t,x∈ks
def Ln.few(h:Ln t n):Few t:=let⟨ks,l,m⟩:=h.2.2;#[ks,∅,m]
def aB8(N:Cn)(d:Nat):Fv:=λus R=>∃t n,us=[enc N t]/\ht t<=d/\Ln t n/\∀s,s=.sh .no∨s=.sh (.n (n:Nat))->R s
abbrev aIo:List Str:=["term","counts"]
def aAh:aK ["term","counts"] ["term"] (aC rN):={}
def aJt(F:Fun K "lines_of" "lines_of" rN f fd)(qU:lO P w K mg base N (d+1) "takes" (tM N d))(T:Txt mg):↥(d+3) f fd ["term"] (spV (aB8 N d)):=by
 refine vfn F aAh (λaf A outer s H E hr=>(aG (aR (i:=1) aAh.nd (aR9 rfl T.sorted T.set (aP (iK (own:=["take"]) (cap:=[]) (aC rN) aIo rfl rfl (λx h=>bO h) #v[1] rfl (vic (bY (bZ (aA 0) qU (hr.mono ∅)))) ↑(bU (i:=0) (~~~["take"]) rfl (Dy rfl) (Ew rfl)) (cO ⋯) ↑(bR bF fV T.len Gk (aP (bA aQ aZ (aA 0) aH) aY))) aY))) (aG (bT (bH xM cU (bR bF fV T.len Gk (aP (aA 1) aY)) aH) (aF lN) aU) (aG (bT (bH (cH (huD hr)) cY (bR bF fV T.len Gk (aP (aA 1) aY)) aH) (aF (aN wL)) aU) (aF (aN (bA aQ aZ (aA 1) aH))))))) ?_;rintro _ R ⟨t,n,rfl,hd,ln,q⟩;refine#[rfl,bW t #v[1] #[t,rfl,rfl,hd,ln.few,λys ik=>?_]];have yl:=pB ln.few ik;refine#[by rw[Ab];lia,iG (h:=λ_=> .n (n:Nat)) (λu hu k hk=>?_) ?_]
 ·obtain⟨y,hy,rfl⟩:=Ay.mp hu;have e:=ln.2.1 y ((ik.2 y).mp hy);refine#[_,rfl,?_];show k (some (.n ((y.2.map U.n).length:Nat)));rw[Ab,e];exact hk
 ·refine#[ys.map λ_=>n,n,by rw[Ce,Ce];rfl,λm hm=>?_,by rcases ln.1 with rfl|rfl|rfl<;>decide,?_]
  ·obtain⟨_,_,rfl⟩:=Ay.mp hm;rfl
  ·generalize decide (0<(ys.map λ_=>n).length)=b;cases b
   ·exact#[nofun,λ_=>#[trivial,trivial,λ_=>q _ (.inl rfl),nofun]]
   ·exact#[nofun,λ_=>#[trivial,trivial,nofun,λ_=>#[_,rfl,q _ (.inr rfl)]]]
def aKy(N:Cn)(d:Nat):Fv:=λus R=>∃t n,us=[enc N t]/\ht t<=d/\aIs t/\iJ t<=60/\Ln t n/\R (.sh .no)
def vK:aK ["term","fault"] ["term"] (aC rM):={}
def aMu(F:Fun K "check_term" "check_term" rM f fd)(d12:d<=12)(pK:⇑(d+4) "first_fault" ["term"] (spV (fFF N d)))(vP:⇑(d+3) "lines_of" ["term"] (spV (aB8 N d)))(qU:lO P w K mg base N (d+1) "takes" (tM N d))(aE1:lO P w K mg base N (d+1) "depth" (aG7 N ht d))(aE2:lO P w K mg base N (d+1) "parts" (aG7 N iJ d))(T:Txt mg):↥(d+5) f fd ["term"] (spV (aKy N d)):=by
 obtain⟨_,g_MOST_DEPTH⟩:=T.c_MOST_DEPTH;obtain⟨_,g_MOST_PARTS⟩:=T.c_MOST_PARTS;obtain⟨_,g_MOST_TAKES⟩:=T.c_MOST_TAKES;refine vfn F vK (λaf A outer s H E hr=>(aG (aR (i:=1) vK.nd (aM pK (hr.mono ∅) rfl (aB (aA 0) aD))) (aG (bT (aLp (aA 1)) (aF lN) aU) (aG (bCf (aM vP (hr.mono ∅) rfl (aB (aA 0) aD))) (aG (bT (bH xM cU (bZ (aA 0) aE1 (hr.mono ∅)) (eE g_MOST_DEPTH)) (aF lN) aU) (aG (bT (bH xM cU (bZ (aA 0) aE2 (hr.mono ∅)) (eE g_MOST_PARTS)) (aF lN) aU) (aF (bT (bH xM cU (bR bF fV T.len Gk (aP (bZ (aA 0) qU (hr.mono ∅)) aY)) (eE g_MOST_TAKES)) (aF lN) aU)))))))) ?_;rintro _ R ⟨t,n,rfl,hd,ok,hp,ln,q⟩;refine#[rfl,t,rfl,hd,ok,nofun,λ_=>?_];refine#[t,n,rfl,hd,ln,λ_ _=>?_];refine bW t #v[1] #[t,rfl,rfl,hd,∅,λz=>?_,λ_=>?_]
 ·have:=Aa3 z
  lia
 refine bW t #v[1] #[t,rfl,rfl,hd,∅,λz=>?_,λ_=>?_]
 ·have:=Aa3 z
  lia
 refine bW t #v[1] #[t,rfl,rfl,hd,ln.few,λys ik=>#[λz=>?_,λ_=>q]];have:=Aa3 z;obtain⟨ks,kl,km⟩:=ln.2.2;have h2:=(yX ik.1).length_le_of_subset (l₂:=ks) λx hx=>km x ((ik.2 x).mp hx);rw[Ab]at this
 lia
def GoodR(n:Int)(m:Int)(l:List Int):Prop:=(l.length:Int)=n/\l.length<=40/\∀x∈l,0<=x/\x<m
def aO6:Fv:=λus R=>∃(l:List Int)(n m:Int),us=[.ls (l.map U.n),.n n,.n m]/\GoodR n m l/\R (.sh (.b true))
abbrev aOa:List Str:=["thing","many","modulus"]
def aNg:aK ["thing","many","modulus"] ["thing","many","modulus"] (aC xQ):={}
def aQi(F:Fun K "is_row" "is_row" xQ f fd)(c_is_within:⇑2 "is_within" PW3 (spV jH))(T:Txt mg):↥3 f fd ["thing","many","modulus"] (spV aO6):=by
 refine vfn F aNg (λaf A outer s H E hr=>(aG (bT (yD (yC (jC (gB (rZ .ls nofun T.isinstance T.list Ko (aA 0)))) (sG (bH (yZ (huD hr)) cY (bR bF fV T.len Gk (aP (aA 0) aY)) (aA 1))))) (aF (aN aC6)) aU) (aF (aN (bR aB0 (aI3 rfl) T.all boot_all (aP (iK (own:=["worth"]) (cap:=[("modulus",2)]) (aC xQ) aOa rfl rfl (λx h=>bO h) #v[1] rfl (vic (bY (aA 0))) ↑(bU (i:=0) (~~~["worth","modulus"]) rfl (Dy rfl) (Ew rfl)) (cO ⋯) ↑(aM c_is_within (hr.mono ⋯) rfl (aB (aA 0) (aB aH (aB (aW fY cU (aA 1) aH) aD))))) aY)))))) ?_;rintro _ R ⟨l,n,m,rfl,⟨h1,h2,h3⟩,q⟩;refine#[rfl,_,rfl,nofun,λ_=>#[trivial,trivial,λz=>?_,λ_=>?_]]
 ·simp[U.eq,U.d,D.eq,eqV,Sl.rd,h1]at z
 ·refine#[by rw[Ab];lia,iG (h:=λ_=> .b true) (λu hu k hk=>?_) #[l.map λ_=>true,by rw[Ce,Ce];rfl,Rbl q (by simp)]];obtain⟨x,hx,rfl⟩:=Ay.mp hu;have:=h3 x hx;refine#[_,_,_,_,rfl,rfl,?_];show k (some (.b (isIn (.n x) 0 (m-1))));rw[show isIn (.n x) 0 (m-1)=true by simp[isIn,this.1];lia];exact hk
def eQ(ls:List (List Int)):List U:=ls.map λl=> .ls (l.map U.n)
def aG5:Fv:=λus R=>∃(ls:List (List Int))(k n m:Int),us=[.ls (eQ ls),.n k,.n n,.n m]/\(ls.length:Int)=k/\ls.length<=3/\(∀l∈ls,GoodR n m l)/\R (.sh (.b true))
abbrev aIn:List Str:=["thing","deep","many","modulus"]
def aHx:aK ["thing","deep","many","modulus"] ["thing","deep","many","modulus"] (aC rK):={}
def aJs(F:Fun K "are_rows" "are_rows" rK f fd)(aOn:⇑3 "is_row" ["thing","many","modulus"] (spV aO6))(T:Txt mg):↥4 f fd ["thing","deep","many","modulus"] (spV aG5):=by
 refine vfn F aHx (λaf A outer s H E hr=>(aG (bT (yD (yC (jC (gB (rZ .ls nofun T.isinstance T.list Ko (aA 0)))) (sG (bH (yZ (huD hr)) cY (bR bF fV T.len Gk (aP (aA 0) aY)) (aA 1))))) (aF (aN aC6)) aU) (aF (aN (bR aB0 (aI3 rfl) T.all boot_all (aP (iK (own:=["row"]) (cap:=[("many",2),("modulus",3)]) (aC rK) aIn rfl rfl (λx h=>bO h) #v[1] rfl (vic (bY (aA 0))) ↑(bU (i:=0) (~~~["row","many","modulus"]) rfl (Dy rfl) (Ew rfl)) (cO ⋯) ↑(aM aOn (hr.mono ⋯) rfl (aB (aA 0) (aB (aA 1) (aB (aA 2) aD))))) aY)))))) ?_;rintro _ R ⟨ls,k,n,m,rfl,h1,h2,h3,q⟩;have e1:(eQ ls).length=ls.length:=Ab ..;refine#[rfl,_,rfl,nofun,λ_=>#[trivial,trivial,λz=>?_,λ_=>?_]]
 ·simp[U.eq,U.d,D.eq,eqV,Sl.rd,h1,e1]at z
 ·refine#[∅,iG (h:=λ_=> .b true) (λu hu k hk=>?_) #[ls.map λ_=>true,by unfold eQ;rw[Ce,Ce];rfl,Rbl q (by simp)]];obtain⟨x,hx,rfl⟩:=Ay.mp hu;exact#[x,n,m,rfl,h3 x hx,hk]
def dpt(ys:List Tk):Int:=if ys=[]then 1 else ys.foldl (λm y=>max m y.1) 0
def aOx(hp:∀y∈ys,0<=y.1)(hm:m∈ys.map (·.1))(ha:∀a∈ys.map (·.1),a<=m):dpt ys=m:=by
 have key:∀(l:List Tk)(a:Int),(∀y∈l,y.1<=m)->a<=m->l.foldl (λm y=>max m y.1) a<=m/\a<=l.foldl (λm y=>max m y.1) a/\∀y∈l,y.1<=l.foldl (λm y=>max m y.1) a:=by
  intro l;induction l with
  |nil=>exactλa _ h=>#[h,Li _,λ_ z=>nomatch z]
  |cons x l ih=>
   intro a h1 h2;have hx:=h1 x Ag;obtain⟨g1,g2,g3⟩:=ih (max a x.1) (λy hy=>h1 y (Ah _ hy)) ∅;refine#[g1,by rw[Jz];lia,λy hy=>?_];rw[Jz];rcases Ax.mp hy with rfl|hy
   ·lia
   ·exact g3 y hy
 obtain⟨y,hy,rfl⟩:=Ay.mp hm;have h0:=hp y hy;obtain⟨g1,g2,g3⟩:=key ys 0 (λz hz=>ha _ (Ay.mpr #[z,hz,rfl])) h0;unfold dpt;rw[Aa0 (by intro z;rw[z]at hy;cases hy)];have:=g3 y hy
 lia
def aG6(C:Addr):Fv:=λus R=>∃(ys:List Tk)(ns:List Str)(ws:List U),us=[.ob C ("taken"::ns) (.ls (ys.map tkU)::ws)]/\ys.length<=17/\(∀y∈ys,0<=y.1)/\R (.sh (.n (dpt ys)))
abbrev aIm:List Str:=["self"]
def aHw:aK ["self"] ["self"] (aC rF):={}
def aLa(F:Fun K "deep" "Job.deep" rF f fd)(cJ:Cfl K C ["taken"])(T:Txt mg):↥1 f fd ["self"] (spV (aG6 C)):=by
 refine vfn F aHw (λaf A outer s H E hr=>(aF (aN (aGd rfl T.max (aP (iK (own:=["take"]) (cap:=[]) (aC rF) aIm rfl rfl (λx h=>bO h) #v[1] rfl (vic (bY (bD cJ (aA 0)))) ↑(bU (i:=0) (~~~["take"]) rfl (Dy rfl) (Ew rfl)) (cO ⋯) ↑(bA aQ aZ (aA 0) aH)) aY) aH)))) ?_;rintro _ R ⟨ys,ns,ws,rfl,yl,hp,q⟩;have e:(ys.map tkU).map (λu=>match u with|.tp (x::_)=>x|u=>u)=(ys.map (·.1)).map U.n:=by rw[Ce,Ce];rfl
 refine#[rfl,rfl,.inl #[rfl,by rw[Ab];lia,iG (h:=λu=>match u with|.tp (x::_)=>x|u=>u) (λu hu k hk=>?_) ?_]]
 ·obtain⟨y,hy,rfl⟩:=Ay.mp hu;exact#[_,rfl,hk]
 ·rw[Di,e];refine#[_,rfl,λz=>?_,λm hm ha=>?_]
  ·have z:=Bo.mp z;subst z;exact q
  ·rw[aOx hp hm ha]at q;exact q
inductive aKl(us:List U)(R:(List Str->List U->Prop)):Prop
 |mk (ns:List Int) (rs:List Rim) (q0_:us=[.ls (ns.map U.n),.ls (rs.map Rim.u)]) (q1_:jD ns) (q2_:rs.length=ns.length) (q3_:(∀r∈rs,r.ok)) (q4_:R ["sizes","rims"] [.ls (ns.map U.n),.ls (rs.map Rim.u)]):aKl us R
def aJa:List U->(List Str->List U->Prop)->Prop:=λus R=>aKl us R
def aA8(ns:List Int):U.dts 5 (ns.map U.n):=by
 induction ns with
 |nil=>trivial
 |cons r rs ih=>exact#[trivial,ih]
def aUg(rs:List Rim):U.dts 5 (rs.map Rim.u):=by
 induction rs with
 |nil=>trivial
 |cons r rs ih=>exact#[by cases r<;>first|exact#[trivial,trivial]|exact#[trivial,trivial,trivial],ih]
def zJ:aK ["self","sizes","rims"] ["self","sizes","rims"] (aC lR):={}
def aQg(F:Fun K "__init__" "Grid.__init__" lR f fd)(cG:Cfl K C ["sizes","rims"])(aDe:⇑4 "check_lines" ["sizes","rims"] (spV aO4))(yK:⇑1 "product" ["sizes"] (spV aPa))(T:Txt mg):↥5 f fd ["self","sizes","rims"] (spI C aJa):=by
 obtain⟨_,g_MOST_PLACES⟩:=T.c_MOST_PLACES;refine F.ok zJ (λvs H Q E h=>?_) (λaf A outer s H vs Q E hr h=>?_)
 ·obtain⟨x,dx,vs',H1,W,B,us,R,rfl,_,_,_,_,ds,⟨ns,rs,rfl,_⟩,_⟩:=h;rw[An, <-ds.length];rfl
 ·obtain⟨x,dx,vs',H1,W,B,us,R,rfl,n1,hx,s1,eb,ds,⟨ns,rs,rfl,g,el,rk,hR⟩,q⟩:=h;obtain⟨v1,_,rfl,d1,v2,r,rfl,d2,dr⟩:=ds;obtain rfl:r=[]:=dr;have ee:∀{H'},Fw W H1 H'->EE W B H' [.no,.sh (.ls (ns.map U.n)),.sh (.ls (rs.map Rim.u))] [some (.ref x),some v1,some v2]:=λfw=>qZ (oR (DU.mono (eb.keep fw) _ d1) (oR (DU.mono (eb.keep fw) _ d2) (aO0 (eb.to fw))));have nw:¬W x:=λz=>eb.dm x (eb.wb x z) n1;have nB:¬B x:=eb.nw n1;refine#[_,(bC (rD (VE.can (aM aDe (hr.mono ⋯) rfl (aB (aA 1) (aB (aA 2) aD))))) (bC (xO (VC.can (bH xM cU (aM yK (hr.mono ⋯) rfl (aB (aA 1) aD)) (eE g_MOST_PLACES))) (dI qM) mU) (bC (fG (pv 0) (VE.can (eZ (iY rfl) qY T.list Ko (aP (aA 1) aY))) rfl) (dI (fG (pv 0) (VE.can (eZ (iY rfl) qY T.list Ko (aP (aA 2) aY))) rfl))))),?_];have f0:=eb.same s1;refine aEw (R:=λ_=>True) (ee f0) #[ns,rs,rfl,g.ok,g.l1,g.l3,el,rk,trivial] λs v H2 _ w2 _=>?_;have f2:=f0.trans w2;refine aC1 (R:=λc=>c=false) (ee f2) #[ns,rfl,g.ok,g.l3,Aa6 (by have:=g.mn;lia)] λc H3 hc w3=>?_;subst hc;refine aCc ?_;have f3:=f2.trans w3;have hx3:H3 x=some (.ins C dx []):=w3.fr _ _ nw (w2.fr _ _ nw hx);refine aEw (R:=λs=>s=.ow (ns.map U.n)) (ee f3) rfl λs v4 H4 hs w4 r4=>?_;subst hs;obtain⟨p4,x4,rfl,n4,h4,d4⟩:=r4;have f4:=f3.trans w4;have hx4:=w4.fr _ _ nw hx3;refine#[_,rfl,x,C,dx,_,rfl,hx4,cG.cl,cG.na _ (by simp),⋯,?_];have f5:=f4.upd (o:=.ins C dx (lJ "sizes" (.ref p4) [])) n1 nw;have hx5:upd H4 x (.ins C dx (lJ "sizes" (.ref p4) [])) x=_:=aL;have h5:=fX (B:=B) (o:=.ins C dx (lJ "sizes" (.ref p4) [])) hx4 p4 _ (λz=>(eb.to f3).dm p4 z n4) h4 (.inr #[_,rfl]);have d5:=DUs.data (fX (o:=.ins C dx (lJ "sizes" (.ref p4) [])) hx4) 5 _ (aA8 ns) d4.less;revert f5 hx5 h5 d5;generalize upd H4 x (.ins C dx (lJ "sizes" (.ref p4) []))=H5;intro f5 hx5 h5 d5;refine aEw (R:=λs=>s=.ow (rs.map Rim.u)) (ee f5) rfl λs v6 H6 hs w6 r6=>?_;subst hs;obtain⟨p6,x6,rfl,n6,h6,d6⟩:=r6;have hx6:=w6.fr _ _ nw hx5;refine#[_,rfl,x,C,dx,_,rfl,hx6,cG.cl,cG.na _ (by simp),by show(1:Nat)<1000;decide,?_];have e6:=eb.to (f5.trans w6);refine q ["sizes","rims"] _ [.ref p4,.ref p6] _ hR ((f5.trans w6).upd n1 nw) aL rfl #[_,_,rfl,#[p4,x4,rfl,(eb.to f3).nw n4,?_,?_],_,_,rfl,#[p6,x6,rfl,(eb.to f5).nw n6,?_,?_],rfl]
  ·exact fX (B:=B) hx6 p4 _ ((eb.to f3).nw n4) (w6.fr _ _ (λz=>(eb.to f3).nw n4 (eb.wb _ z)) h5) (.inr #[_,rfl])
  ·exact DUs.data (fX hx6) 5 _ (aA8 ns) (DUs.mono ((eb.to f5).keep w6) _ d5)
  ·exact fX (B:=B) hx6 p6 _ ((eb.to f5).nw n6) h6 (.inr #[_,rfl])
  ·exact DUs.data (fX hx6) 5 _ (aUg rs) d6.less
def nR(N:Cn)(CG CJ:Addr)(ns:List Int)(rs:List Rim)(t:Tm)(ys:List Tk)(m r:Int)(ls:List (List Int)):U:=.ob CJ ["taken","grid","term","modulus","rounds","first"] [.ls (ys.map tkU),grU CG ns rs,enc N t,.n m,.n r,.ls (eQ ls)]
structure gU(ns:List Int)(rs:List Rim)(t:Tm)(m r:Int)(ls:List (List Int)):Prop where
 gs:jD ns
 el:rs.length=ns.length
 rk:∀x∈rs,x.ok
 hd:ht t<=8
 ok:aIs t
 pr:iJ t<=60
 ln:Ln t ns.length
 m2:2<=m/\m<=1000000000
 r0:0<=r/\r<=12
 rm:r*dC ns<=120
 dp:∀ys,eF t ys->(ls.length:Int)=dpt ys
 l3:ls.length<=3
 rw_:∀l∈ls,GoodR (dC ns) m l
inductive aKm(N:Cn)(CG:Addr)(us:List U)(R:(List Str->List U->Prop)):Prop
 |mk (ns:List Int) (rs:List Rim) (t:Tm) (m r:Int) (ls:List (List Int)) (q0_:us=[grU CG ns rs,enc N t,.n m,.n r,.ls (eQ ls)]) (q1_:gU ns rs t m r ls) (q2_:∀ys,eF t ys->R ["taken","grid","term","modulus","rounds","first"] [.ls (ys.map tkU),grU CG ns rs,enc N t,.n m,.n r,.ls (eQ ls)]):aKm N CG us R
def aJb(N:Cn)(CG:Addr):List U->(List Str->List U->Prop)->Prop:=λus R=>aKm N CG us R
def aUh(ls:List (List Int)):U.dts 6 (eQ ls):=by
 induction ls with
 |nil=>trivial
 |cons l ls ih=>exact#[aA8 l,ih]
def aR0(ys:List Tk):U.dts 7 (ys.map tkU):=by
 induction ys with
 |nil=>trivial
 |cons y ys ih=>exact#[#[trivial,aA8 y.2,trivial],ih]
def bCt(i j:Int):U.eq (.n i) (.n j)=(i==j):=rfl
abbrev aBr:List Str:=["self","grid","term","modulus","rounds","first"]
def aAw:aK ["self","grid","term","modulus","rounds","first"] ["self","grid","term","modulus","rounds","first"] (aC jN):={}
def aQj(F:Fun K "__init__" "Job.__init__" jN f fd)(cJ:Cfl K CJ ["taken","grid","term","modulus","rounds","first"])(aFg:⇑13 "check_term" ["term"] (spV (aKy N 8)))(vP:⇑11 "lines_of" ["term"] (spV (aB8 N 8)))
  (c_is_within:⇑2 "is_within" PW3 (spV jH)) (aIz:⇑4 "are_rows" ["thing","deep","many","modulus"] (spV aG5)) (qU:lO P w K mg base N 9 "takes" (tM N 8)) (D_lines:Dis P w K mg base CX0 1 (·=CG) "lines" ["self"] λ_=>spV (aO7 CG)) (uZ:Dis P w K mg base CX0 2 (·=CG) "places_many" ["self"] λ_=>spV (aVy CG)) (D_deep:Dis P w K mg base CX0 1 (·=CJ) "deep" ["self"] λ_=>spV (aG6 CJ)) (T:Txt mg):↥14 f fd ["self","grid","term","modulus","rounds","first"] (spI CJ (aJb N CG)):=by
 obtain⟨_,g_GREATEST_MODULUS⟩:=T.c_GREATEST_MODULUS;obtain⟨_,g_MOST_ROUNDS⟩:=T.c_MOST_ROUNDS;obtain⟨_,g_MOST_SPOTS⟩:=T.c_MOST_SPOTS;refine F.ok aAw (λvs H Q E h=>?_) (λaf A outer s H vs Q E hr h=>?_)
 ·obtain⟨x,dx,vs',H1,W,B,us,R,rfl,_,_,_,_,ds,⟨ns,rs,t,m,r,ls,rfl,_⟩,_⟩:=h;rw[An, <-ds.length];rfl
 ·obtain⟨x,dx,vs',H1,W,B,us,R,rfl,n1,hx,s1,eb,ds,⟨ns,rs,t,m,r,ls,rfl,g,hR⟩,q⟩:=h;obtain⟨v1,_,rfl,d1,v2,_,rfl,d2,v3,_,rfl,d3,v4,_,rfl,d4,v5,r5,rfl,d5,dr⟩:=ds;obtain rfl:r5=[]:=dr;have ee:∀{H' s0},Fw W H1 H'->EE W B H' [s0,.sh (grU CG ns rs),.sh (enc N t),.sh (.n m),.sh (.n r),.sh (.ls (eQ ls))] [some (.ref x),some v1,some v2,some v3,some v4,some v5]->EE W B H' [s0,.sh (grU CG ns rs),.sh (enc N t),.sh (.n m),.sh (.n r),.sh (.ls (eQ ls))] [some (.ref x),some v1,some v2,some v3,some v4,some v5]:=λ_ e=>e;have et:∀{H'},Fw W H1 H'->EE W B H' [.sh (grU CG ns rs),.sh (enc N t),.sh (.n m),.sh (.n r),.sh (.ls (eQ ls))] [some v1,some v2,some v3,some v4,some v5]:=λfw=>oR (DU.mono (eb.keep fw) _ d1) (oR (DU.mono (eb.keep fw) _ d2) (oR d3 (oR d4 (oR (DU.mono (eb.keep fw) _ d5) (aO0 (eb.to fw))))));have nw:¬W x:=λz=>eb.dm x (eb.wb x z) n1;refine#[_,(bC (rD (VE.can (aM aFg (hr.mono ⋯) rfl (aB (aA 2) aD)))) (bC (xO (VC.can (bH (aM9 (huD hr)) aV7 (aM vP (hr.mono ⋯) rfl (aB (aA 2) aD)) (bV (aB wL (aB (bZ (aA 1) D_lines (hr.mono ⋯)) aD))))) (dI qM) mU) (bC (xO (VC.can (jC (gB (aM c_is_within (hr.mono ⋯) rfl (aB (aA 3) (aB aH (aB (eE g_GREATEST_MODULUS) aD))))))) (dI qM) mU) (bC (xO (VC.can (yD (yC (jC (gB (aM c_is_within (hr.mono ⋯) rfl (aB (aA 4) (aB aH (aB (eE g_MOST_ROUNDS) aD)))))) (sG (bH xM cU (aW jJ lQ (aA 4) (bZ (aA 1) uZ (hr.mono ⋯))) (eE g_MOST_SPOTS)))))) (dI qM) mU) (bC (fG (pv 0) (VE.can (bZ (aA 2) qU (hr.mono ⋯))) rfl) (bC (xO (VC.can (jC (gB (aM aIz (hr.mono ⋯) rfl (aB (aA 5) (aB (bZ (aA 0) D_deep (hr.mono ⋯)) (aB (bZ (aA 1) uZ (hr.mono ⋯)) (aB (aA 3) aD)))))))) (dI qM) mU) (bC (fG (pv 0) (pv 1) rfl) (bC (fG (pv 0) (pv 2) rfl) (bC (fG (pv 0) (pv 3) rfl) (bC (fG (pv 0) (pv 4) rfl) (dI (fG (pv 0) (VE.can (iK (own:=["row"]) (cap:=[]) (aC jN) aBr rfl rfl (λx h=>bO h) #v[1] rfl (vic (bY (aA 5))) ↑(bU (i:=0) (~~~["row"]) rfl (Dy rfl) (Ew rfl)) (cO ⋯) ↑(eZ (iY rfl) qY T.list Ko (aP (aA 0) aY)))) rfl)))))))))))),?_];have f0:=eb.same s1;refine aEw (R:=λ_=>True) (qZ (et f0)) #[t,_,rfl,g.hd,g.ok,g.pr,g.ln,trivial] λs v H2 _ w2 _=>?_;have f2:=f0.trans w2;refine aC1 (R:=λc=>c=false) (qZ (et f2)) #[t,_,rfl,g.hd,g.ln,λs hs=>?_] λc H3 hc w3=>?_
  ·rcases hs with rfl|rfl
   ·exact#[rfl,rfl,ns,rs,rfl,trivial,#[trivial,trivial,trivial],rfl]
   ·refine#[rfl,rfl,ns,rs,rfl,trivial,#[trivial,trivial,trivial],?_];simp[bCt,Sl.rd]
  subst hc;refine aCc ?_;have f3:=f2.trans w3;refine aC1 (R:=λc=>c=false) (qZ (et f3)) #[_,_,_,_,rfl,rfl,?_] λc H4 hc w4=>?_
  ·show(!isIn (.n m) 2 1000000000)=false;simp[isIn,g.m2.1,g.m2.2]
  subst hc;refine aCc ?_;have f4:=f3.trans w4;refine aC1 (R:=λc=>c=false) (qZ (et f4)) #[_,_,_,_,rfl,rfl,λz=>?_,λ_=>#[rfl,rfl,ns,rs,rfl,g.gs,?_]] λc H5 hc w5=>?_
  ·simp[isIn,g.r0.1,g.r0.2]at z
  ·refine#[.inl #[by have:=g.r0;lia,by have:=g.r0;lia],?_];exact Aa6 (by have:=g.rm;lia)
  subst hc;refine aCc ?_;have f5:=f4.trans w5;have hx5:H5 x=some (.ins CJ dx []):=w5.fr _ _ nw (w4.fr _ _ nw (w3.fr _ _ nw (w2.fr _ _ nw hx)));refine aEw (R:=λs=>∃ys,eF t ys/\s=.ow (ys.map tkU)) (qZ (et f5)) (bW t #v[1] #[t,rfl,rfl,g.hd,g.ln.few,λys hy=>#[ys,hy,rfl]]) λs v6 H6 hs w6 r6=>?_;obtain⟨ys,hy,rfl⟩:=hs;obtain⟨p6,x6,rfl,n6,h6,d6⟩:=r6;have f6:=f5.trans w6;have hx6:=w6.fr _ _ nw hx5;have nB6:¬B p6:=(eb.to f5).nw n6;refine#[_,rfl,x,CJ,dx,_,rfl,hx6,cJ.cl,cJ.na _ (by simp),⋯,?_];have f7:=f6.upd (o:=.ins CJ dx (lJ "taken" (.ref p6) [])) n1 nw;have hx7:upd H6 x (.ins CJ dx (lJ "taken" (.ref p6) [])) x=_:=aL;have h7:=fX (B:=B) (o:=.ins CJ dx (lJ "taken" (.ref p6) [])) hx6 p6 _ nB6 h6 (.inr #[_,rfl]);have d7:=DUs.data (fX (o:=.ins CJ dx (lJ "taken" (.ref p6) [])) hx6) 7 _ (aR0 ys) d6.less;revert f7 hx7 h7 d7;generalize upd H6 x (.ins CJ dx (lJ "taken" (.ref p6) []))=H7;intro f7 hx7 h7 d7;have yl:ys.length<=17:=by have:=pB g.ln.few hy;lia
  have yp:∀y∈ys,0<=y.1:=λy h=>by have:=(g.ok.2 y ((hy.2 y).mp h)).1.1;lia
  have dJ:DU W B H7 (.ob CJ ["taken"] [.ls (ys.map tkU)]) (.ref x):=#[x,dx,[.ref p6],rfl,eb.nw n1,hx7,rfl,_,_,rfl,#[p6,x6,rfl,nB6,h7,d7],rfl];refine aC1 (R:=λc=>c=false) (oR dJ (et f7)) #[rfl,rfl,ys,[],[],rfl,yl,yp,rfl,rfl,ns,rs,rfl,g.gs,ls,_,_,_,rfl,g.dp ys hy,g.l3,g.rw_,rfl] λc H8 hc w8=>?_;subst hc;refine aCc ?_;have step:∀{H fs fs'},(Fw W H1 H/\H x=some (.ins CJ dx fs)/\DU W B H (.ls (ys.map tkU)) (.ref p6))->(Fw W H1 (upd H x (.ins CJ dx fs'))/\upd H x (.ins CJ dx fs') x=some (.ins CJ dx fs')/\DU W B (upd H x (.ins CJ dx fs')) (.ls (ys.map tkU)) (.ref p6)):=λ⟨a,b,c⟩=>#[a.upd n1 nw,aL,DU.data (fX b) 8 _ (aR0 ys) c];have k8:Fw W H1 H8/\H8 x=some (.ins CJ dx [("taken",.ref p6)])/\DU W B H8 (.ls (ys.map tkU)) (.ref p6):=#[f7.trans w8,w8.fr _ _ nw hx7,DU.mono ((eb.to f7).keep w8) _ #[p6,x6,rfl,nB6,h7,d7]];have fl:∀{k:Nat},k<=6->k<1000:=λh=>by lia
  refine#[_,rfl,_,rfl,x,CJ,dx,_,rfl,k8.2.1,cJ.cl,cJ.na _ (by simp),fl (by show(1:Nat)<=6;decide),?_];have k9:=step (fs':=[("taken",.ref p6),("grid",v1)]) k8;refine#[_,rfl,_,rfl,x,CJ,dx,_,rfl,k9.2.1,cJ.cl,cJ.na _ (by simp),fl (by show(2:Nat)<=6;decide),?_];have k10:=step (fs':=[("taken",.ref p6),("grid",v1),("term",v2)]) k9;refine#[_,rfl,_,rfl,x,CJ,dx,_,rfl,k10.2.1,cJ.cl,cJ.na _ (by simp),fl (by show(3:Nat)<=6;decide),?_];have k11:=step (fs':=[("taken",.ref p6),("grid",v1),("term",v2),("modulus",v3)]) k10;refine#[_,rfl,_,rfl,x,CJ,dx,_,rfl,k11.2.1,cJ.cl,cJ.na _ (by simp),fl (by show(4:Nat)<=6;decide),?_];have k12:=step (fs':=[("taken",.ref p6),("grid",v1),("term",v2),("modulus",v3),("rounds",v4)]) k11;refine aEw (R:=λs=>s=.ow (eQ ls)) (qZ (et k12.1)) #[by have:=g.l3;show(eQ ls).length<=_;unfold eQ;rw[Ab];lia,iG (h:=id) (λu hu k hk=>?_) (by rw[Di,Yy])] λs v13 H13 hs w13 r13=>?_
  ·obtain⟨l,_,rfl⟩:=Ay.mp hu;exact hk
  subst hs;obtain⟨p13,x13,rfl,n13,h13,d13⟩:=r13;have f13:=k12.1.trans w13;have nB13:¬B p13:=(eb.to k12.1).nw n13;have k13:Fw W H1 H13/\H13 x=some (.ins CJ dx [("taken",.ref p6),("grid",v1),("term",v2),("modulus",v3),("rounds",v4)])/\DU W B H13 (.ls (ys.map tkU)) (.ref p6):=#[f13,w13.fr _ _ nw k12.2.1,DU.mono ((eb.to k12.1).keep w13) _ k12.2.2];refine#[_,rfl,x,CJ,dx,_,rfl,k13.2.1,cJ.cl,cJ.na _ (by simp),fl (by show(5:Nat)<=6;decide),?_];have k14:=step (fs':=[("taken",.ref p6),("grid",v1),("term",v2),("modulus",v3),("rounds",v4),("first",.ref p13)]) k13;have fin:=λu{v:V}(d:DU W B H1 u v)=>DU.mono (eb.keep k14.1) u d;exact q _ _ [.ref p6,v1,v2,v3,v4,.ref p13] _ (hR ys hy) k14.1 aL rfl #[_,_,rfl,k14.2.2,_,_,rfl,fin _ d1,_,_,rfl,fin _ d2,_,_,rfl,fin _ d3,_,_,rfl,fin _ d4,_,_,rfl,#[p13,x13,rfl,nB13,fX (B:=B) k13.2.1 p13 _ nB13 h13 (.inr #[_,rfl]),DUs.data (fX k13.2.1) 6 _ (aUh ls) d13.less],rfl]
def bAh{c:Bool}{a b:Prop}(h:c=true)(x:a):if c=true then a else b:=by rw[Aa1 h];exact x
def bAg{c:Bool}{a b:Prop}(h:c=false)(x:b):if c=true then a else b:=by rw[Aa0 (by rw[h];exact Au)];exact x
def aA0(K:Ac)(ns:List Int):Opq where
 φ:=λ_ B H v=>∃a,v=.ref a/\((¬B a/\Rd H a (.lst (ns.map V.int)))∨∀H',SqL K H' a (ns.map V.int))
 mono:=λk ⟨a,e,h⟩=>by
  rcases h with ⟨nb,h|⟨o,h⟩⟩|h
  ·exact#[a,e,.inl #[(k _ _ nb h).1,.inl (k _ _ nb h).2]]
  ·exact#[a,e,.inl #[(k _ _ nb h).1,.inr #[o,(k _ _ nb h).2]]]
  ·exact#[a,e,.inr h]
 wm:=λ_ h=>h
def aVw(K:Ac):Fv:=λus R=>∃(ns:List Int)(k:Nat),us=[.op (aA0 K ns),.n (k:Int)]/\∀n:Int,R (.sh (.n n))
def bAi(x:Int): -(2 ^ 64)<x % 2147483647/\x % 2147483647<2 ^ 64:=by lia
def DUs.two(h:DUs W B H [u,v] vs):∃x y,vs=[x,y]/\DU W B H u x/\DU W B H v y:=by
 obtain⟨x,_,rfl,d1,y,r,rfl,d2,e⟩:=h;obtain rfl:r=[]:=e;exact#[x,y,rfl,d1,d2]
def aAz:aK ["_law_script","_law_k"] ["_law_script","_law_k"] (aC oA):={}
def aS8(F:Fun K "_law_cell_at" "_law_cell_at" oA f fd)(T:Txt mg):↥1 f fd ["_law_script","_law_k"] (spV (aVw K)):=by
 refine F.ok aAz (λvs H Q E h=>?_) (λaf A outer s H vs Q E hr h=>?_)
 ·obtain⟨W,B,us,R,eb,ds,⟨ns,k,rfl,_⟩,_⟩:=h;rw[<-ds.length];rfl
 ·obtain⟨W,B,us,R,eb,ds,⟨ns,k,rfl,hR⟩,q⟩:=h;obtain⟨x,y,rfl,⟨a,rfl,hs⟩,⟨rfl,_⟩⟩:=DUs.two ds;have hS:SqL K H a (ns.map V.int):=hs.elim (λh=> .inl h.2) λh=>h H;have q':∀n:Int,Q (.int n) H:=λn=>q _ _ _ (hR n) eb.refl #[rfl,rfl];refine#[_,(bC (xO (aBg aLc (pv 1) (qJ bF (by rfl) T.len PySem.boot_len (dW (pv 0) iZ)) (aCm _)) (dI (vW (aAf oW (pv 0) (pv 1) (λ_ _=>rfl)))) mU) (dI (vW dG))),?_];refine#[_,rfl,_,rfl,a,_,rfl,.inl hS,_,_,rfl,rfl,_,rfl,?_];by_cases h:k<ns.length
  ·refine bAh (Aa5 (by rw[Ab];lia)) ?_;exact#[_,rfl,_,rfl,a,_,_,_,rfl,rfl,hS,iQ (show(ns.map V.int)[k]? =some (.int ns[k]) by rw[Ap,Af h];rfl),q' _]
  ·exact bAg (Aa6 (by rw[Ab];lia)) (q' 0)
def vG:Fv:=λus R=>∃m:Int,us=[.wl,.n m]/\0<m/\m<2 ^ 62/\∀r:Int,0<=r->r<m->R (.sh (.n r))
def jV:aK ["_law_well_here","_law_most","_law_number_here"] ["_law_well_here","_law_most"] (aC uC):={}
def bC2(x:Int): -(2 ^ 64)<x % 2147483399/\x % 2147483399<2 ^ 64:=by lia
def aTa(F:Fun K "_law_draw" "_law_draw" uC f fd):↥1 f fd ["_law_well_here","_law_most"] (spV vG):=by
 refine F.ok jV (λvs H Q E h=>?_) (λaf A outer s H vs Q E hr h=>?_)
 ·obtain⟨W,B,us,R,eb,ds,⟨m,rfl,_⟩,_⟩:=h;rw[<-ds.length];rfl
 ·obtain⟨W,B,us,R,eb,ds,⟨m,rfl,hm,hm2,hR⟩,q⟩:=h;obtain⟨v1,v2,rfl,⟨a,rfl,wa⟩,⟨rfl,_⟩⟩:=DUs.two ds;obtain⟨x,y,z,ha⟩:=eb.wo a wa;have up:∀(x y z:Int),Fw W H (upd H a (.lst [.int x,.int y,.int z])):=λx y z=>⟨λb o nw h=>(aJ (λe:b=a=>nw (by rw[e];exact wa))).trans h,λp hp=>by
   by_cases e:p=a
   ·exact#[x,y,z,by rw[e,aL]]
   ·obtain⟨x',y',z',h⟩:=eb.wo p hp;exact#[x',y',z',(aJ e).trans h]⟩
  have fin:∀(t:Int)(H':Hp),Fw W H H'->Q (.int (t % m)) H':=λt H' fw=>q _ _ _ (hR (t % m) (Fu t ∅) (Ek t hm)) fw #[rfl,rfl];refine#[_,(bC (xO (aBg xM (aAf oW (pv 0) dG (λ_ _=>rfl)) dG (aCm _)) (bC (zE (i:=2) jV.nd rfl (Dy rfl) (gW nY (aAf oW (pv 0) dG (λ_ _=>rfl)) (pv 1))) (bC (aJ1 (gW xK (aAf oW (pv 0) dG (λ_ _=>rfl)) (pv 1)) (aJx (pv 0) dG set_list)) (dI (vW (pv 2))))) mU) (bC (aJ1 (gW vV (aAf oW (pv 0) dG (λ_ _=>rfl)) dG) (aJx (pv 0) dG set_list)) (bC (zE (i:=2) jV.nd rfl (Dy rfl) (gW nY (gW jJ (gW vV (gW vV (aAf oW (pv 0) dG (λ_ _=>rfl)) (gW jJ dG (aAf oW (pv 0) dG (λ_ _=>rfl)))) dG) dG) dG)) (bC (zE (i:=2) jV.nd rfl (Dy rfl) (gW nY (gW jJ (pv 2) (gW vV (gW xK (pv 2) dG) dG)) dG)) (bC (zE (i:=2) jV.nd rfl (Dy rfl) (gW nY (gW jJ (pv 2) (gW vV (gW xK (pv 2) dG) dG)) dG)) (dI (vW (gW nY (gW vV (gW jJ (pv 2) dG) (gW xK (pv 2) dG)) (pv 1))))))))),?_];refine#[_,rfl,a,_,_,_,rfl,rfl,SqL.of ha,rfl,_,_,rfl,rfl,_,rfl,?_];refine bCz (λ_=>?_) (λ_=>?_)
  ·refine#[_,rfl,a,_,_,_,rfl,rfl,SqL.of ha,rfl,_,rfl,_,_,rfl,rfl,hm,?_];refine#[_,rfl,a,_,_,_,rfl,rfl,SqL.of ha,rfl,_,rfl,_,_,rfl,rfl,#[hm,hm2],?_];refine#[_,rfl,a,_,_,1,rfl,rfl,ha,rfl,?_];exact#[_,rfl,fin _ _ (up _ _ _)]
  ·refine#[_,rfl,a,_,_,_,rfl,rfl,SqL.of ha,rfl,_,_,rfl,rfl,?_];refine#[_,rfl,a,_,_,2,rfl,rfl,ha,rfl,?_];have hb:(upd H a (.lst ([V.int x,V.int y,V.int z].set 2 (.int (z+1))))) a=some (.lst [.int x,.int y,.int (z+1)]):=aL;refine#[_,rfl,a,_,_,_,rfl,rfl,SqL.of hb,rfl,_,rfl,a,_,_,_,rfl,rfl,SqL.of hb,rfl,_,_,rfl,rfl,.inl #[⋯,⋯],_,_,rfl,rfl,_,_,rfl,rfl,_,_,rfl,rfl,.inr #[⋯,⋯],_,_,rfl,rfl,(by show(0:Int)<2147483647;decide),?_];refine#[_,rfl,_,rfl,_,_,rfl,rfl,#[⋯,⋯],_,_,rfl,rfl,_,_,rfl,rfl,.inl (bAi _),_,_,rfl,rfl,(by show(0:Int)<2147483647;decide),?_];refine#[_,rfl,_,rfl,_,_,rfl,rfl,#[⋯,⋯],_,_,rfl,rfl,_,_,rfl,rfl,.inl (bAi _),_,_,rfl,rfl,(by show(0:Int)<2147483399;decide),?_];refine#[_,rfl,_,_,rfl,rfl,.inl (bC2 _),_,rfl,_,_,rfl,rfl,#[⋯,⋯],_,_,rfl,rfl,_,rfl,_,_,rfl,rfl,hm,?_];exact fin _ _ (up _ _ _)
def aH8{α:Type}{g:Tk->U}{f:U->(Option U->Prop)->Prop}{Q:List U->Prop}(hf:∀y∈ys,∀k:Option U->Prop,k (some (g y))->f (tkU y) k)(hq:Q (ys.map g)):mJ f (ys.map tkU) [] Q:=by
 have key:∀(zs:List Tk)(ag:List U),(∀y∈zs,∀k:Option U->Prop,k (some (g y))->f (tkU y) k)->Q (ag++zs.map g)->mJ f (zs.map tkU) ag Q:=by
  intro zs;induction zs with
  |nil=>exactλag _ q=>by rw[Fq,Bi]at q;exact q
  |cons z zs ih=>exactλag hf q=>hf z Ag _ (ih _ (λy hy=>hf y (Ah _ hy)) (by rw[Bm];exact q))
 exact key ys [] hf hq
def aPt(n:Nat)(ns:List Int):U.dts n (ns.map U.n):=by
 induction ns with
 |nil=>cases n<;>trivial
 |cons r rs ih=>cases n<;>exact#[trivial,ih]
def aUs(n:Nat)(ys:List Tk):U.dts (n+2) (ys.map tkU):=by
 induction ys with
 |nil=>trivial
 |cons y ys ih=>exact#[#[trivial,aPt n y.2,trivial],ih]
def aUt(ys:List Tk):U.eq (.ls (ys.map tkU)) (.ls [])=ys.isEmpty:=by cases ys<;>rfl
def pU(p:List Int):U:=.tp (p.map U.n)
def ext(n:Int)(p:List Int):List (List Int):=(Dl n.toNat).map λ(i:Nat)=>p++[0+(i:Int)]
def cF(ns:List Int):List (List Int):=ns.foldl (λps n=>ps.flatMap (ext n)) [[]]
abbrev plU(ns:List Int):List U:=(cF ns).map pU
def spU(pl:List U)(n:Nat):List U:=(Dl n).flatMap λ(j:Nat)=>pl.map λu=> .tp [.n (1+(j:Int)),u]
theorem aPi{x:Str}(q:R (.sh u)):∀{xs:List Str}{us:List U}{k:Nat},xs.Nodup->xs[k]? =some x->us[k]? =some u->aDk x xs us R
 | [],_,_,_,h,_=>by simp at h
 |_::_,[],_,_,_,h=>by simp at h
 |a::xs,v::us,0,_,h1,h2=>by
  simp at h1 h2;subst h1 h2;exact .inl #[rfl,q]
 |a::xs,v::us,k+1,nd,h1,h2=>by
  have h1:xs[k]? =some x:=by simpa using h1
  refine .inr #[λe=>?_,aPi q (Ef.mp nd).2 h1 (by simpa using h2)];subst e;exact(Ef.mp nd).1 (Bl h1)
def aH1(pl:List U)(n:Nat):spU pl n++(pl.map λu=> .tp [.n (1+(n:Int)),u])=spU pl (n+1):=by
 unfold spU;rw[Vw,Mx];simp
def byR:Rim->Int->Int->Option Int
 |.fixed _,s,x=>if 0<=x/\x<s then some x else none
 |.mirror,s,x=>if 0<=x/\x<s then some x else some (mir s x)
 |.round,s,x=>if 0<=x/\x<s then some x else some (x % s)
def oU:Option Int->U
 |none=> .no
 |some i=> .n i
def aZx:Fv:=λus R=>∃(r:Rim)(s x:Int),us=[r.u,.n s,.n x]/\0<s/\s<=9/\R (.sh (oU (byR r s x)))
def zQ:aK ["rim","size","number"] ["rim","size","number"] (aC lX):={}
def aQd(F:Fun K "number_by_rim" "number_by_rim" lX f fd)(aI1:⇑1 "mirrored" ["size","number"] (spV aZy)):↥2 f fd ["rim","size","number"] (spV aZx):=by
 refine vfn F zQ (λaf A outer s H E hr=>(aG (bT (aC5 aAe aLc cU cU aH (aA 2) (aA 1)) (aF (gP 2)) aU) (aG (bT #v[e] (aF (aN (aW nY lQ (aA 2) (aA 1)))) aU) (aG (bT #v[e] (aF (aN (aM aI1 (hr.mono ⋯) rfl (aB (aA 1) (aB (aA 2) aD))))) aU) (aF (aN wL)))))) ?_;rintro _ R ⟨r,s,x,rfl,h1,h2,q⟩;refine#[rfl,?_];have fin:(0<=x/\x<s)->R (.sh (.n x)):=λh=>by
  have:byR r s x=some x:=by cases r<;>exact Aa1 h
  rw[this]at q;exact q
 have no:∀{k:Bool},k=false->¬k=true:=λh z=>by rw[h]at z;cases z
 refine#[λh=>#[λh'=>fin #[Aa3 h,Aa3 h'],λh'=>?_],λh=>#[nofun,λ_=>?_]]
 all_goals
  have nn:¬(0<=x/\x<s):=λz=>by first|exact Aa2 z.2 (Aa4 h')|exact Aa2 z.1 (Aa4 h)
  clear fin;cases r with
  |fixed c=>
   rw[show byR (.fixed c) s x=none from Aa0 nn]at q;exact#[_,rfl,trivial,trivial,λz=>Aa2 z (no #v[1]),λ_=>#[_,rfl,trivial,trivial,λz=>Aa2 z (no #v[1]),λ_=>q]]
  |mirror=>
   rw[show byR .mirror s x=some (mir s x)from Aa0 nn]at q;exact#[_,rfl,trivial,trivial,λz=>Aa2 z (no #v[1]),λ_=>#[_,rfl,trivial,trivial,λ_=>#[s,x,rfl,h1,∅,q],λz=>Aa2 (show _=true by decide+kernel) (no z)]]
  |round=>
   rw[show byR .round s x=some (x % s)from Aa0 nn]at q;exact#[_,rfl,trivial,trivial,λ_=>#[h1,q],λz=>Aa2 (show _=true by decide+kernel) (no z)]
def Rim.c:Rim->Int
 |.fixed c=>c
 |_=>0
def bes:List Int->List Rim->List Int->List Int->Except Int (List Int)
 |n::ns,r::rs,i::is,s::ss=>match byR r n (i+s)with
  |none=> .error r.c
  |some x=>match bes ns rs is ss with
   |.error c=> .error c
   |.ok l=> .ok (x::l)
 |_,_,_,_=> .ok []
def bCs:Except Int (List Int)->U
 |.error c=> .tp [.s "rim",.n c]
 |.ok l=> .tp [.s "place",.tp (l.map U.n)]
def pre(xs:List Int):Except Int (List Int)->Except Int (List Int)
 |.error c=> .error c
 |.ok l=> .ok (xs++l)
def aZw(C:Addr):Fv:=λus R=>∃(ns:List Int)(rs:List Rim)(is ss:List Int),us=[grU C ns rs,.tp (is.map U.n),.tp (ss.map U.n)]/\jD ns/\rs.length=ns.length/\is.length=ns.length/\ss.length=ns.length/\R (.sh (bCs (bes ns rs is ss)))
def gA:aK ["self","place","steps","numbers","line","rim","number"] ["self","place","steps"] (aC pP):={}
def aP7(F:Fun K "beside" "Grid.beside" pP f fd)(cG:Cfl K C ["sizes","rims"])(aAn:⇑2 "number_by_rim" ["rim","size","number"] (spV aZx))(T:Txt mg):↥3 f fd ["self","place","steps"] (spV (aZw C)):=by
 refine vfn F gA (λaf A outer s H E hr=>(aG (aR (i:=3) gA.nd (cR aD)) (aG (fH Bw rfl (aLw T.enumerate (aB (bD cG (aA 0)) aD)) (aC7 rfl (iM (i:=4) gA.nd (iM (i:=5) gA.nd xZ))) (aG (aR (i:=6) gA.nd (aM aAn (hr.mono ⋯) rfl (aB (aA 5) (aB (bA aQ aZ (bD cG (aA 0)) (aA 4)) (aB (aW bN cC (bA aQ aZ (aA 1) (aA 4)) (bA aQ aZ (aA 2) (aA 4))) aD))))) (aG (bT (aYw (aA 6)) (aF (aN (bV (aB bI (aB (bA aQ aZ (aA 5) aH) aD))))) aU) (aF (aKh 3 (aA 6)))))) (aF (aN (bV (aB bI (aB (eZ (tK rfl) aB4 T.tuple Lv (aP (aA 3) aY)) aD)))))))) ?_;rintro _ R ⟨ns,rs,is,ss,rfl,gs,el,il,sl,q⟩;refine#[rfl,rfl,.inr #[by decide+kernel,.inl #[rfl,?_]]];refine cL (λl ρ=>∃(k:Nat)(qs:List Rim)(xs:List Int)(x y z:Sl),l=(qs.map Rim.u |>.zipIdx k).map (λx=> .tp [.n (x.2:Nat),x.1])/\ρ=[.sh (grU C ns rs),.sh (.tp (is.map U.n)),.sh (.tp (ss.map U.n)),.ow (xs.map U.n),x,y,z]/\k+qs.length=ns.length/\xs.length=k/\bes ns rs is ss=pre xs (bes (ns.drop k) qs (is.drop k) (ss.drop k))) ?_ ?_ #[0,rs,[],_,_,_,rfl,rfl,∅,rfl,by rw[Ms,Ms,Ms];cases bes ns rs is ss<;>rfl]
 ·rintro ρ ⟨k,qs,xs,x,y,z,e,rfl,hk,_,hb⟩;have:qs=[]:=by
   cases qs with
   |nil=>rfl
   |cons _ _=>cases e
  subst this;have h0:ns.drop k=[]:=List.drop_eq_nil_iff.mpr (by rw[Jw]at hk;lia);rw[hb,h0]at q;have:bes [] [] (is.drop k) (ss.drop k)=.ok []:=rfl;rw[this]at q;have q:R (.sh (.tp [.s "place",.tp ((xs++[]).map U.n)])):=q;rw[Bi]at q;exact q
 ·rintro u l ρ ⟨k,qs,xs,x,y,z,e,rfl,hk,xk,hb⟩ ih;match qs,e,hk,hb with
  |r::qs,e,hk,hb=>
   cases e;rw[An]at hk;have hn:k<ns.length:=by lia
   have hi:k<is.length:=by lia
   have hs:k<ss.length:=by lia
   have ok:=gs.ok _ (Gc hn);have at_:∀{l:List Int}(h:k<l.length),atI (l.map U.n) (k:Int)=some (U.n l[k]):=λ{l} h=>iQ (by rw[Ap,Af h];rfl);rw[Dv hn,Dv hi,Dv hs]at hb;have hb':bes ns rs is ss=pre xs (match byR r ns[k] (is[k]+ss[k])with
    |none=> .error r.c
    |some x=>match bes (ns.drop (k+1)) qs (is.drop (k+1)) (ss.drop (k+1))with
     |.error c=> .error c
     |.ok l=> .ok (x::l)):=hb
   refine#[rfl,rfl,.inl #[rfl,_,at_ hn,_,at_ hi,_,at_ hs,r,ns[k],is[k]+ss[k],rfl,∅,∅,?_]];cases hy:byR r ns[k] (is[k]+ss[k])with
   |none=>
    rw[hy]at hb';have hb':bes ns rs is ss=.error r.c:=hb';rw[hb']at q;refine#[λ_=>?_,nofun];cases r with
    |fixed c=>exact#[_,rfl,q]
    |mirror=>exact Aa2 hy (by simp only[byR];split<;>nofun)
    |round=>exact Aa2 hy (by simp only[byR];split<;>nofun)
   |some v=>
    rw[hy]at hb';refine#[nofun,λ_=>?_];refine#[?_,ih _ #[k+1,qs,xs++[v],_,_,_,rfl,by rw[Cc];rfl,∅,by rw[Ak,xk];rfl,?_]]
    ·rw[Ab,xk];have:=gs.l3;lia
    ·rw[hb'];cases bes (ns.drop (k+1)) qs (is.drop (k+1)) (ss.drop (k+1))with
     |error c=>rfl
     |ok l=>show Zc _=Zc _;rw[Bm];rfl
variable {CG CJ:Addr}
def whr(ns:List Int)(rs:List Rim)(q y:Tk):U:=match bes ns rs q.2 y.2 with
 |.error c=> .tp [.s "rim",.n c]
 |.ok l=>if 0<q.1-y.1 then .tp [.s "spot",tkU (q.1-y.1,l)]else .tp [.s "first",tkU (q.1-y.1,l)]
def aPe(N:Cn)(CG CJ:Addr):Fv:=λus R=>∃ns rs t ys m r ls,∃q y:Tk,us=[nR N CG CJ ns rs t ys m r ls,tkU q,tkU y]/\jD ns/\rs.length=ns.length/\q.2.length=ns.length/\y.2.length=ns.length/\R (.sh (whr ns rs q y))
def rO:aK ["self","spot","take","beside","round_at"] ["self","spot","take"] (aC uB):={}
def aHm(F:Fun K "where" "Job.where" uB f fd)(cJ:Cfl K CJ ["taken","grid","term","modulus","rounds","first"])(aN0:Dis P w K mg base CX0 3 (·=CG) "beside" ["self","place","steps"] λ_=>spV (aZw CG))(T:Txt mg):↥4 f fd ["self","spot","take"] (spV (aPe N CG CJ)):=by
 refine vfn F rO (λaf A outer s H E hr=>(aG (aR (i:=3) rO.nd (cZ (bD cJ (aA 0)) aN0 (hr.mono ⋯) (aB (bA aQ aZ (aA 1) aH) (aB (bA aQ aZ (aA 2) aH) aD)))) (aG (bT (bH (cH (huD hr)) cY (bA aQ aZ (aA 3) aH) bI) (aF (gP 3)) aU) (aG (aR (i:=4) rO.nd (aW fY cU (bA aQ aZ (aA 1) aH) (bA aQ aZ (aA 2) aH))) (aG (bT (bH xM cU (aA 4) aH) (aF (aN (bV (aB bI (aB (bV (aB (aA 4) (aB (bA aQ aZ (aA 3) aH) aD))) aD))))) aU) (aF (aN (bV (aB bI (aB (bV (aB (aA 4) (aB (bA aQ aZ (aA 3) aH) aD))) aD)))))))))) ?_;rintro _ R ⟨ns,rs,t,ys,m,r,ls,q0,y,rfl,gs,el,ql,yl,q⟩;have no:∀{k:Bool},k=false->¬k=true:=λh z=>by rw[h]at z;cases z
 refine#[rfl,rfl,.inr #[by decide+kernel,.inl #[rfl,rfl,rfl,_,rfl,_,rfl,ns,rs,q0.2,y.2,rfl,gs,el,ql,yl,?_]]];unfold whr at q;cases hb:bes ns rs q0.2 y.2 with
 |error c=>
  rw[hb]at q;exact#[_,rfl,trivial,trivial,λ_=>q,λz=>Aa2 (show _=true by decide+kernel) (no z)]
 |ok l=>
  rw[hb]at q;refine#[_,rfl,trivial,trivial,λz=>Aa2 z (no #v[1]),λ_=>#[_,rfl,_,rfl,λz=>?_,λz=>?_]]
  ·have q:R (.sh (if 0<q0.1-y.1 then .tp [.s "spot",tkU (q0.1-y.1,l)]else .tp [.s "first",tkU (q0.1-y.1,l)])):=q;rw[Aa1 (Aa3 z)]at q;exact#[_,rfl,q]
  ·have q:R (.sh (if 0<q0.1-y.1 then .tp [.s "spot",tkU (q0.1-y.1,l)]else .tp [.s "first",tkU (q0.1-y.1,l)])):=q;rw[Aa0 (Aa4 z)]at q;exact#[_,rfl,q]
def rdU(ns:List Int)(rs:List Rim)(q y:Tk):U:=.tp [tkU y,whr ns rs q y]
def aPb(N:Cn)(CG CJ:Addr):Fv:=λus R=>∃ns rs t ys m r ls,∃q:Tk,us=[nR N CG CJ ns rs t ys m r ls,tkU q]/\jD ns/\rs.length=ns.length/\q.2.length=ns.length/\(∀y∈ys,y.2.length=ns.length)/\ys.length<=17/\R (.ow (ys.map (rdU ns rs q)))
abbrev aBs:List Str:=["self","spot"]
def aAx:aK ["self","spot"] ["self","spot"] (aC jO):={}
def aHl(F:Fun K "reads_of" "Job.reads_of" jO f fd)(cJ:Cfl K CJ ["taken","grid","term","modulus","rounds","first"])(D_where:Dis P w K mg base CX0 4 (·=CJ) "where" ["self","spot","take"] λ_=>spV (aPe N CG CJ))(T:Txt mg):↥5 f fd ["self","spot"] (spV (aPb N CG CJ)):=by
 refine vfn F aAx (λaf A outer s H E hr=>(aF (aN (iK (own:=["take"]) (cap:=[("self",0),("spot",1)]) (aC jO) aBs rfl rfl (λx h=>bO h) #v[1] rfl (vic (bY (bD cJ (aA 0)))) ↑(bU (i:=0) (~~~["take","self","spot"]) rfl (Dy rfl) (Ew rfl)) (cO ⋯) ↑(bV (aB (aA 0) (aB (cZ (aA 1) D_where (hr.mono ⋯) (aB (aA 2) (aB (aA 0) aD))) aD))))))) ?_;rintro _ R ⟨ns,rs,t,ys,m,r,ls,q0,rfl,gs,el,ql,yl,yn,q⟩;exact#[rfl,rfl,.inl #[rfl,by rw[Ab];lia,aH8 (α:=Unit) (g:=rdU ns rs q0) (λy hy k hk=>#[rfl,rfl,ns,rs,t,ys,m,r,ls,q0,y,rfl,gs,el,ql,yl y hy,hk]) q]]
def aV1:Fv:=λus R=>∃(ps:List (List Int))(n:Int),us=[.ls (ps.map pU),.n n]/\0<=n/\n<=9/\(ps.flatMap (ext n)).length<=1000/\(∀p∈ps,p.length<=3)/\R (.ow ((ps.flatMap (ext n)).map pU))
def nF:aK ["places","size","longer","place","number"] ["places","size"] (aC uF):={}
def aTn(F:Fun K "with_line" "with_line" uF f fd)(T:Txt mg):↥1 f fd ["places","size"] (spV aV1):=by
 refine vfn F nF (λaf A outer s H E hr=>(aG (aR (i:=2) nF.nd (cR aD)) (aG (fH Bw rfl (bY (aA 0)) (fQ (i:=3) nF.nd) (aF (fH Bw rfl (oJ T.range (aP (aA 1) aY)) (fQ (i:=4) nF.nd) (aF (aKh 2 (aW bN cC (aA 3) (bV (aB (aA 4) aD)))))))) (aF (gP 2))))) ?_;rintro _ R ⟨ps,n,rfl,n0,n9,hl,hp,q⟩;refine#[rfl,?_];show mL (pX 3) _ _ (ps.map pU) _;refine cL (λl ρ=>∃(qs rest:List (List Int))(x y:Sl),l=rest.map pU/\ρ=[.sh (.ls (ps.map pU)),.sh (.n n),.ow (qs.map pU),x,y]/\(∀p∈rest,p.length<=3)/\qs++rest.flatMap (ext n)=ps.flatMap (ext n)) ?_ ?_ #[[],ps,_,_,rfl,rfl,hp,rfl]
 ·rintro ρ ⟨qs,rest,x,y,e,rfl,_,ee⟩;obtain rfl:rest=[]:=Bo.mp e.symm;rw[Vh,Bi]at ee;rw[<-ee]at q;exact q
 ·rintro u l ρ ⟨qs,rest0,x,y,e,rfl,h3,ee⟩ ih;cases rest0 with
  |nil=>cases e
  |cons p rest=>
   obtain⟨rfl,rfl⟩:=Dq e;have p3:=h3 p Ag;refine#[∅,∅,?_];refine cL (λl ρ=>∃(js:List Nat)(qs':List (List Int))(y:Sl),l=js.map (λi:Nat=>U.n (0+(i:Int)))/\ρ=[.sh (.ls (ps.map pU)),.sh (.n n),.ow (qs'.map pU),.sh (pU p),y]/\qs'++js.map (λi:Nat=>p++[0+(i:Int)])=qs++ext n p) ?_ ?_ #[Dl n.toNat,qs,_,rfl,rfl,rfl]
   ·rintro ρ ⟨js,qs',y,e,rfl,e2⟩;obtain rfl:js=[]:=Bo.mp e.symm;rw[Fq,Bi]at e2;exact ih _ #[qs',rest,_,_,rfl,rfl,λp hp=>h3 p (Ah _ hp),by rw[e2,Bm];exact ee]
   ·rintro u l ρ ⟨js0,qs',y,e,rfl,e2⟩ ih2;cases js0 with
    |nil=>cases e
    |cons j js=>
     obtain⟨rfl,rfl⟩:=Dq e;have l2:=Aa9 Jx e2;have l3:=Aa9 Jx ee;simp only[Ak,Gj,Ab,An]at l2 l3;refine#[by rw[Ab];lia,by rw[Ab];show _+1<=10000;lia,?_];have e3:(qs'.map pU++[U.tp (p.map U.n++[U.n (0+(j:Int))])])=(qs'++[p++[0+(j:Int)]]).map pU:=by
      rw[Cc];show _=_++[U.tp ((p++[0+(j:Int)]).map U.n)];rw[Cc];rfl
     exact ih2 _ #[js,qs'++[p++[0+(j:Int)]],.sh (.n (0+(j:Int))),rfl,by rw[<-e3];rfl,by rw[Bm];exact e2]
theorem yO:∀(ms:List Int)(ps:List (List Int)),(∀n∈ms,1<=n)->ps.length<=(ms.foldl (λps n=>ps.flatMap (ext n)) ps).length
 | [],_,_=>Am _
 |n::ms,ps,h=>by
  refine Bs ?_ (yO ms (ps.flatMap (ext n)) λm hm=>h m (Ah _ hm));have h1:=h n Ag;have el:∀p,(ext n p).length=n.toNat:=λp=>by unfold ext;rw[Ab,Hg]
  clear h;induction ps with
  |nil=>exact Bt _
  |cons p ps ih=>
   rw[Gj,Ak,el,An]
   lia
def aO3(C:Addr):Fv:=λus R=>∃ns rs,us=[grU C ns rs]/\jD ns/\(cF ns).length<=40/\∀s,s=.ow (plU ns)∨s=.sh (.ls (plU ns))->R s
def eV:aK ["self","places","size"] ["self"] (aC jM):={}
def aS6(F:Fun K "all_places" "Grid.all_places" jM f fd)(cG:Cfl K C ["sizes","rims"])(aGv:⇑1 "with_line" ["places","size"] (spV aV1))(T:Txt mg):↥2 f fd ["self"] (spV (aO3 C)):=by
 refine vfn F eV (λaf A outer s H E hr=>(aG (aR (i:=1) eV.nd (cR (aB (bV aD) aD))) (aG (fH Bw rfl (bY (bD cG (aA 0))) (fQ (i:=2) eV.nd) (sE 1 (aF (aR (i:=1) eV.nd (aM aGv (hr.mono ⋯) rfl (aB (aA 1) (aB (aA 2) aD))))))) (aF (gP 1))))) ?_;rintro _ R ⟨ns,rs,rfl,gs,hl,q⟩;refine#[rfl,rfl,.inl #[rfl,?_]];show mL (pX 2) _ _ (ns.map U.n) _;have l3:=gs.l3;refine cL (λl ρ=>∃(ms:List Int)(ps:List (List Int))(s x:Sl),l=ms.map U.n/\(s=.ow (ps.map pU)∨s=.sh (.ls (ps.map pU)))/\ρ=[.sh (grU C ns rs),s,x]/\(∀n∈ms,1<=n/\n<=9)/\(∀p∈ps,p.length+ms.length<=3)/\ms.foldl (λps n=>ps.flatMap (ext n)) ps=cF ns) ?_ ?_ #[ns,[[]],_,_,rfl,.inl rfl,rfl,gs.ok,λp hp=>by rw[Bf.mp hp];show 0+_<=3;lia,rfl]
 ·rintro ρ ⟨ms,ps,s,x,e,hs,rfl,_,_,ee⟩;obtain rfl:ms=[]:=Bo.mp e.symm;have ee:ps=cF ns:=ee;subst ee;rcases hs with rfl|rfl
  ·exact q _ (.inl rfl)
  ·exact q _ (.inr rfl)
 ·rintro u l ρ ⟨ms0,ps,s,x,e,hs,rfl,hm,h3,ee⟩ ih;cases ms0 with
  |nil=>cases e
  |cons n ms=>
   obtain⟨rfl,rfl⟩:=Dq e;have hn:=hm n Ag;have hm':∀x∈ms,1<=x/\x<=9:=λx hx=>hm x (Ah _ hx);have ee:ms.foldl (λps n=>ps.flatMap (ext n)) (ps.flatMap (ext n))=cF ns:=ee;have le:=yO ms (ps.flatMap (ext n)) λx hx=>(hm' x hx).1;rw[ee]at le;have nx:=ih [.sh (grU C ns rs),.ow ((ps.flatMap (ext n)).map pU),.sh (.n n)] ⟨ms,ps.flatMap (ext n),_,_,rfl,.inl rfl,rfl,hm',λp hp=>by
    obtain⟨p0,h0,h1⟩:=Fh.mp hp;obtain⟨i,_,rfl⟩:=Ay.mp h1;have:=h3 p0 h0;rw[An]at this;rw[Ak];show _+1+_<=3;lia,ee⟩
   rcases hs with rfl|rfl
   ·exact#[ps,n,rfl,∅,∅,∅,λp hp=>by have:=h3 p hp;lia,nx]
   ·exact#[ps,n,rfl,∅,∅,∅,λp hp=>by have:=h3 p hp;lia,nx]
def aUl(pl:List U)(n:Nat)(h:pl.length<=40):(spU pl n).length<=40*n:=by
 induction n with
 |zero=>exact Am _
 |succ n ih=>
  rw[<-aH1,Ak,Ab]
  lia
def aVv(N:Cn)(CG CJ:Addr):Fv:=λus R=>∃ns rs t ys m r ls,us=[nR N CG CJ ns rs t ys m r ls]/\jD ns/\(cF ns).length<=40/\0<=r/\r<=12/\R (.ow (spU (plU ns) r.toNat))
abbrev aAm:List Str:=["self","places","spots","round_at"]
def gM:aK ["self","places","spots","round_at"] ["self"] (aC iR):={}
def aS7(F:Fun K "all_spots" "Job.all_spots" iR f fd)(cJ:Cfl K CJ ["taken","grid","term","modulus","rounds","first"])(D_all_places:Dis P w K mg base CX0 2 (·=CG) "all_places" ["self"] λ_=>spV (aO3 CG))(T:Txt mg):↥3 f fd ["self"] (spV (aVv N CG CJ)):=by
 refine vfn F gM (λaf A outer s H E hr=>(aG (aR (i:=1) gM.nd (bZ (bD cJ (aA 0)) D_all_places (hr.mono ⋯))) (sE 1 (aG (aR (i:=2) gM.nd (cR aD)) (aG (fH Bw rfl (aE0 T.range (aP aH (aP (aW bN cC (bD cJ (aA 0)) aH) aY))) (fQ (i:=3) gM.nd) (aF (aSe 2 (iK (own:=["place"]) (cap:=[("round_at",3)]) (aC iR) aAm rfl rfl (λx h=>bO h) #v[1] rfl (vic (bY (aA 1))) ↑(bU (i:=0) (~~~["place","round_at"]) rfl (Dy rfl) (Ew rfl)) (cO ⋯) ↑(bV (aB (aA 1) (aB (aA 0) aD))))))) (aF (gP 2))))))) ?_;rintro _ R ⟨ns,rs,t,ys,m,r,ls,rfl,gs,hl,r0,r12,q⟩;have pl40:(plU ns).length<=40:=by rw[Ab];exact hl
 have main:mL (pX 3) (aYp 2 (aEx 1 [("round_at",3)] (vLs (aC2 1)) (pX 0) (bCc (sW (aC2 1) (sW (aC2 0) aGa))))) {nx:=aR5 2 {nx:=λ_=>R (.sh .no),rt:=R},rt:=R} (qI 1 (r+1-1).toNat) [.sh (nR N CG CJ ns rs t ys m r ls),.sh (.ls (plU ns)),.ow [],.no]:=by
  refine cL (λl ρ=>∃(k:Nat)(x:Sl),l=(List.range' k (r.toNat-k)).map (λi:Nat=>U.n (1+(i:Int)))/\k<=r.toNat/\ρ=[.sh (nR N CG CJ ns rs t ys m r ls),.sh (.ls (plU ns)),.ow (spU (plU ns) k),x]) ?_ ?_ #[0,_,by rw[Yv, <-List.range_eq_range',show(r+1-1)=r by lia];rfl,Bt _,rfl]
  ·rintro ρ ⟨k,x,e,hk,rfl⟩;have:k=r.toNat:=by
    have:=Aa9 Jx e;simp at this
    lia
   subst this;exact q
  ·rintro u l ρ ⟨k,x,e,hk,rfl⟩ ih;have hlt:k<r.toNat:=by
    have:=Aa9 Jx e;simp at this
    lia
   rw[show r.toNat-k=(r.toNat-(k+1))+1 by lia,List.range'_succ,Br]at e;obtain⟨rfl,rfl⟩:=Dq e;have sl:=aUl (plU ns) k pl40;refine#[∅,iG (h:=λu=> .tp [.n (1+(k:Int)),u]) (λu hu c hc=>hc) #[?_,?_]]
   ·rw[Di,Ab];lia
   ·rw[Di];exact ih _ #[k+1,_,rfl,hlt,by rw[<-aH1];rfl]
 refine#[rfl,rfl,.inr #[by decide+kernel,.inl #[rfl,rfl,rfl,ns,rs,rfl,gs,hl,λs hs=>?_]]];rcases hs with rfl|rfl
 all_goals
  refine#[rfl,show aDk "rounds" ["taken","grid","term","modulus","rounds","first"] _ _ from aPi (xs:=["taken","grid","term","modulus","rounds","first"]) (k:=4) (u:=.n r) ?_ #v[1] rfl rfl];exact#[#[∅,∅,∅,∅],main]
theorem pull{α:Type}{g:α->U}{p:α->Prop}:∀{xs:List U},(∀x∈xs,∃a,x=g a/\p a)->∃as:List α,xs=as.map g/\∀a∈as,p a
 | [],_=>#[[],rfl,nofun]
 |x::xs,h=>by
  obtain⟨a,rfl,ha⟩:=h x Ag;obtain⟨as,rfl,hs⟩:=pull λy hy=>h y (Ah _ hy);exact⟨a::as,rfl,λb hb=>by
   rcases Ax.mp hb with rfl|hb
   ·exact ha
   ·exact hs b hb⟩
def cX(lo:Int)(n:Nat):(qI lo n).length=n:=by simp[qI]
def two{r:Int}(h0:0<=r)(h2:r<2){u v:U}{R:U->Prop}(a:R u)(b:R v):∃x,atI [u,v] r=some x/\R x:=by
 have:r=0∨r=1:=by lia
 rcases this with rfl|rfl
 ·exact#[_,rfl,a]
 ·exact#[_,rfl,b]
def three{r:Int}(h0:0<=r)(h2:r<3){u v w:U}{R:U->Prop}(a:R u)(b:R v)(c:R w):∃x,atI [u,v,w] r=some x/\R x:=by
 have:r=0∨r=1∨r=2:=by lia
 rcases this with rfl|rfl|rfl
 ·exact#[_,rfl,a]
 ·exact#[_,rfl,b]
 ·exact#[_,rfl,c]
def aV0(K:Ac):Fv:=λus R=>∃(ns:List Int)(k:Nat),us=[.op (aA0 K ns),.n (k:Int)]/\∀a b c:Int,R (.ow [.n a,.n b,.n c])
def xX:aK ["_law_script","_law_k","_law_cell"] ["_law_script","_law_k"] (aC uD):={}
def aTm(F:Fun K "_law_well" "_law_well" uD f fd)(aBz:⇑1 "_law_cell_at" ["_law_script","_law_k"] (spV (aVw K)))(T:Txt mg):↥2 f fd ["_law_script","_law_k"] (spV (aV0 K)):=by
 refine vfn F xX (λaf A outer s H E hr=>(aG (aR (i:=2) xX.nd (aM aBz (hr.mono ⋯) rfl (aB (aA 0) (aB (aA 1) aD)))) (aF (aN (cR (aB (aW bN cC (aW nY lQ (aA 2) aH) (aA 1)) (aB (bA aQ aZ (cR (aB aH (aB (aA 2) aD))) (eZ aEa aOs T.int boot_int (aP (zU bAs cU (aA 2) (aW aCn lQ aH aH)) aY))) (aB aH aD)))))))) ?_;rintro _ R ⟨ns,k,rfl,q⟩;refine#[rfl,ns,k,rfl,λn=>?_];have key:∀c:Bool,∃u,atI [U.n 0,U.n n] (if c=true then 1 else 0)=some u/\∃a,u=.n a:=λc=>by
  cases c
  ·exact#[_,rfl,_,rfl]
  ·exact#[_,rfl,_,rfl]
 obtain⟨u,e,a,rfl⟩:=key (decide ((10:Int) ^ (18:Int).toNat<=n));exact#[by show(0:Int)<2147483647;decide,#[⋯,⋯,⋯],_,e,q _ a 0]
def aHb(ns:List Int)(a s:Int):(ns++[s]).foldl (λa n=>a*n) a=ns.foldl (λa n=>a*n) a*s:=by rw[Nx];rfl
theorem xN:∀(ns:List Int)(a:Int),(∀n∈ns,1<=n)->1<=a->1<=ns.foldl (λa n=>a*n) a
 | [],_,_,h=>h
 |n::ns,a,h,h0=>xN ns (a*n) (λm hm=>h m (Ah _ hm)) (by
  have h1:=h n Ag;have:=Int.mul_le_mul h0 h1 ∅ ∅
  lia)
def aPc:Fv:=λus R=>us=[.wl]/\∀ns:List Int,jD ns->R (.ow (ns.map U.n))
def fB:aK ["_law_well_here","_law_sizes_here","_law_left","_law_k","_law_size"] ["_law_well_here"] (aC rJ):={}
def aQs(F:Fun K "_law_sizes" "_law_sizes" rJ f fd)(aO:⇑1 "_law_draw" ["_law_well_here","_law_most"] (spV vG))(T:Txt mg):↥2 f fd ["_law_well_here"] (spV aPc):=by
 refine vfn F fB (λaf A outer s H E hr=>(aG (aR (i:=1) fB.nd (cR aD)) (aG (aR (i:=2) fB.nd aH) (aG (fH Bw rfl (oJ T.range (aP (aW bN cC aH (aM aO (hr.mono ⋯) rfl (aB (aA 0) (aB aH aD)))) aY)) (fQ (i:=3) fB.nd) (aG (aR (i:=4) fB.nd (aW bN cC aH (aM aO (hr.mono ⋯) rfl (aB (aA 0) (aB (bR (yL rfl) aKt T.min boot_min (aP aH (aP (aA 2) aY))) aD))))) (aG (aKh 1 (aA 4)) (aF (aR (i:=2) fB.nd (aW aBd lQ (aA 2) (aA 4))))))) (aF (gP 1)))))) ?_;rintro _ R ⟨rfl,q⟩;refine#[rfl,3,rfl,⋯,⋯,λr r0 r3=>#[∅,∅,?_]];refine cL (λl ρ=>∃(ns:List Int)(lf:Int)(x y:Sl),ns.length+l.length<=3/\1<=ns.length+l.length/\(∀n∈ns,1<=n/\n<=9)/\1<=lf/\dC ns*lf<=40/\ρ=[.sh .wl,.ow (ns.map U.n),.sh (.n lf),x,y]) ?_ ?_ #[[],40,_,_,by rw[cX,Jw];lia,by rw[cX,Jw];lia,nofun,⋯,⋯,rfl]
 ·rintro ρ ⟨ns,lf,x,y,h3,h1,hn,l1,hp,rfl⟩;refine q ns #[hn,by simpa using h1,by simpa using h3,?_];have p1:1<=dC ns:=xN ns 1 (λn h=>(hn n h).1) ⋯;have:=Oy l1 (show 0<=dC ns by lia);rw[Pv]at this
  lia
 ·rintro u l ρ ⟨ns,lf,x,y,h3,h1,hn,l1,hp,rfl⟩ ih;rw[An]at h3 h1;have p1:1<=dC ns:=xN ns 1 (λn h=>(hn n h).1) ⋯;have l40:lf<=40:=by
   have:=On p1 (show 0<=lf by lia);rw[Int.one_mul]at this
   lia
  refine#[_,rfl,by show 0<(if lf<9 then lf else 9);split<;>lia,by show(if lf<9 then lf else 9)<2 ^ 62;split<;>lia,λs s0 s9=>?_];have hs:1+s<=9/\1+s<=lf:=by
   have s9:s<(if lf<9 then lf else 9):=s9;split at s9<;>lia
  refine#[by rw[Ab];lia,#[∅,∅],?_];have e1:1<=lf / (1+s):=by
   rw[Sa ∅];lia
  have e2:(1+s)*(lf / (1+s))<=lf:=Int.mul_ediv_self_le ∅;refine ih _ #[ns++[1+s],lf / (1+s),_,_,by rw[Ak];show _+1+_<=3;lia,by rw[Ak];show 1<=_+1+_;lia,λn hn'=>(Cb.mp hn').elim (hn n) λz=>by rw[Bf.mp z];lia,e1,?_,by rw[Cc];rfl];have:dC (ns++[1+s])=dC ns*(1+s):=aHb ns 1 (1+s);rw[this,Int.mul_assoc];exact Int.le_trans (Oy e2 ∅) hp
def aVz:Fv:=λus R=>us=[.wl]/\∀r:Rim,r.ok->R (.sh r.u)
def aAg:aK ["_law_well_here","_law_way"] ["_law_well_here"] (aC vX):={}
def aTi(F:Fun K "_law_rim" "_law_rim" vX f fd)(aO:⇑1 "_law_draw" ["_law_well_here","_law_most"] (spV vG))(T:Txt mg):↥2 f fd ["_law_well_here"] (spV aVz):=by
 refine vfn F aAg (λaf A outer s H E hr=>(aG (aR (i:=1) aAg.nd (aM aO (hr.mono ⋯) rfl (aB (aA 0) (aB aH aD)))) (aG (bT (bH (cH (huD hr)) cY (aA 1) aH) (aF (aN (bV (aB bI (aB (aM aO (hr.mono ⋯) rfl (aB (aA 0) (aB (bA aQ aZ (cR (aB aH (aB (aW bN cC (aW aCn lQ aH aH) aH) aD))) (aM aO (hr.mono ⋯) rfl (aB (aA 0) (aB aH aD)))) aD))) aD))))) aU) (aF (aN (bA aQ aZ (cR (aB (bV (aB bI aD)) (aB (bV (aB bI aD)) aD))) (aW fY cU (aA 1) aH))))))) ?_;rintro _ R ⟨rfl,q⟩;refine#[rfl,3,rfl,⋯,⋯,λr r0 r3=>#[trivial,trivial,λh=>?_,λh=>?_]]
 ·refine#[#[⋯,⋯,⋯],2,rfl,⋯,⋯,λr2 a b=>?_];refine two a b ?_ ?_
  ·exact#[3,rfl,⋯,⋯,λc c0 c3=>q (.fixed c) #[∅,∅]]
  ·have e:(10:Int) ^ (9:Int).toNat=1000000000:=by decide
   refine#[_,rfl,⋯,⋯,λc c0 c3=>?_];have c4:c<10 ^ (9:Int).toNat+1:=c3;exact q (.fixed c) #[∅,∅]
 ·have hr:r≠0:=λz=>by rw[z]at h;exact Aa2 h ⋯
  have:r=1∨r=2:=by lia
  rcases this with rfl|rfl
  ·exact#[_,rfl,q .mirror trivial]
  ·exact#[_,rfl,q .round trivial]
def aK0:Fv:=λus R=>∃n:Nat,us=[.wl,.n (n:Int)]/\n<=3/\∀ss:List Int,ss.length=n->(∀s∈ss, -9<=s/\s<=9)->R (.sh (.tp (ss.map U.n)))
abbrev aE9:List Str:=["_law_well_here","_law_lines","_law_wide"]
def vJ:aK ["_law_well_here","_law_lines","_law_wide"] ["_law_well_here","_law_lines"] (aC mZ):={}
def aM3(F:Fun K "_law_steps" "_law_steps" mZ f fd)(aO:⇑1 "_law_draw" ["_law_well_here","_law_most"] (spV vG))(T:Txt mg):↥2 f fd ["_law_well_here","_law_lines"] (spV aK0):=by
 refine vfn F vJ (λaf A outer s H E hr=>(aG (aR (i:=2) vJ.nd (bA aQ aZ (cR (aB aH (aB aH (aB aH (aB aH aD))))) (aM aO (hr.mono ⋯) rfl (aB (aA 0) (aB aH aD))))) (aF (aN (eZ (tK rfl) aB4 T.tuple Lv (aP (iK (own:=["_law_k"]) (cap:=[("_law_well_here",0),("_law_wide",2)]) (aC mZ) aE9 rfl rfl (λx h=>bO h) #v[1] rfl (vic (oJ T.range (aP (aA 1) aY))) ↑(bU (i:=0) (~~~["_law_k","_law_well_here","_law_wide"]) rfl (Dy rfl) (Ew rfl)) (cO ⋯) ↑(aW fY cU (aM aO (hr.mono ⋯) rfl (aB (aA 1) (aB (aA 2) aD))) (aW aBd lQ (aA 2) aH))) aY)))))) ?_;rintro _ R ⟨n,rfl,n3,q⟩;refine#[rfl,4,rfl,⋯,⋯,λr r0 r4=>?_];have key:∃m:Int,atI [U.n 3,U.n 3,U.n 5,U.n 19] r=some (.n m)/\(m=3∨m=5∨m=19):=by
  have:r=0∨r=1∨r=2∨r=3:=by lia
  rcases this with rfl|rfl|rfl|rfl
  ·exact#[_,rfl,.inl rfl]
  ·exact#[_,rfl,.inl rfl]
  ·exact#[_,rfl,.inr (.inl rfl)]
  ·exact#[_,rfl,.inr (.inr rfl)]
 obtain⟨m,em,hm⟩:=key;refine#[_,em,∅,∅,by rw[cX];lia,lF (λx=>∃s:Int,x=.n s/\(-9<=s/\s<=9)) (λu hu c hc=>#[m,rfl,∅,∅,λt t0 tm=>#[#[⋯,⋯],hc _ #[_,rfl,∅]]]) λxs xl xp=>?_];obtain⟨ss,rfl,hs⟩:=pull xp;rw[Ab,cX]at xl;exact q ss ∅ hs
structure aN2(ys:List Tk)(n:Nat):Prop where
 l:ys.length<=4
 g:∀y∈ys,aGk y/\y.2.length=n
def aPd:Fv:=λus R=>∃n:Nat,us=[.wl,.n (n:Int)]/\n<=3/\∀ys,aN2 ys n->R (.ow (ys.map tkU))
abbrev wM:List Str:=["_law_well_here","_law_lines"]
def wH:aK ["_law_well_here","_law_lines"] ["_law_well_here","_law_lines"] (aC fO):={}
def aQt(F:Fun K "_law_some_takes" "_law_some_takes" fO f fd)(aO:⇑1 "_law_draw" ["_law_well_here","_law_most"] (spV vG))(aFf:⇑2 "_law_steps" ["_law_well_here","_law_lines"] (spV aK0))(T:Txt mg):↥3 f fd ["_law_well_here","_law_lines"] (spV aPd):=by
 refine vfn F wH (λaf A outer s H E hr=>(aF (aN (iK (own:=["_law_k"]) (cap:=[("_law_well_here",0),("_law_lines",1)]) (aC fO) wM rfl rfl (λx h=>bO h) #v[1] rfl (vic (oJ T.range (aP (aM aO (hr.mono ⋯) rfl (aB (aA 0) (aB aH aD))) aY))) ↑(bU (i:=0) (~~~["_law_k","_law_well_here","_law_lines"]) rfl (Dy rfl) (Ew rfl)) (cO ⋯) ↑(bV (aB (aW bN cC aH (aM aO (hr.mono ⋯) rfl (aB (aA 1) (aB aH aD)))) (aB (aM aFf (hr.mono ⋯) rfl (aB (aA 1) (aB (aA 2) aD))) aD))))))) ?_;rintro _ R ⟨n,rfl,n3,q⟩;refine#[rfl,5,rfl,⋯,⋯,λr r0 r5=>#[∅,∅,by rw[cX];lia,lF (λx=>∃y:Tk,x=tkU y/\(aGk y/\y.2.length=n)) (λu hu c hc=>#[3,rfl,⋯,⋯,λb b0 b3=>#[n,rfl,n3,λss sl hs=>hc _ #[(1+b,ss),rfl,#[by show 1<=1+b;lia,by show 1+b<=3;lia,hs],sl]]]) λxs xl xp=>?_]];obtain⟨ys,rfl,hy⟩:=pull xp;rw[Ab,cX]at xl;exact q ys #[∅,hy]
def aO9:Fv:=λus R=>us=[.wl]/\∀n:Int, -1000000000000<=n->n<=1000000000000->R (.sh (.tp [.s "number",.n n]))
def uH:aK ["_law_well_here","_law_far"] ["_law_well_here"] (aC pQ):={}
def aTf(F:Fun K "_law_number" "_law_number" pQ f fd)(aO:⇑1 "_law_draw" ["_law_well_here","_law_most"] (spV vG))(T:Txt mg):↥2 f fd ["_law_well_here"] (spV aO9):=by
 refine vfn F uH (λaf A outer s H E hr=>(aG (aR (i:=1) uH.nd (bA aQ aZ (cR (aB aH (aB aH (aB (aW bN cC (aW jJ lQ aH (aW aCn lQ aH aH)) aH) aD)))) (aM aO (hr.mono ⋯) rfl (aB (aA 0) (aB aH aD))))) (aF (aN (bV (aB bI (aB (aW fY cU (aM aO (hr.mono ⋯) rfl (aB (aA 0) (aB (aA 1) aD))) (aW aBd lQ (aA 1) aH)) aD))))))) ?_;rintro _ R ⟨rfl,q⟩;have key:∀m:Int,0<m->m<=2000000000001->∀t:Int,0<=t->t<m-> -1000000000000<=t-m / 2/\t-m / 2<=1000000000000:=λm h1 h2 t h3 h4=>by lia
 have e12:(2:Int)*10 ^ (12:Int).toNat+1=2000000000001:=by decide
 refine#[rfl,#[⋯,⋯,⋯],.inl #[⋯,⋯],3,rfl,⋯,⋯,λr r0 r3=>?_];have key2:∃m:Int,atI [U.n 7,U.n 201,U.n (2*10 ^ (12:Int).toNat+1)] r=some (.n m)/\0<m/\m<=2000000000001:=by
  have:r=0∨r=1∨r=2:=by lia
  rcases this with rfl|rfl|rfl
  ·exact#[_,rfl,⋯,⋯]
  ·exact#[_,rfl,⋯,⋯]
  ·exact#[_,rfl,by rw[e12];decide,by rw[e12];decide]
 obtain⟨m,em,m0,m1⟩:=key2;exact#[_,em,m,rfl,m0,∅,λt t0 tm=>#[#[⋯,⋯],q _ (key m m0 m1 t t0 tm).1 (key m m0 m1 t t0 tm).2]]
def dR:Tm->U
 |.num n=> .tp [.s "number",.n n]
 |.take b ss=> .tp [.s "take",.n b,.tp (ss.map U.n)]
 |.rest t y=> .tp [.s "rest",dR t,.n y]
 |.cho a b c=> .tp [.s "?",dR a,dR b,dR c]
 |.bin k a b=> .tp [.s (opn k),dR a,dR b]
def pb:Nat->Nat
 |0=>1
 |d+1=>3*pb d+1
def aQ0:∀d,1<=pb d
 |0=>Am _
 |d+1=>by show 1<=3*pb d+1;lia
structure aZi(ys:List Tk)(e:Nat)(t:Tm):Prop where
 wf:Wf t
 ht:ht t<=e+1
 pr:iJ t<=pb e
 rw_:∀x∈raw t,x∈ys
def aK1(d:Nat):Fv:=λus R=>∃(e n:Nat)(ys:List Tk),e<d/\us=[.wl,.ls (ys.map tkU),.n (e:Int)]/\aN2 ys n/\∀t,aZi ys e t->R (.sh (dR t))
def nD:aK ["_law_well_here","_law_some","_law_deep","_law_way","_law_one","_law_other"] ["_law_well_here","_law_some","_law_deep"] (aC oY):={}
def aTk(F:Fun K "_law_told" "_law_told" oY f fd)(aO:⇑1 "_law_draw" ["_law_well_here","_law_most"] (spV vG))(aDd:⇑2 "_law_number" ["_law_well_here"] (spV aO9))(lE:⇑(d+2) "_law_told" ["_law_well_here","_law_some","_law_deep"] (spV (aK1 d)))(T:Txt mg):↥(d+3) f fd ["_law_well_here","_law_some","_law_deep"] (spV (aK1 (d+1))):=by
 refine vfn F nD (λaf A outer s H E hr=>(aG (aR (i:=3) nD.nd (aM aO (hr.mono ∅) rfl (aB (aA 0) (aB aH aD)))) (aG (bT (yD (yC (bH (cH (huD hr)) cY (aA 2) aH) (sG (bH aLc cU (aA 3) aH)))) (aG (bT (yD (yC (bH (cH (huD hr)) cY (aA 1) (cR aD)) (sG (bH (cH (huD hr)) cY (aM aO (hr.mono ∅) rfl (aB (aA 0) (aB aH aD))) aH)))) (aF (aN (aM aDd (hr.mono ∅) rfl (aB (aA 0) aD)))) aU) (aF (aN (aW bN cC (bV (aB bI aD)) (bA aQ aZ (aA 1) (aM aO (hr.mono ∅) rfl (aB (aA 0) (aB (bR bF fV T.len Gk (aP (aA 1) aY)) aD)))))))) aU) (aG (aR (i:=4) nD.nd (aM lE (hr.mono ∅) rfl (aB (aA 0) (aB (aA 1) (aB (aW fY cU (aA 2) aH) aD))))) (aG (bT (bH (cH (huD hr)) cY (aA 3) aH) (aF (aN (bV (aB bI (aB (aA 4) (aB (aW bN cC aH (aM aO (hr.mono ∅) rfl (aB (aA 0) (aB (bA aQ aZ (cR (aB aH (aB (aW aCn lQ aH aH) aD))) (aM aO (hr.mono ∅) rfl (aB (aA 0) (aB aH aD)))) aD)))) aD)))))) aU) (aG (aR (i:=5) nD.nd (aM lE (hr.mono ∅) rfl (aB (aA 0) (aB (aA 1) (aB (aW fY cU (aA 2) aH) aD))))) (aG (bT (bH (cH (huD hr)) cY (aA 3) aH) (aF (aN (bV (aB bI (aB (aA 4) (aB (aA 5) (aB (aM lE (hr.mono ∅) rfl (aB (aA 0) (aB (aA 1) (aB (aW fY cU (aA 2) aH) aD)))) aD))))))) aU) (aF (aN (bV (aB (bA aQ aZ (cR (aB bI (aB bI (aB bI (aB bI (aB bI aD)))))) (aM aO (hr.mono ∅) rfl (aB (aA 0) (aB aH aD)))) (aB (aA 4) (aB (aA 5) aD))))))))))))) ?_;rintro _ R ⟨e,n,ys,he,rfl,gy,q⟩;have num:∀m:Int, -1000000000000<=m->m<=1000000000000->R (.sh (.tp [.s "number",.n m])):=λm h1 h2=>q (.num m) #[#[h1,h2],Hu (Bt _),aQ0 e,nofun];refine#[rfl,13,rfl,⋯,⋯,λr r0 r13=>?_];refine#[trivial,trivial,λ_=>#[λ_=> ?l1,nofun],λh=>#[λ_=> ?l2,λ_=> ?nd]]
 case nd=>
  have e0:e≠0:=λz=>by rw[z]at h;exact Aa2 h ⋯
  obtain⟨e',rfl⟩:∃e',e=e'+1:=#[e-1,∅];have ee:((e'+1:Nat):Int)-1=(e':Int):=by lia
  have us:([U.wl,.ls (ys.map tkU),.n (((e'+1:Nat):Int)-1)]:List U)=[.wl,.ls (ys.map tkU),.n (e':Int)]:=by rw[ee]
  refine#[e',n,ys,∅,us,gy,λt1 g1=>?_];refine#[trivial,trivial,λ_=>?_,λ_=>?_]
  ·refine#[#[⋯,⋯,⋯],2,rfl,⋯,⋯,λr2 a2 b2=>two a2 b2 ?_ ?_]
   ·exact#[9,rfl,⋯,⋯,λy y0 y9=>q (.rest t1 (1+y)) #[#[∅,∅,g1.wf],Hu g1.ht,by show 1+iJ t1<=3*pb e'+1;have:=g1.pr;lia,g1.rw_]]
   ·refine#[_,rfl,⋯,⋯,λy y0 y9=>?_];have y9:y<10 ^ (9:Int).toNat:=y9;rw[show(10:Int) ^ (9:Int).toNat=1000000000 by decide]at y9;exact q (.rest t1 (1+y)) #[#[∅,∅,g1.wf],Hu g1.ht,by show 1+iJ t1<=3*pb e'+1;have:=g1.pr;lia,g1.rw_]
  ·refine#[e',n,ys,∅,us,gy,λt2 g2=>?_];have p1:=g1.pr;have p2:=g2.pr;refine#[trivial,trivial,λ_=>?_,λ_=>?_]
   ·refine#[e',n,ys,∅,us,gy,λt3 g3=>q (.cho t1 t2 t3) #[#[g1.wf,g2.wf,g3.wf],?_,?_,?_]]
    ·show _<=e'+1+1;have:=g1.ht;have:=g2.ht;have:=g3.ht;simp only[KR.ht];lia
    ·show 1+(iJ t1+(iJ t2+iJ t3))<=3*pb e'+1;have:=g3.pr;lia
    ·exactλx hx=>(Cb.mp hx).elim (g1.rw_ x) λhx=>(Cb.mp hx).elim (g2.rw_ x) (g3.rw_ x)
   ·refine#[5,rfl,⋯,⋯,λr5 a5 b5=>?_];have key:∃k:Fin 5,atI [U.s "+",U.s "-",U.s "*",U.s "min",U.s "max"] r5=some (.s (opn k)):=by
     have:r5=0∨r5=1∨r5=2∨r5=3∨r5=4:=by lia
     rcases this with rfl|rfl|rfl|rfl|rfl
     ·exact#[0,rfl]
     ·exact#[1,rfl]
     ·exact#[2,rfl]
     ·exact#[3,rfl]
     ·exact#[4,rfl]
    obtain⟨k,ek⟩:=key;refine#[_,ek,q (.bin k t1 t2) #[#[g1.wf,g2.wf],?_,?_,?_]]
    ·show _<=e'+1+1;have:=g1.ht;have:=g2.ht;simp only[KR.ht];lia
    ·show 1+(iJ t1+iJ t2)<=3*pb e'+1
     lia
    ·exactλx hx=>(Cb.mp hx).elim (g1.rw_ x) (g2.rw_ x)
 all_goals
  refine#[aUs 37 _,trivial,λ_=>#[λ_=>#[rfl,num],nofun],λh1=>#[3,rfl,⋯,⋯,λr2 a2 b2=>#[trivial,trivial,λ_=>#[rfl,num],λ_=>?_]]];have h1:ys.isEmpty=false:=(aUt ys).symm.trans h1;have y1:0<ys.length:=by
   cases ys with
   |nil=>cases h1
   |cons _ _=>exact Oj _
  have y4:=gy.l;refine#[_,rfl,by rw[Ab];lia,by rw[Ab];lia,λr3 a3 b3=>?_];rw[Ab]at b3;obtain⟨k,rfl⟩:∃k:Nat,r3=(k:Int):=#[r3.toNat,∅];have kl:k<ys.length:=by lia
  refine#[tkU ys[k],iQ (by rw[Ap,Af kl];rfl),?_];refine#[by show 3<=10000;decide,q (.take ys[k].1 ys[k].2) #[trivial,Hu (Bt _),aQ0 _,λx hx=>?_]];rw[Bf.mp hx];exact Gc kl
def tlS:Tm->List (Sum Tm Int)
 |.num n=>[.inr n]
 |.take b _=>[.inr b]
 |.rest t y=>[.inl t,.inr y]
 |.cho a b c=>[.inl a,.inl b,.inl c]
 |.bin _ a b=>[.inl a,.inl b]
def sU:Sum Tm Int->U
 |.inl t=>dR t
 |.inr y=> .n y
def aCy:∀t:Tm,(∀b ss,t≠.take b ss)->∀k,.inl k∈tlS t↔k∈kids t
 |.num _,_,k=>by simp[tlS,kids]
 |.take b ss,h,k=>(h b ss rfl).elim
 |.rest t _,_,k=>by simp[tlS,kids]
 |.cho a b c,_,k=>by simp[tlS,kids]
 |.bin _ a b,_,k=>by simp[tlS,kids]
def aLm:∀t:Tm,(tlS t).length<=3
 |.num _=>by simp[tlS]
 |.take _ _=>by simp[tlS]
 |.rest _ _=>by simp[tlS]
 |.cho _ _ _=>by simp[tlS]
 |.bin _ _ _=>by simp[tlS]
def aUu:∀t:Tm,∃us,dR t=.tp us
 |.num _=>#[_,rfl]
 |.take _ _=>#[_,rfl]
 |.rest _ _=>#[_,rfl]
 |.cho _ _ _=>#[_,rfl]
 |.bin _ _ _=>#[_,rfl]
def aNm:∀t:Tm,(∃n,t=.num n)∨(∃b ss,t=.take b ss)∨∃x us,dR t=.tp (.s x::us)/\us=(tlS t).map sU/\x≠"number"/\x≠"take"/\∀b ss,t≠.take b ss
 |.num n=> .inl #[n,rfl]
 |.take b ss=> .inr (.inl #[b,ss,rfl])
 |.rest t y=> .inr (.inr #["rest",_,rfl,rfl,by decide+kernel,by decide+kernel,nofun])
 |.cho a b c=> .inr (.inr #["?",_,rfl,rfl,by decide+kernel,by decide+kernel,nofun])
 |.bin k a b=> .inr (.inr #[opn k,_,rfl,rfl,by revert k;decide+kernel,by revert k;decide+kernel,nofun])
def aA5(d:Nat):Fv:=λus R=>∃t,us=[dR t]/\ht t<=d/\Few t/\∀ys,eF t ys->R (.ow (ys.map tkU))
def lC:aK ["_law_told_here","_law_found","_law_part"] ["_law_told_here"] (aC nC):={}
def aM4(F:Fun K "_law_takes" "_law_takes" nC f fd)(qX:⇑(d+1) "_law_takes" ["_law_told_here"] (spV (aA5 d)))(T:Txt mg):↥(d+2) f fd ["_law_told_here"] (spV (aA5 (d+1))):=by
 refine vfn F lC (λaf A outer s H E hr=>(aG (bT #v[e] (aF (aN (cR aD))) aU) (aG (bT #v[e] (aF (aN (cR (aB (aAk (aA 0) (pD aH) pC) aD)))) aU) (aG (aR (i:=1) lC.nd (cR aD)) (aG (fH Bw rfl (aKg (aAk (aA 0) (pD aH) pC)) (fQ (i:=2) lC.nd) (aF (bT (gB (rZ .tp nofun T.isinstance T.tuple Lv (aA 2))) (aF (aR (i:=1) lC.nd (aW bN cC (aA 1) (aM qX (hr.mono ∅) rfl (aB (aA 2) aD))))) aU))) (aF (aN (aLt hr rfl T.sorted T.set (aP (aA 1) aY))))))))) ?_;rintro _ R ⟨t,rfl,hd,fw,q⟩;have no:∀{a b:Str}{p:Prop},a≠b->(U.eq (.s a) (.s b))=true->p:=λh z=>by
  have z:eqV (.str _) (.str _)=true:=z;simp[eqV]at z;exact(h z).elim
 refine#[rfl,?_];have ye:∀{a:Str}{p:Prop},(U.eq (.s a) (.s a))=false->p:=λ{a} _ z=>by
  have z:eqV (.str a) (.str a)=false:=z;simp[eqV]at z
 rcases aNm t with ⟨n,rfl⟩|⟨b,ss,rfl⟩|⟨x,us,e1,e2,n1,n2,nt⟩
 ·exact#[_,rfl,trivial,trivial,λ_=>q [] #[Ly,λx=>Lj],λz=>ye z]
 ·exact#[_,rfl,trivial,trivial,λz=>no #v[1] z,λ_=>#[_,rfl,trivial,trivial,λ_=>#[by show¬(1=0/\_);simp,q [(b,ss)] #[Dm ..,λ_=>Lj]],λz=>ye z]]
 rw[e1];have a0:atI (U.s x::us) 0=some (.s x):=iQ (show(U.s x::us)[0]? =some (U.s x)from rfl);refine#[.s x,a0,trivial,trivial,λz=>no n1 z,λ_=>#[.s x,a0,trivial,trivial,λz=>no n2 z,λ_=>?_]];have h1:HT.sIx (U.s x::us).length 0 (some 1)=1:=by
  show min 1 (us.length+1)=1
  lia
 have ec:yM (.s x::us) (some 1) none=us:=by
  unfold yM;rw[h1];show us.take (us.length+1-1)=us;rw[Nat.add_sub_cancel];exact Vf
 refine#[λz=>by rw[h1]at z;exact Aa2 z.1 ⋯,?_];rw[ec];subst e2;refine cL (λl ρ=>∃(ks js:List (Sum Tm Int))(ps:List Tk)(y:Sl),l=ks.map sU/\js++ks=tlS t/\ρ=[.sh (.tp (.s x::(tlS t).map sU)),.ow (ps.map tkU),y]/\ps.length<=17*js.length/\∀y,y∈ps↔ ∃k,.inl k∈js/\y∈raw k) ?_ ?_ #[tlS t,[],[],_,rfl,rfl,rfl,Am _,by simp]
 ·rintro ρ ⟨ks,js,ps,y,el,ej,rfl,pl,pm⟩;obtain rfl:=Bo.mp el.symm;rw[Bi]at ej;subst ej;have kl:=aLm t;obtain⟨zs,zl,zm⟩:=fw;have rk:∀y,y∈ps↔y∈raw t:=λy=>(pm y).trans #[λ⟨k,h1,h2⟩=>(aCs nt y).mpr #[k,(aCy t nt k).mp h1,h2],λh=>let⟨k,h1,h2⟩:=(aCs nt y).mp h;#[k,(aCy t nt k).mpr h1,h2]];exact#[ps,rfl,∅,#[zs,zl,λy hy=>zm y ((rk y).mp hy)],λys pw ym=>q ys #[pw,λy=>(ym y).trans (rk y)]]
 ·rintro u r ρ ⟨ks,js,ps,y,el,ej,rfl,pl,pm⟩ ih;obtain⟨k,ks,rfl,rfl,rfl⟩:=Jk.mp el.symm;have kl:=aLm t;have jl:js.length+(ks.length+1)<=3:=by rw[<-ej,Ak,An]at kl;exact kl
  cases k with
  |inr n=>exact#[_,rfl,nofun,λ_=>ih _ #[ks,js++[.inr n],ps,_,rfl,by rw[Bm];exact ej,rfl,by rw[Ak];show _<=17*(js.length+1);lia,λy=>by simp[pm y]]]
  |inl k=>
   have hk:k∈kids t:=(aCy t nt k).mp (by rw[<-ej];simp);have fk:Few k:=let⟨zs,zl,zm⟩:=fw;#[zs,zl,λy hy=>zm y (aFt hk y hy)];obtain⟨vs,ev⟩:=aUu k;have tt:tyU (dR k)=some .tp:=by rw[ev];rfl
   refine#[_,tt,λ_=>?_,nofun];refine#[k,rfl,rA t hd k hk,fk,λys ik=>?_];have yl:=pB fk ik;refine#[by rw[Ab,Ab];lia,ih _ #[ks,js++[.inl k],ps++ys,_,rfl,by rw[Bm];exact ej,by rw[Cc];rfl,by rw[Ak,Ak];show _<=17*(js.length+1);lia,λy=>?_]];rw[Cb,pm y,ik.2 y];constructor
   ·rintro(⟨j,hj,hy⟩|hy)
    ·exact#[j,Bq _ hj,hy]
    ·exact#[k,by simp,hy]
   ·rintro⟨j,hj,hy⟩;rcases Cb.mp hj with hj|hj
    ·exact .inl #[j,hj,hy]
    ·cases Bf.mp hj;exact .inr hy
def fIn(ns:List Str):List U->(List Str->List U->Prop)->Prop:=λus R=>us.length=ns.length/\R ns us
def wC:aK ["self","value"] ["self","value"] (aC jP):={}
def aQp(F:Fun K "__init__" "Number.__init__" jP f fd)(cN:Cfl K C ["value"]):↥1 f fd ["self","value"] (spI C (fIn ["value"])):=by
 refine F.ok wC (λvs H Q E h=>?_) (λaf A outer s H vs Q E hr h=>?_)
 ·obtain⟨x,dx,vs',H1,W,B,us,R,rfl,_,_,_,_,ds,⟨l,_⟩,_⟩:=h;rw[An, <-ds.length,l];rfl
 ·obtain⟨x,dx,vs',H1,W,B,us,R,rfl,n1,hx,s1,eb,ds,⟨l,hR⟩,q⟩:=h;have nw:¬W x:=λz=>eb.dm x (eb.wb x z) n1;have f0:=eb.same s1;match us,l,vs',ds with
  | [u0],_,_,⟨v0,_,rfl,d0,rfl⟩=>
   refine#[_,(dI (fG (pv 0) (pv 1) rfl)),?_];refine#[v0,rfl,_,rfl,x,C,dx,_,rfl,hx,cN.cl,cN.na _ (by simp),by show(0:Nat)<1000;decide,?_];have key:∀{H'},Fw W H1 H'->H' x=some (.ins C dx ((["value"]:List Str).zip [v0]))->Q .non H':=λfw hx=>q ["value"] _ [v0] _ hR fw hx rfl #[_,_,rfl,DU.mono (eb.keep fw) _ d0,rfl];exact key (f0.upd n1 nw) aL
def zO:aK ["self","back","steps"] ["self","back","steps"] (aC lW):={}
def aQl(F:Fun K "__init__" "Take.__init__" lW f fd)(cN:Cfl K C ["back","steps"]):↥1 f fd ["self","back","steps"] (spI C (fIn ["back","steps"])):=by
 refine F.ok zO (λvs H Q E h=>?_) (λaf A outer s H vs Q E hr h=>?_)
 ·obtain⟨x,dx,vs',H1,W,B,us,R,rfl,_,_,_,_,ds,⟨l,_⟩,_⟩:=h;rw[An, <-ds.length,l];rfl
 ·obtain⟨x,dx,vs',H1,W,B,us,R,rfl,n1,hx,s1,eb,ds,⟨l,hR⟩,q⟩:=h;have nw:¬W x:=λz=>eb.dm x (eb.wb x z) n1;have f0:=eb.same s1;match us,l,vs',ds with
  | [u0,u1],_,_,⟨v0,_,rfl,d0,⟨v1,_,rfl,d1,rfl⟩⟩=>
   refine#[_,(bC (fG (pv 0) (pv 1) rfl) (dI (fG (pv 0) (pv 2) rfl))),?_];refine#[v0,rfl,_,rfl,x,C,dx,_,rfl,hx,cN.cl,cN.na _ (by simp),by show(0:Nat)<1000;decide,#[v1,rfl,_,rfl,x,C,dx,_,rfl,aL,cN.cl,cN.na _ (by simp),by show(1:Nat)<1000;decide,?_]];have key:∀{H'},Fw W H1 H'->H' x=some (.ins C dx ((["back","steps"]:List Str).zip [v0,v1]))->Q .non H':=λfw hx=>q ["back","steps"] _ [v0,v1] _ hR fw hx rfl #[_,_,rfl,DU.mono (eb.keep fw) _ d0,#[_,_,rfl,DU.mono (eb.keep fw) _ d1,rfl]];exact key ((f0.upd n1 nw).upd n1 nw) aL
def wG:aK ["self","one","other"] ["self","one","other"] (aC jQ):={}
def tW(F:Fun K "__init__" "Paired.__init__" jQ f fd)(cN:Cfl K C ["one","other"]):↥1 f fd ["self","one","other"] (spI C (fIn ["one","other"])):=by
 refine F.ok wG (λvs H Q E h=>?_) (λaf A outer s H vs Q E hr h=>?_)
 ·obtain⟨x,dx,vs',H1,W,B,us,R,rfl,_,_,_,_,ds,⟨l,_⟩,_⟩:=h;rw[An, <-ds.length,l];rfl
 ·obtain⟨x,dx,vs',H1,W,B,us,R,rfl,n1,hx,s1,eb,ds,⟨l,hR⟩,q⟩:=h;have nw:¬W x:=λz=>eb.dm x (eb.wb x z) n1;have f0:=eb.same s1;match us,l,vs',ds with
  | [u0,u1],_,_,⟨v0,_,rfl,d0,⟨v1,_,rfl,d1,rfl⟩⟩=>
   refine#[_,(bC (fG (pv 0) (pv 1) rfl) (dI (fG (pv 0) (pv 2) rfl))),?_];refine#[v0,rfl,_,rfl,x,C,dx,_,rfl,hx,cN.cl,cN.na _ (by simp),by show(0:Nat)<1000;decide,#[v1,rfl,_,rfl,x,C,dx,_,rfl,aL,cN.cl,cN.na _ (by simp),by show(1:Nat)<1000;decide,?_]];have key:∀{H'},Fw W H1 H'->H' x=some (.ins C dx ((["one","other"]:List Str).zip [v0,v1]))->Q .non H':=λfw hx=>q ["one","other"] _ [v0,v1] _ hR fw hx rfl #[_,_,rfl,DU.mono (eb.keep fw) _ d0,#[_,_,rfl,DU.mono (eb.keep fw) _ d1,rfl]];exact key ((f0.upd n1 nw).upd n1 nw) aL
def zM:aK ["self","one","by"] ["self","one","by"] (aC lV):={}
def aQq(F:Fun K "__init__" "Rest.__init__" lV f fd)(cN:Cfl K C ["one","by"]):↥1 f fd ["self","one","by"] (spI C (fIn ["one","by"])):=by
 refine F.ok zM (λvs H Q E h=>?_) (λaf A outer s H vs Q E hr h=>?_)
 ·obtain⟨x,dx,vs',H1,W,B,us,R,rfl,_,_,_,_,ds,⟨l,_⟩,_⟩:=h;rw[An, <-ds.length,l];rfl
 ·obtain⟨x,dx,vs',H1,W,B,us,R,rfl,n1,hx,s1,eb,ds,⟨l,hR⟩,q⟩:=h;have nw:¬W x:=λz=>eb.dm x (eb.wb x z) n1;have f0:=eb.same s1;match us,l,vs',ds with
  | [u0,u1],_,_,⟨v0,_,rfl,d0,⟨v1,_,rfl,d1,rfl⟩⟩=>
   refine#[_,(bC (fG (pv 0) (pv 1) rfl) (dI (fG (pv 0) (pv 2) rfl))),?_];refine#[v0,rfl,_,rfl,x,C,dx,_,rfl,hx,cN.cl,cN.na _ (by simp),by show(0:Nat)<1000;decide,#[v1,rfl,_,rfl,x,C,dx,_,rfl,aL,cN.cl,cN.na _ (by simp),by show(1:Nat)<1000;decide,?_]];have key:∀{H'},Fw W H1 H'->H' x=some (.ins C dx ((["one","by"]:List Str).zip [v0,v1]))->Q .non H':=λfw hx=>q ["one","by"] _ [v0,v1] _ hR fw hx rfl #[_,_,rfl,DU.mono (eb.keep fw) _ d0,#[_,_,rfl,DU.mono (eb.keep fw) _ d1,rfl]];exact key ((f0.upd n1 nw).upd n1 nw) aL
def wA:aK ["self","test","one","other"] ["self","test","one","other"] (aC jK):={}
def aQf(F:Fun K "__init__" "Chosen.__init__" jK f fd)(cN:Cfl K C ["test","one","other"]):↥1 f fd ["self","test","one","other"] (spI C (fIn ["test","one","other"])):=by
 refine F.ok wA (λvs H Q E h=>?_) (λaf A outer s H vs Q E hr h=>?_)
 ·obtain⟨x,dx,vs',H1,W,B,us,R,rfl,_,_,_,_,ds,⟨l,_⟩,_⟩:=h;rw[An, <-ds.length,l];rfl
 ·obtain⟨x,dx,vs',H1,W,B,us,R,rfl,n1,hx,s1,eb,ds,⟨l,hR⟩,q⟩:=h;have nw:¬W x:=λz=>eb.dm x (eb.wb x z) n1;have f0:=eb.same s1;match us,l,vs',ds with
  | [u0,u1,u2],_,_,⟨v0,_,rfl,d0,⟨v1,_,rfl,d1,⟨v2,_,rfl,d2,rfl⟩⟩⟩=>
   refine#[_,(bC (fG (pv 0) (pv 1) rfl) (bC (fG (pv 0) (pv 2) rfl) (dI (fG (pv 0) (pv 3) rfl)))),?_];refine#[v0,rfl,_,rfl,x,C,dx,_,rfl,hx,cN.cl,cN.na _ (by simp),by show(0:Nat)<1000;decide,#[v1,rfl,_,rfl,x,C,dx,_,rfl,aL,cN.cl,cN.na _ (by simp),by show(1:Nat)<1000;decide,#[v2,rfl,_,rfl,x,C,dx,_,rfl,aL,cN.cl,cN.na _ (by simp),by show(2:Nat)<1000;decide,?_]]];have key:∀{H'},Fw W H1 H'->H' x=some (.ins C dx ((["test","one","other"]:List Str).zip [v0,v1,v2]))->Q .non H':=λfw hx=>q ["test","one","other"] _ [v0,v1,v2] _ hR fw hx rfl #[_,_,rfl,DU.mono (eb.keep fw) _ d0,#[_,_,rfl,DU.mono (eb.keep fw) _ d1,#[_,_,rfl,DU.mono (eb.keep fw) _ d2,rfl]]];exact key (((f0.upd n1 nw).upd n1 nw).upd n1 nw) aL
def aKz(N:Cn)(d:Nat):Fv:=λus R=>∃t,us=[dR t]/\ht t<=d/\R (.sh (enc N t))
abbrev MkB(P:Aj)(w:Bd)(K:Ac)(mg:Str->#v[9])(base:Heap)(C:Addr)(x:Str)(ns:List Str):Prop:=MkU P w K mg base 1 C x ("self"::ns) (fIn ns)
def rQ:aK ["_law_told_here","_law_one","_law_other"] ["_law_told_here"] (aC oX):={}
def aTd(F:Fun K "_law_made" "_law_made" oX f fd)(M_Number:MkB P w K mg base N.num "Number" ["value"])(M_Take:MkB P w K mg base N.take "Take" ["back","steps"])(M_Rest:MkB P w K mg base N.rest "Rest" ["one","by"])(M_Chosen:MkB P w K mg base N.cho "Chosen" ["test","one","other"])
  (M_Added:MkB P w K mg base (N.bin 0) "Added" ["one","other"]) (M_Lessened:MkB P w K mg base (N.bin 1) "Lessened" ["one","other"]) (M_Multiplied:MkB P w K mg base (N.bin 2) "Multiplied" ["one","other"]) (M_Least:MkB P w K mg base (N.bin 3) "Least" ["one","other"]) (M_Most:MkB P w K mg base (N.bin 4) "Most" ["one","other"])
  (c__law_made:⇑(d+2) "_law_made" ["_law_told_here"] (spV (aKz N d))) (T:Txt mg):↥(d+3) f fd ["_law_told_here"] (spV (aKz N (d+1))):=by
 refine vfn F rQ (λaf A outer s H E hr=>(aG (bT #v[e] (aF (aN (jZ M_Number (hr.mono ∅) (aB (bA aQ aZ (aA 0) aH) aD)))) aU) (aG (bT #v[e] (aF (aN (jZ M_Take (hr.mono ∅) (aB (bA aQ aZ (aA 0) aH) (aB (bA aQ aZ (aA 0) aH) aD))))) aU) (aG (aR (i:=1) rQ.nd (aM c__law_made (hr.mono ∅) rfl (aB (bA aQ aZ (aA 0) aH) aD))) (aG (bT #v[e] (aF (aN (jZ M_Rest (hr.mono ∅) (aB (aA 1) (aB (bA aQ aZ (aA 0) aH) aD))))) aU) (aG (aR (i:=2) rQ.nd (aM c__law_made (hr.mono ∅) rfl (aB (bA aQ aZ (aA 0) aH) aD))) (aG (bT #v[e] (aF (aN (jZ M_Chosen (hr.mono ∅) (aB (aA 1) (aB (aA 2) (aB (aM c__law_made (hr.mono ∅) rfl (aB (bA aQ aZ (aA 0) aH) aD)) aD)))))) aU) (aG (bT #v[e] (aF (aN (jZ M_Added (hr.mono ∅) (aB (aA 1) (aB (aA 2) aD))))) aU) (aG (bT #v[e] (aF (aN (jZ M_Lessened (hr.mono ∅) (aB (aA 1) (aB (aA 2) aD))))) aU) (aG (bT #v[e] (aF (aN (jZ M_Multiplied (hr.mono ∅) (aB (aA 1) (aB (aA 2) aD))))) aU) (aG (bT #v[e] (aF (aN (jZ M_Least (hr.mono ∅) (aB (aA 1) (aB (aA 2) aD))))) aU) (aF (aN (jZ M_Most (hr.mono ∅) (aB (aA 1) (aB (aA 2) aD)))))))))))))))) ?_;rintro _ R ⟨t,rfl,hd,q⟩;have no:∀{a b:Str}{p:Prop},a≠b->(U.eq (.s a) (.s b))=true->p:=λh z=>by
  have z:eqV (.str _) (.str _)=true:=z;simp[eqV]at z;exact(h z).elim
 have ye:∀{a:Str}{p:Prop},(U.eq (.s a) (.s a))=false->p:=λ{a} _ z=>by
  have z:eqV (.str a) (.str a)=false:=z;simp[eqV]at z
 have kd:=rA t hd;refine#[rfl,?_];cases t with
 |num n=>exact#[_,rfl,trivial,trivial,λ_=>#[_,rfl,rfl,q],λz=>ye z]
 |take b ss=>exact#[_,rfl,trivial,trivial,λz=>no #v[1] z,λ_=>#[_,rfl,trivial,trivial,λ_=>#[_,rfl,_,rfl,rfl,q],λz=>ye z]]
 |rest t y=>
  refine#[_,rfl,trivial,trivial,λz=>no #v[1] z,λ_=>#[_,rfl,trivial,trivial,λz=>no #v[1] z,λ_=>#[_,rfl,t,rfl,kd t (by simp[kids]),?_]]];exact#[_,rfl,trivial,trivial,λ_=>#[_,rfl,rfl,q],λz=>ye z]
 |cho a b c=>
  refine#[_,rfl,trivial,trivial,λz=>no #v[1] z,λ_=>#[_,rfl,trivial,trivial,λz=>no #v[1] z,λ_=>#[_,rfl,a,rfl,kd a (by simp[kids]),?_]]];refine#[_,rfl,trivial,trivial,λz=>no #v[1] z,λ_=>#[_,rfl,b,rfl,kd b (by simp[kids]),?_]];exact#[_,rfl,trivial,trivial,λ_=>#[_,rfl,c,rfl,kd c (by simp[kids]),rfl,q],λz=>ye z]
 |bin k a b=>
  have:k=0∨k=1∨k=2∨k=3∨k=4:=(by decide:∀k:Fin 5,k=0∨k=1∨k=2∨k=3∨k=4) k;have ka:=kd a (by simp[kids]);have kb:=kd b (by simp[kids]);rcases this with rfl|rfl|rfl|rfl|rfl
  all_goals
   refine#[_,rfl,trivial,trivial,λz=>no #v[1] z,λ_=>#[_,rfl,trivial,trivial,λz=>no #v[1] z,λ_=>#[_,rfl,a,rfl,ka,?_]]];refine#[_,rfl,trivial,trivial,λz=>no #v[1] z,λ_=>#[_,rfl,b,rfl,kb,?_]];refine#[_,rfl,trivial,trivial,λz=>no #v[1] z,λ_=>?_]
  ·exact#[_,rfl,trivial,trivial,λ_=>#[rfl,q],λz=>ye z]
  all_goals refine#[_,rfl,trivial,trivial,λz=>no #v[1] z,λ_=>?_]
  ·exact#[_,rfl,trivial,trivial,λ_=>#[rfl,q],λz=>ye z]
  all_goals refine#[_,rfl,trivial,trivial,λz=>no #v[1] z,λ_=>?_]
  ·exact#[_,rfl,trivial,trivial,λ_=>#[rfl,q],λz=>ye z]
  all_goals refine#[_,rfl,trivial,trivial,λz=>no #v[1] z,λ_=>?_]
  all_goals refine#[_,rfl,trivial,trivial,λz=>?_,λz=>?_]
  ·exact#[rfl,q]
  ·exact ye z
  ·exact no #v[1] z
  ·exact#[rfl,q]
def opv(k:Fin 5)(i j:Int):Int:=match k with|0=>i+j|1=>i-j|2=>i*j|3=>min i j|4=>max i j
def val(f:Tk->Int):Tm->Int
 |.num n=>n
 |.take b ss=>f (b,ss)
 |.rest t y=>val f t % y
 |.cho a b c=>if 0<val f a then val f b else val f c
 |.bin k a b=>opv k (val f a) (val f b)
def bnd:Tm->Nat
 |.num _=>41
 |.take _ _=>41
 |.rest _ _=>41
 |.cho _ b c=>max (bnd b) (bnd c)
 |.bin _ a b=>bnd a+bnd b+1
theorem aBy:∀t:Tm,bnd t+1<=21*2 ^ ht t
 |.num _=>by show 41+1<=21*2 ^ 1;decide
 |.take _ _=>by show 41+1<=21*2 ^ 1;decide
 |.rest t _=>by
  have:0<2 ^ ht t:=Nat.pow_pos ⋯;simp only[bnd,ht,Ml]
  lia
 |.cho a b c=>by
  have h1:=aBy b;have h2:=aBy c;have e1:2 ^ ht b<=2 ^ max (ht a) (max (ht b) (ht c)):=Dc ⋯ ∅;have e2:2 ^ ht c<=2 ^ max (ht a) (max (ht b) (ht c)):=Dc ⋯ ∅;simp only[bnd,ht,Ml]
  lia
 |.bin _ a b=>by
  have h1:=aBy a;have h2:=aBy b;have e1:2 ^ ht a<=2 ^ max (ht a) (ht b):=Dc ⋯ ∅;have e2:2 ^ ht b<=2 ^ max (ht a) (ht b):=Dc ⋯ ∅;simp only[bnd,ht,Ml]
  lia
def aTr(k:Fin 5){m n:Nat}(hi:i.natAbs<2 ^ m)(hj:j.natAbs<2 ^ n):(opv k i j).natAbs<2 ^ (m+n+1):=by
 rw[Ml,Nat.mul_two];have p1:i.natAbs<2 ^ (m+n):=Ba hi (Dc ⋯ (Da ..));have p2:j.natAbs<2 ^ (m+n):=Ba hj (Dc ⋯ (Nat.le_add_left ..));match k with
 |0=>exact Gz (Int.natAbs_add_le i j) (Xd p1 p2)
 |1=>exact Gz (Int.natAbs_sub_le i j) (Xd p1 p2)
 |2=>exact Ow _ (by show(i*j).natAbs<_;rw[Int.natAbs_mul,Nat.pow_add];exact Nat.mul_lt_mul'' hi hj)
 |3=>exact Ow _ (by show(min i j).natAbs<_;rw[Int.min_def];split;exact p1;exact p2)
 |4=>exact Ow _ (by show(max i j).natAbs<_;rw[Int.max_def];split;exact p2;exact p1)
theorem xY{f:Tk->Int}:∀t:Tm,Wf t->(∀x∈raw t,(f x).natAbs<2 ^ 41)->(val f t).natAbs<2 ^ bnd t
 |.num n,h,_=>by
  have h1:=h.1;have h2:=h.2;show n.natAbs<2 ^ 41
  lia
 |.take b ss,_,h=>h (b,ss) Ag
 |.rest t y,h,_=>by
  obtain⟨h1,h2,_⟩:=h;show(val f t % y).natAbs<2 ^ 41;have e1:=Fu (val f t) (show y≠0 by lia);have e2:=Ek (val f t) h1
  lia
 |.cho a b c,h,g=>by
  have h1:=xY b h.2.1 λx hx=>g x (by simp only[raw,Cb];exact .inr (.inl hx));have h2:=xY c h.2.2 λx hx=>g x (by simp only[raw,Cb];exact .inr (.inr hx));have e1:2 ^ bnd b<=2 ^ max (bnd b) (bnd c):=Dc ⋯ ∅;have e2:2 ^ bnd c<=2 ^ max (bnd b) (bnd c):=Dc ⋯ ∅;simp only[val,bnd];split<;>lia
 |.bin k a b,h,g=>aTr k (xY a h.1 λx hx=>g x (by simp only[raw,Cb];exact .inl hx)) (xY b h.2 λx hx=>g x (by simp only[raw,Cb];exact .inr hx))
def aWh{f:Tk->Int}(h:ht t<=6)(w:Wf t)(g:∀x∈raw t,(f x).natAbs<2 ^ 41):(val f t).natAbs<2 ^ 2000:=by
 have h1:=xY t w g;have h2:=aBy t;have h3:2 ^ ht t<=2 ^ 6:=Dc ⋯ h;exact Ba h1 (Dc ⋯ ∅)
variable {L:Lm}{z:See}
abbrev VPs:List Str:=["self","see"]
def Wor(ab:List (Tke×U))(g:Tk->Int)(t:Tm):Prop:=∀x∈raw t,sY ab x=some (.n (g x))/\(g x).natAbs<2 ^ 41
def wX(P:Aj)(w:Bd)(N:Cn)(L:Lm)(z:See)(d:Nat)(C:Addr):Fv:=λus R=>∃t ab g,us=[enc N t,.op (lamO P w L z ab)]/\cls N t=C/\ht t<=d/\Wf t/\Wor ab g t/\R (.sh (.n (val g t)))
abbrev aIk(P:Aj)(w:Bd)(K:Ac)(mg:Str->#v[9])(base:Heap)(N:Cn)(L:Lm)(z:See)(d:Nat):Prop:=Dis P w K mg base CX0 (d+1) (IsC N) "value_by" VPs λC=>spV (wX P w N L z d C)
def wD:aK ["self","see"] ["self","see"] (aC fM):={}
def aTg(F:Fun K "value_by" "Number.value_by" fM f fd)(cN:Cfl K N.num ["value"])(hC:∀t,cls N t=N.num->∃n,t=.num n):↥(d+2) f fd VPs (spV (wX P w N L z (d+1) N.num)):=by
 refine vfn F wD (λaf A outer s H E hr=>(aF (aN (bD cN (aA 0))))) ?_;rintro _ R ⟨t,ab,g,rfl,e,hd,wf,wo,q⟩;obtain⟨n,rfl⟩:=hC t e;exact#[rfl,rfl,.inl #[rfl,q]]
def zP:aK ["self","see"] ["self","see"] (aC iV):={}
def aTc(F:Fun K "value_by" "Take.value_by" iV f fd)(cK:Cfl K N.take ["back","steps"])(hC:∀t,cls N t=N.take->∃b ss,t=.take b ss)(o_see:aGo L)(F_see:↥1 z.fl (L.fd z) [L.x] (aH0 P w L z)):↥(d+2) f fd VPs (spV (wX P w N L z (d+1) N.take)):=by
 refine vfn F zP (λaf A outer s H E hr=>(aF (aN (aIb (P:=P) (w:=w) (i:=1) rfl rfl o_see F_see hr (bV (aB (bD cK (aA 0)) (aB (bD cK (aA 0)) aD))))))) ?_;rintro _ R ⟨t,ab,g,rfl,e,hd,wf,wo,q⟩;obtain⟨b,ss,rfl⟩:=hC t e;exact#[rfl,ab,rfl,rfl,.inl #[rfl,rfl,.inr #[by decide+kernel,.inl #[rfl,(b,ss),_,rfl,(wo (b,ss) Ag).1,q]]]]
def xR:aK ["self","see"] ["self","see"] (aC gD):={}
def aP8(F:Fun K "value_by" "Added.value_by" gD f fd)(cP:Cfl K (N.bin 0) ["one","other"])(hC:∀t,cls N t=N.bin 0->∃a b,t=.bin 0 a b)(bJ:aIk P w K mg base N L z d):↥(d+2) f fd VPs (spV (wX P w N L z (d+1) (N.bin 0))):=by
 refine vfn F xR (λaf A outer s H E hr=>(aF (aN (aW bN cC #v[d] #v[d])))) ?_;rintro _ R ⟨t,ab,g,rfl,e,hd,wf,wo,q⟩;obtain⟨a,b,rfl⟩:=hC t e;have hd:max (ht a) (ht b)+1<=d+1:=hd;refine#[rfl,rfl,.inl #[rfl,bW a #v[1] #[a,ab,g,rfl,rfl,∅,wf.1,λx hx=>wo x (Bq _ hx),?_]]];refine#[rfl,.inr #[by decide+kernel,.inl #[rfl,bW b #v[1] #[b,ab,g,rfl,rfl,∅,wf.2,λx hx=>wo x (Az _ hx),?_]]]];exact q
def uG:aK ["self","see"] ["self","see"] (aC eO):={}
def aP9(F:Fun K "value_by" "Lessened.value_by" eO f fd)(cP:Cfl K (N.bin 1) ["one","other"])(hC:∀t,cls N t=N.bin 1->∃a b,t=.bin 1 a b)(bJ:aIk P w K mg base N L z d):↥(d+2) f fd VPs (spV (wX P w N L z (d+1) (N.bin 1))):=by
 refine vfn F uG (λaf A outer s H E hr=>(aF (aN (aW fY cU #v[d] #v[d])))) ?_;rintro _ R ⟨t,ab,g,rfl,e,hd,wf,wo,q⟩;obtain⟨a,b,rfl⟩:=hC t e;have hd:max (ht a) (ht b)+1<=d+1:=hd;refine#[rfl,rfl,.inl #[rfl,bW a #v[1] #[a,ab,g,rfl,rfl,∅,wf.1,λx hx=>wo x (Bq _ hx),?_]]];refine#[rfl,.inr #[by decide+kernel,.inl #[rfl,bW b #v[1] #[b,ab,g,rfl,rfl,∅,wf.2,λx hx=>wo x (Az _ hx),?_]]]];exact q
def rP:aK ["self","see"] ["self","see"] (aC dX):={}
def aQa(F:Fun K "value_by" "Multiplied.value_by" dX f fd)(cP:Cfl K (N.bin 2) ["one","other"])(hC:∀t,cls N t=N.bin 2->∃a b,t=.bin 2 a b)(bJ:aIk P w K mg base N L z d)(d6:d<=6):↥(d+2) f fd VPs (spV (wX P w N L z (d+1) (N.bin 2))):=by
 refine vfn F rP (λaf A outer s H E hr=>(aF (aN (aW aTq lQ #v[d] #v[d])))) ?_;rintro _ R ⟨t,ab,g,rfl,e,hd,wf,wo,q⟩;obtain⟨a,b,rfl⟩:=hC t e;have hd:max (ht a) (ht b)+1<=d+1:=hd;refine#[rfl,rfl,.inl #[rfl,bW a #v[1] #[a,ab,g,rfl,rfl,∅,wf.1,λx hx=>wo x (Bq _ hx),?_]]];refine#[rfl,.inr #[by decide+kernel,.inl #[rfl,bW b #v[1] #[b,ab,g,rfl,rfl,∅,wf.2,λx hx=>wo x (Az _ hx),?_]]]];exact#[#[aWh ∅ wf.1 λx hx=>(wo x (Bq _ hx)).2,aWh ∅ wf.2 λx hx=>(wo x (Az _ hx)).2],q]
def xT:aK ["self","see"] ["self","see"] (aC gF):={}
def aQb(F:Fun K "value_by" "Least.value_by" gF f fd)(cP:Cfl K (N.bin 3) ["one","other"])(hC:∀t,cls N t=N.bin 3->∃a b,t=.bin 3 a b)(bJ:aIk P w K mg base N L z d)(T:Txt mg):↥(d+2) f fd VPs (spV (wX P w N L z (d+1) (N.bin 3))):=by
 refine vfn F xT (λaf A outer s H E hr=>(aF (aN (bR (yL rfl) aKt T.min boot_min (aP #v[d] (aP #v[d] aY)))))) ?_;rintro _ R ⟨t,ab,g,rfl,e,hd,wf,wo,q⟩;obtain⟨a,b,rfl⟩:=hC t e;have hd:max (ht a) (ht b)+1<=d+1:=hd;refine#[rfl,rfl,.inl #[rfl,bW a #v[1] #[a,ab,g,rfl,rfl,∅,wf.1,λx hx=>wo x (Bq _ hx),?_]]];refine#[rfl,.inr #[by decide+kernel,.inl #[rfl,bW b #v[1] #[b,ab,g,rfl,rfl,∅,wf.2,λx hx=>wo x (Az _ hx),?_]]]];have e:val g (.bin 3 a b)=if val g b<val g a then val g b else val g a:=by
  show min _ _=_
  lia
 rw[e]at q;exact q
def zL:aK ["self","see"] ["self","see"] (aC iT):={}
def aQc(F:Fun K "value_by" "Most.value_by" iT f fd)(cP:Cfl K (N.bin 4) ["one","other"])(hC:∀t,cls N t=N.bin 4->∃a b,t=.bin 4 a b)(bJ:aIk P w K mg base N L z d)(T:Txt mg):↥(d+2) f fd VPs (spV (wX P w N L z (d+1) (N.bin 4))):=by
 refine vfn F zL (λaf A outer s H E hr=>(aF (aN (bR (aL5 rfl) aKt T.max boot_max (aP #v[d] (aP #v[d] aY)))))) ?_;rintro _ R ⟨t,ab,g,rfl,e,hd,wf,wo,q⟩;obtain⟨a,b,rfl⟩:=hC t e;have hd:max (ht a) (ht b)+1<=d+1:=hd;refine#[rfl,rfl,.inl #[rfl,bW a #v[1] #[a,ab,g,rfl,rfl,∅,wf.1,λx hx=>wo x (Bq _ hx),?_]]];refine#[rfl,.inr #[by decide+kernel,.inl #[rfl,bW b #v[1] #[b,ab,g,rfl,rfl,∅,wf.2,λx hx=>wo x (Az _ hx),?_]]]];have e:val g (.bin 4 a b)=if val g b>val g a then val g b else val g a:=by
  show max _ _=_
  lia
 rw[e]at q;exact q
def zN:aK ["self","see"] ["self","see"] (aC iU):={}
def aTj(F:Fun K "value_by" "Rest.value_by" iU f fd)(cP:Cfl K N.rest ["one","by"])(hC:∀t,cls N t=N.rest->∃a y,t=.rest a y)(bJ:aIk P w K mg base N L z d):↥(d+2) f fd VPs (spV (wX P w N L z (d+1) N.rest)):=by
 refine vfn F zN (λaf A outer s H E hr=>(aF (aN (aW nY lQ #v[d] (bD cP (aA 0)))))) ?_;rintro _ R ⟨t,ab,g,rfl,e,hd,wf,wo,q⟩;obtain⟨a,y,rfl⟩:=hC t e;have hd:ht a+1<=d+1:=hd;refine#[rfl,rfl,.inl #[rfl,bW a #v[1] #[a,ab,g,rfl,rfl,∅,wf.2.2,wo,?_]]];exact#[rfl,.inr #[by decide+kernel,.inl #[rfl,(show(0:Int)<y by have:=wf.1;lia),q]]]
def wB:aK ["self","see"] ["self","see"] (aC fL):={}
def aS9(F:Fun K "value_by" "Chosen.value_by" fL f fd)(cP:Cfl K N.cho ["test","one","other"])(hC:∀t,cls N t=N.cho->∃a b c,t=.cho a b c)(bJ:aIk P w K mg base N L z d):↥(d+2) f fd VPs (spV (wX P w N L z (d+1) N.cho)):=by
 refine vfn F wB (λaf A outer s H E hr=>(aG (bT (bH xM cU #v[d] aH) (aF (aN #v[d])) aU) (aF (aN #v[d])))) ?_;rintro _ R ⟨t,ab,g,rfl,e,hd,wf,wo,q⟩;obtain⟨a,b,c,rfl⟩:=hC t e;have hd:max (ht a) (max (ht b) (ht c))+1<=d+1:=hd;refine#[rfl,rfl,.inl #[rfl,bW a #v[1] #[a,ab,g,rfl,rfl,∅,wf.1,λx hx=>wo x (Bq _ hx),?_]]];have e:val g (.cho a b c)=if 0<val g a then val g b else val g c:=rfl
 refine#[λz=>?_,λz=>?_]
 ·have z:=Aa3 z;rw[e,Aa1 z]at q;exact#[rfl,.inr #[by decide+kernel,.inl #[rfl,bW b #v[1] #[b,ab,g,rfl,rfl,∅,wf.2.1,λx hx=>wo x (Az _ (Bq _ hx)),q]]]]
 ·have z:=Aa4 z;rw[e,Aa0 z]at q;exact#[rfl,.inr #[by decide+kernel,.inr #[by decide+kernel,.inl #[rfl,bW c #v[1] #[c,ab,g,rfl,rfl,∅,wf.2.2,λx hx=>wo x (Az _ (Az _ hx)),q]]]]]
def qL(ns is:List Int):Int:=(is.zip ns).foldl (λa p=>a*p.2+p.1) 0
def fPn(C:Addr):Fv:=λus R=>∃(ns:List Int)(rs:List Rim)(is:List Int),us=[grU C ns rs,.tp (is.map U.n)]/\jD ns/\is.length=ns.length/\R (.sh (.n (qL ns is)))
def aVa(is ns:List Int):aA2 (is.map U.n) (ns.map U.n)=(is.zip ns).map λp=> .tp [.n p.1,.n p.2]:=by
 unfold aA2;induction is generalizing ns with
 |nil=>rfl
 |cons i is ih=>cases ns with
  |nil=>rfl
  |cons n ns=>exact Aa9 _ (ih ns)
def dB:aK ["self","place","number","along","size"] ["self","place"] (aC iB):={}
def bAo(F:Fun K "place_number" "Grid.place_number" iB f fd)(cG:Cfl K C ["sizes","rims"])(T:Txt mg):↥1 f fd ["self","place"] (spV (fPn C)):=by
 refine vfn F dB (λaf A outer s H E hr=>(aG (aR (i:=2) dB.nd aH) (aG (fH Bw rfl (aLx true T.zip (aB (aA 1) (aB (bD cG (aA 0)) aD))) (aC7 rfl (iM (i:=3) dB.nd (iM (i:=4) dB.nd xZ))) (aF (aR (i:=2) dB.nd (aW bN cC (aW jJ lQ (aA 2) (aA 4)) (aA 3))))) (aF (gP 2))))) ?_;rintro _ R ⟨ns,rs,is,rfl,gs,il,q⟩;have l3:=gs.l3;refine#[rfl,rfl,.inl #[rfl,is.map U.n,ns.map U.n,rfl,by rw[Ab,Ab];lia,?_]];show mL (aLv [3,4]) _ _ (aA2 (is.map U.n) (ns.map U.n)) _;rw[aVa];refine cL (λl ρ=>∃(don rst:List (Int×Int))(a b:Sl),l=(rst.map λp=>U.tp [.n p.1,.n p.2])/\don++rst=is.zip ns/\ρ=[.sh (grU C ns rs),.sh (.tp (is.map U.n)),.sh (.n (don.foldl (λa p=>a*p.2+p.1) 0)),a,b]) ?_ ?_ #[[],is.zip ns,_,_,rfl,rfl,rfl]
 ·rintro ρ ⟨don,rst,a,b,e1,e2,rfl⟩;obtain rfl:rst=[]:=Bo.mp e1.symm;rw[Bi]at e2;rw[e2];exact q
 ·rintro u l ρ ⟨don,rst,a,b,e1,e2,rfl⟩ ih;cases rst with
  |nil=>cases e1
  |cons p rst=>
   cases e1;have hp:p.2∈ns:=(Hb (show(p.1,p.2)∈is.zip ns by rw[<-e2];simp)).2;have h9:=gs.ok _ hp;refine#[rfl,.inr #[∅,∅],ih _ #[don++[p],rst,.sh (.n p.1),.sh (.n p.2),rfl,by rw[<-e2];simp,?_]];rw[Nx];rfl
def fFR(N:Cn)(CG CJ:Addr):Fv:=λus R=>∃ns rs t ys m r ls,∃(k:Int)(row:List Int),us=[nR N CG CJ ns rs t ys m r ls,.n k]/\ys.length<=17/\(∀y∈ys,0<=y.1)/\0<=k+dpt ys-1/\ls[(k+dpt ys-1).toNat]? =some row/\R (.ow (row.map U.n))
def zK:aK ["self","round_at"] ["self","round_at"] (aC lU):={}
def aLb(F:Fun K "first_row" "Job.first_row" lU f fd)(cJ:Cfl K CJ ["taken","grid","term","modulus","rounds","first"])(D_deep:Dis P w K mg base CX0 1 (·=CJ) "deep" ["self"] λ_=>spV (aG6 CJ))(T:Txt mg):↥2 f fd ["self","round_at"] (spV (fFR N CG CJ)):=by
 refine vfn F zK (λaf A outer s H E hr=>(aF (aN (eZ (iY rfl) qY T.list Ko (aP (bA aQ aZ (bD cJ (aA 0)) (aW fY cU (aW bN cC (aA 1) (bZ (aA 0) D_deep (hr.mono ⋯))) aH)) aY))))) ?_;rintro _ R ⟨ns,rs,t,ys,m,r,ls,k,row,rfl,yl,y0,k0,hr,q⟩;refine#[rfl,rfl,.inr #[by decide+kernel,.inr #[by decide+kernel,.inr #[by decide+kernel,.inr #[by decide+kernel,.inr #[by decide+kernel,.inl #[rfl,rfl,by decide+kernel,ys,_,_,rfl,yl,y0,?_]]]]]]];refine#[.ls (row.map U.n),?_,q];show atI (eQ ls) (k+dpt ys-1)=_;obtain⟨n,hn⟩:∃n:Nat,k+dpt ys-1=n:=#[(k+dpt ys-1).toNat,∅];rw[hn]at hr⊢;refine iQ ?_;unfold eQ;rw[Ap,show ls[n]? =some row from hr];rfl
def WR(ns:List Int)(rs:List Rim)(ys:List Tk)(ls:List (List Int))(ab:List (Tke×U))(q y:Tk)(v:Int):Prop:=match bes ns rs q.2 y.2 with
 |.error c=>v=c
 |.ok l=>if 0<q.1-y.1 then sY ab (q.1-y.1,l)=some (.n v)else l.length=ns.length/\0<=q.1-y.1+dpt ys-1/\∃row,ls[(q.1-y.1+dpt ys-1).toNat]? =some row/\0<=qL ns l/\row[(qL ns l).toNat]? =some v
def fWR(P:Aj)(w:Bd)(N:Cn)(CG CJ:Addr)(L:Lm)(z:See):Fv:=λus R=>∃ns rs t ys m r ls,∃(q y:Tk)(ab:List (Tke×U))(v:Int),us=[nR N CG CJ ns rs t ys m r ls,whr ns rs q y,.op (lamO P w L z ab)]/\jD ns/\ys.length<=17/\(∀y∈ys,0<=y.1)/\WR ns rs ys ls ab q y v/\R (.sh (.n v))
def pA:aK ["self","where","get","row"] ["self","where","get"] (aC kW):={}
def aQx(F:Fun K "worth_read" "Job.worth_read" kW f fd)(cJ:Cfl K CJ ["taken","grid","term","modulus","rounds","first"])(sZ:Dis P w K mg base CX0 2 (·=CJ) "first_row" ["self","round_at"] λ_=>spV (fFR N CG CJ))(aBq:Dis P w K mg base CX0 1 (·=CG) "place_number" ["self","place"] λ_=>spV (fPn CG))(o_get:aGo L)(F_get:↥1 z.fl (L.fd z) [L.x] (aH0 P w L z))(T:Txt mg):↥3 f fd ["self","where","get"] (spV (fWR P w N CG CJ L z)):=by
 refine vfn F pA (λaf A outer s H E hr=>(aG (bT (bH (cH (huD hr)) cY (bA aQ aZ (aA 1) aH) bI) (aF (aN (bA aQ aZ (aA 1) aH))) aU) (aG (bT (bH (cH (huD hr)) cY (bA aQ aZ (aA 1) aH) bI) (aF (aN (aIb (P:=P) (w:=w) (i:=2) rfl rfl o_get F_get hr (bA aQ aZ (aA 1) aH)))) aU) (aG (aR (i:=3) pA.nd (cZ (aA 0) sZ (hr.mono ⋯) (aB (bA aQ aZ (bA aQ aZ (aA 1) aH) aH) aD))) (aF (aN (bA aQ aZ (aA 3) (cZ (bD cJ (aA 0)) aBq (hr.mono ⋯) (aB (bA aQ aZ (bA aQ aZ (aA 1) aH) aH) aD))))))))) ?_;rintro _ R ⟨ns,rs,t,ys,m,r,ls,q0,y,ab,v,rfl,gs,yl,y0,wr,q⟩;have no:∀{a b:Str}{p:Prop},a≠b->(U.eq (.s a) (.s b))=true->p:=λh z=>by
  have z:eqV (.str _) (.str _)=true:=z;simp[eqV]at z;exact(h z).elim
 have ye:∀{a:Str}{p:Prop},(U.eq (.s a) (.s a))=false->p:=λ{a} _ z=>by
  have z:eqV (.str a) (.str a)=false:=z;simp[eqV]at z
 unfold WR at wr;unfold whr;cases hb:bes ns rs q0.2 y.2 with
 |error c=>
  rw[hb]at wr;obtain rfl:v=c:=wr;exact#[rfl,_,rfl,trivial,trivial,λ_=>#[_,rfl,q],λz=>ye z]
 |ok l=>
  rw[hb]at wr;have wr:if 0<q0.1-y.1 then sY ab (q0.1-y.1,l)=some (.n v)else l.length=ns.length/\0<=q0.1-y.1+dpt ys-1/\∃row,ls[(q0.1-y.1+dpt ys-1).toNat]? =some row/\0<=qL ns l/\row[(qL ns l).toNat]? =some v:=wr
  show _/\aYs _ _ _ [_,.sh (if 0<q0.1-y.1 then .tp [.s "spot",tkU (q0.1-y.1,l)]else .tp [.s "first",tkU (q0.1-y.1,l)]),_,_];by_cases h:0<q0.1-y.1
  ·rw[Aa1 h]at wr⊢;exact#[rfl,_,rfl,trivial,trivial,λz=>no #v[1] z,λ_=>#[_,rfl,trivial,trivial,λ_=>#[ab,rfl,_,rfl,_,_,rfl,wr,q],λz=>ye z]]
  ·rw[Aa0 h]at wr⊢;obtain⟨ll,k0,row,hr,p0,hv⟩:=wr;refine#[rfl,_,rfl,trivial,trivial,λz=>no #v[1] z,λ_=>#[_,rfl,trivial,trivial,λz=>no #v[1] z,λ_=>?_]];refine#[rfl,by decide+kernel,_,rfl,_,rfl,ns,rs,t,ys,m,r,ls,_,row,rfl,yl,y0,k0,hr,?_];refine#[rfl,.inr #[by decide+kernel,.inl #[rfl,rfl,by decide+kernel,_,rfl,_,rfl,ns,rs,l,rfl,gs,ll,.n v,?_,q]]];obtain⟨n,hn⟩:∃n:Nat,qL ns l=n:=#[(qL ns l).toNat,∅];rw[hn]at hv⊢;refine iQ ?_;rw[Ap,show row[n]? =some v from hv];rfl
def wNm:List Str:=["sizes","rims","told","modulus","rounds","first"]
def wK(ns:List Int)(rs:List Rim)(t:Tm)(m r:Int)(ls:List (List Int)):U:=.dk wNm [.ls (ns.map U.n),.ls (rs.map Rim.u),dR t,.n m,.n r,.ls (eQ ls)]
def aA4:Fv:=λus R=>∃ns:List Int,us=[.ls (ns.map U.n)]/\jD ns/\(cF ns).length<=40/\R (.sh (.ls (plU ns)))
abbrev aDb:List Str:=["_law_sizes_here","_law_found","_law_size","_law_longer","_law_place"]
def dO:aK ["_law_sizes_here","_law_found","_law_size","_law_longer","_law_place"] ["_law_sizes_here"] (aC lA):={}
def aSy(n:Int)(p:List Int):(qI 0 n.toNat).map (λu=>U.tp (p.map U.n++[u]))=(ext n p).map pU:=by
 unfold qI ext pU;simp[Sb]
def aM0(F:Fun K "_law_places" "_law_places" lA f fd)(T:Txt mg):↥1 f fd ["_law_sizes_here"] (spV aA4):=by
 refine vfn F dO (λaf A outer s H E(hr:cV 0 _)=>(aG (aR (i:=1) dO.nd (cR (aB (bV aD) aD))) (sE 1 (aG (fH Bw rfl (bY (aA 0)) (fQ (i:=2) dO.nd) (aG (aR (i:=3) dO.nd (cR aD)) (aG (fH Bw rfl (bY (aA 1)) (fQ (i:=4) dO.nd) (aF (aR (i:=3) dO.nd (aW bN cC (aA 3) (iK (own:=["_law_number_here"]) (cap:=[("_law_place",4)]) (aC lA) aDb rfl rfl (λx h=>bO h) #v[1] rfl (vic (oJ T.range (aP (aA 2) aY))) ↑(bU (i:=0) (~~~["_law_number_here","_law_place"]) rfl (Dy rfl) (Ew rfl)) (cO ⋯) ↑(aW bN cC (aA 1) (bV (aB (aA 0) aD)))))))) (sE 3 (aF (aR (i:=1) dO.nd (aA 3))))))) (aF (gP 1)))))) ?_;rintro _ R ⟨ns,rfl,gs,l40,q⟩;have l3:=gs.l3;refine#[rfl,?_];refine cL (λl ρ=>∃(ms:List Int)(ps:List (List Int))(a b c:Sl),l=ms.map U.n/\ρ=[.sh (.ls (ns.map U.n)),.sh (.ls (ps.map pU)),a,b,c]/\(∀n∈ms,1<=n/\n<=9)/\(∀p∈ps,p.length+ms.length<=3)/\ms.foldl (λps n=>ps.flatMap (ext n)) ps=cF ns) ?_ ?_ #[ns,[[]],_,_,_,rfl,rfl,gs.ok,λp hp=>by rw[Bf.mp hp];show 0+_<=3;lia,rfl]
 ·rintro ρ ⟨ms,ps,a,b,c,el,rfl,_,_,ee⟩;obtain rfl:ms=[]:=Bo.mp el.symm;have ee:ps=cF ns:=ee;subst ee;exact q
 ·rintro u l ρ ⟨ms0,ps,a,b,c,el,rfl,hm,h3,ee⟩ ih;cases ms0 with
  |nil=>cases el
  |cons n ms=>
   obtain⟨rfl,rfl⟩:=Dq el;have hn:=hm n Ag;have hm':∀x∈ms,1<=x/\x<=9:=λx hx=>hm x (Ah _ hx);have ee:ms.foldl (λps n=>ps.flatMap (ext n)) (ps.flatMap (ext n))=cF ns:=ee;have le:=yO ms (ps.flatMap (ext n)) λx hx=>(hm' x hx).1;rw[ee]at le;show mL (pX 4) _ _ (ps.map pU) [.sh (.ls (ns.map U.n)),.sh (.ls (ps.map pU)),.sh (.n n),.ow [],c];refine cL (λl ρ=>∃(dn rs:List (List Int))(c:Sl),l=rs.map pU/\dn++rs=ps/\ρ=[.sh (.ls (ns.map U.n)),.sh (.ls (ps.map pU)),.sh (.n n),.ow ((dn.flatMap (ext n)).map pU),c]) ?_ ?_ #[[],ps,_,rfl,rfl,rfl]
   ·rintro ρ ⟨dn,rs,c,el,ed,rfl⟩;obtain rfl:rs=[]:=Bo.mp el.symm;rw[Bi]at ed;subst ed;exact ih _ ⟨ms,_,_,_,_,rfl,rfl,hm',λp hp=>by
     obtain⟨p0,h0,h1⟩:=Fh.mp hp;obtain⟨i,_,rfl⟩:=Ay.mp h1;have:=h3 p0 h0;rw[An]at this;rw[Ak];show _+1+_<=3;lia,ee⟩
   ·rintro u l ρ ⟨dn,rs,c,el,ed,rfl⟩ ih2;cases rs with
    |nil=>cases el
    |cons p rs=>
     obtain⟨rfl,rfl⟩:=Dq el;have ll:(dn.flatMap (ext n)).length+(ext n p).length<=40:=by
      have:(ps.flatMap (ext n)).length=(dn.flatMap (ext n)).length+((ext n p).length+(rs.flatMap (ext n)).length):=by
       rw[<-ed,Mx,Ak,Gj,Ak]
      lia
     refine#[∅,∅,by rw[cX];lia,iG (h:=λu=> .tp (p.map U.n++[u])) (λu hu k hk=>#[?_,hk]) ?_]
     ·have:=h3 p (by rw[<-ed];simp);rw[Ab];show _+1<=10000;lia
     ·have ex:=aSy n p;refine#[by rw[Di,ex,Ab,Ab];lia,ih2 _ #[dn++[p],rs,.sh (pU p),rfl,by rw[<-ed];simp,?_]];rw[Di,ex,Mx,Cc,Gj,Vh,Bi];rfl
def aPh{n:Int}(h:0<=n)(ps:List (List Int)):((ps.flatMap (ext n)).length:Int)=ps.length*n:=by
 induction ps with
 |nil=>simp
 |cons p ps ih=>
  rw[Gj,Ak,An];have:(ext n p).length=n.toNat:=by unfold ext;rw[Ab,Hg]
  rw[this,Mn,ih,Mn,Zu]
  lia
theorem aHa:∀(ns:List Int)(ps:List (List Int)),(∀n∈ns,1<=n)->((ns.foldl (λps n=>ps.flatMap (ext n)) ps).length:Int)=ns.foldl (λa n=>a*n) (ps.length:Int)
 | [],_,_=>rfl
 |n::ns,ps,h=>by
  rw[Jz,Jz,aHa ns _ λx hx=>h x (Ah _ hx),aPh (by have:=h n Ag;lia)]
def tE(h:∀n∈ns,1<=n):((cF ns).length:Int)=dC ns:=aHa ns [[]] h
def pG(gs:jD ns):(cF ns).length<=40:=by
 have:=tE λn hn=>(gs.ok n hn).1;have:=gs.mn
 lia
def aWz{n:Int}{ps:List (List Int)}(h:ps.Nodup):(ps.flatMap (ext n)).Nodup:=by
 unfold Zs;rw[Mb];refine#[λp hp=>?_,h.imp λ{a b} h x hx y hy e=>?_]
 ·unfold ext;rw[Ip];exact(Lg (n:=n.toNat)).imp λh e=>h (by have:=(Dq (List.append_cancel_left e)).1;lia)
 ·obtain⟨i,_,rfl⟩:=Ay.mp hx;obtain⟨j,_,rfl⟩:=Ay.mp hy;exact h (List.append_inj' e rfl).1
theorem nQ:∀{ns:List Int}{ps:List (List Int)},ps.Nodup->(ns.foldl (λps n=>ps.flatMap (ext n)) ps).Nodup
 | [],_,h=>h
 |n::ns,ps,h=>nQ (ns:=ns) (ps:=ps.flatMap (ext n)) (aWz h)
theorem aCb:∀(l m:List Int),D.eqs (U.ds (l.map U.n)) (U.ds (m.map U.n))=decide (l=m)
 | [],[]=>rfl
 | [],_::_=>rfl
 |_::_,[]=>rfl
 |a::l,b::m=>by
  show(eqV (.int a) (.int b) && D.eqs (U.ds (l.map U.n)) (U.ds (m.map U.n)))=_;rw[aCb l m];simp[eqV];rfl
def kvU(l:List Tk)(f:Tk->U):List (Tke×U):=l.map λq=>(q,f q)
def aPv(l:List Tk)(f:Tk->U):(kvU l f).map (·.1)=l:=by simp[kvU,Sb]
theorem wZ{f:Tk->U}{z:Tk}(h:z∈l):sY (kvU l f) z=some (f z):=by
 unfold kvU;induction l<;>grind [sY]
def aK7{f:Tk->U}{q:Tk}(h:q∉l):aHr (kvU l f) q (f q)=kvU (l++[q]) f:=by
 unfold aHr;rw[Aa0 λz=>h (by have:=aEy z;rwa [aPv]at this)];simp only[kvU,Cc,Br,Fq]
def Rng(l ns:List Int):Prop:=l.length=ns.length/\∀x∈l.zip ns,0<=x.1/\x.1<x.2
theorem aPj(n:Int):∀(ps:List (List Int))(a i:Nat),i<n.toNat->(ps.flatMap (ext n))[a*n.toNat+i]? =ps[a]?.map (·++[0+(i:Int)])
 | [],a,i,_=>by simp
 |p::ps,0,i,h=>by
  rw[Gj,Es (by unfold ext;simp;lia)];unfold ext;simp[h]
 |p::ps,a+1,i,h=>by
  have le:(ext n p).length=n.toNat:=by unfold ext;simp
  rw[Gj,Ga (by rw[le,Zr];lia),le,show(a+1)*n.toNat+i-n.toNat=a*n.toNat+i by rw[Zr];lia,aPj n ps a i h];rfl
theorem aHe:∀(ns is:List Int)(ps:List (List Int))(A:Nat)(p:List Int),Rng is ns->ps[A]? =some p->∃J:Nat,(is.zip ns).foldl (λa p=>a*p.2+p.1) (A:Int)=J/\(ns.foldl (λps n=>ps.flatMap (ext n)) ps)[J]? =some (p++is)
 | [],is,ps,A,p,h,hp=>by
  obtain rfl:is=[]:=Fl.mp h.1;exact#[A,rfl,by rw[Bi];exact hp]
 |n::ns,[],ps,A,p,h,hp=>by cases h.1
 |n::ns,i::is,ps,A,p,h,hp=>by
  have hi:=h.2 (i,n) (by simp);have hi1:0<=i:=hi.1;have hi2:i<n:=hi.2;have g:=aPj n ps A i.toNat ∅;rw[hp]at g;obtain⟨J,e1,e2⟩:=aHe ns is (ps.flatMap (ext n)) (A*n.toNat+i.toNat) _ #[Dw h.1,λx hx=>h.2 x (Ah _ hx)] g;refine#[J,?_,?_]
  ·rw[<-e1];show(is.zip ns).foldl _ ((A:Int)*n+i)=_;rw[show((A*n.toNat+i.toNat:Nat):Int)=(A:Int)*n+i by rw[Mn,Int.natCast_mul,Nk (by lia:0<=n),Nk hi1]]
  ·show(ns.foldl _ (ps.flatMap (ext n)))[J]? =_;rw[e2,Int.zero_add,Nk hi1,Bm];rfl
def mQ{ns is:List Int}(h:Rng is ns):0<=qL ns is/\(cF ns)[(qL ns is).toNat]? =some is:=by
 obtain⟨J,e1,e2⟩:=aHe ns is [[]] 0 [] h rfl;have e:qL ns is=J:=e1;rw[e];exact#[Int.natCast_nonneg _,e2]
def aSr{n y v:Int}(h:0<n)(e:byR r n y=some v):0<=v/\v<n:=by
 have m0:=Fu y (show n≠0 by lia);have m1:=Ek y h;have k0:=Fu y (show 2*n≠0 by lia);have k1:=Ek y (show 0<2*n by lia);by_cases c:0<=y/\y<n
 ·have:byR r n y=some y:=by cases r<;>exact Aa1 c
  rw[this]at e;cases e;exact c
 ·cases r with
  |fixed _=>
   rw[show byR (.fixed _) n y=none from Aa0 c]at e;cases e
  |mirror=>
   rw[show byR .mirror n y=some (mir n y)from Aa0 c]at e;cases e;unfold mir;split<;>lia
  |round=>
   rw[show byR .round n y=some (y % n)from Aa0 c]at e;cases e;exact#[m0,m1]
theorem aA3:∀(ns:List Int)(rs:List Rim)(is ss l:List Int),(∀n∈ns,0<n)->rs.length=ns.length->is.length=ns.length->ss.length=ns.length->bes ns rs is ss=.ok l->Rng l ns
 | [],[],[],[],l,_,_,_,_,e=>by cases e;exact#[rfl,nofun]
 |n::ns,r::rs,i::is,s::ss,l,h,h1,h2,h3,e=>by
  have e:(match byR r n (i+s)with
   |none=>Lo r.c
   |some x=>match bes ns rs is ss with
    |.error c=> .error c
    |.ok l=> .ok (x::l))=.ok l:=e
  split at e
  ·cases e
  ·rename_i v hv;split at e
   ·cases e
   ·rename_i l' hl;cases e;have ih:=aA3 ns rs is ss l' (λx hx=>h x (Ah _ hx)) (Dw h1) (Dw h2) (Dw h3) hl;refine#[by rw[An,An,ih.1],λx hx=>?_];rcases Ax.mp hx with rfl|hx
    ·exact aSr (h n Ag) hv
    ·exact ih.2 x hx
 | [],_::_,_,_,_,_,h1,_,_,_=>by cases h1
 | [],_,_::_,_,_,_,_,h2,_,_=>by cases h2
 | [],_,_,_::_,_,_,_,_,h3,_=>by cases h3
 |_::_,[],_,_,_,_,h1,_,_,_=>by cases h1
 |_::_,_,[],_,_,_,_,h2,_,_=>by cases h2
 |_::_,_,_,[],_,_,_,_,h3,_=>by cases h3
def aXx{ns l:List Int}(h:Rng l ns):∃u,(plU ns)[(qL ns l).toNat]? =some u/\u.eq (pU l)=true/\∀m,m<(qL ns l).toNat->∀x,(plU ns)[m]? =some x->x.eq (pU l)=false:=by
 have ee:∀a b:List Int,U.eq (pU a) (pU b)=decide (a=b):=aCb;obtain⟨_,e⟩:=mQ h;have nd:(cF ns).Nodup:=nQ (Dm _ _);refine#[pU l,by rw[Ap,e];rfl,by rw[ee];simp,λm hm x hx=>?_];rw[Ap]at hx;obtain⟨p,hp,rfl⟩:=Dp.mp hx;rw[ee];refine Aa6 λz=>?_;subst z;obtain⟨h1,e1⟩:=Be.mp hp;obtain⟨h2,e2⟩:=Be.mp e;have:=(Hq (h₀:=h1) (h₁:=h2) nd).mp (e1.trans e2.symm)
 lia
def spS(ns:List Int)(n:Nat):List Tk:=(Dl n).flatMap λ(j:Nat)=>(cF ns).map λp=>(1+(j:Int),p)
def aYe(ns:List Int)(n:Nat):spU (plU ns) n=(spS ns n).map tkU:=by
 unfold spU spS;rw[List.map_flatMap];congr 1;funext j;rw[Ce,Ce];rfl
def aRu{q:Tk}(h:q∈spS ns n):q.1<=n:=by
 obtain⟨j,hj,h⟩:=Fh.mp h;obtain⟨p,hp,rfl⟩:=Ay.mp h;have:=Dj.mp hj;show 1+(j:Int)<=n
 lia
def aYd(ns:List Int)(n:Nat):(spS ns n).Nodup:=by
 unfold Zs spS;rw[Mb];refine#[λj hj=>?_,(Lg (n:=n)).imp λ{a b} h x hx y hy e=>?_]
 ·rw[Ip];exact(nQ (ns:=ns) (ps:=[[]]) (by simp)).imp λh e=>h (Wh e).2
 ·obtain⟨p,_,rfl⟩:=Ay.mp hx;obtain⟨p',_,rfl⟩:=Ay.mp hy;have:=(Wh e).1
  lia
theorem aEg:∀(ns:List Int)(ps:List (List Int))(a:Nat),(∀n∈ns,n<=9)->(∀p∈ps,p.length=a/\∀x∈p,0<=x/\x<=9)->∀p∈ns.foldl (λps n=>ps.flatMap (ext n)) ps,p.length=a+ns.length/\∀x∈p,0<=x/\x<=9
 | [],_,_,_,hp=>hp
 |n::ns,ps,a,h,hp=>by
  have:=aEg ns (ps.flatMap (ext n)) (a+1) (λx hx=>h x (Ah _ hx)) λp hq=>by
   obtain⟨p0,h0,h1⟩:=Fh.mp hq;obtain⟨i,hi,rfl⟩:=Ay.mp h1;have hn:=h n Ag;have hi:=Dj.mp hi;obtain⟨l0,x0⟩:=hp p0 h0;refine#[by rw[Ak,l0];rfl,λx hx=>(Cb.mp hx).elim (x0 x) λhx=>?_];rw[Bf.mp hx]
   lia
  intro p hq;obtain⟨a1,a2⟩:=this p hq;exact#[by rw[a1,An];lia,a2]
def aF5{q:Tk}(gs:jD ns)(h:q∈spS ns n):q.2.length=ns.length/\(∀x∈q.2,0<=x/\x<=9)/\1<=q.1:=by
 obtain⟨j,_,h⟩:=Fh.mp h;obtain⟨p,hp,rfl⟩:=Ay.mp h;obtain⟨a1,a2⟩:=aEg ns [[]] 0 (λn hn=>(gs.ok n hn).2) (λp hp=>by rw[Bf.mp hp];exact#[rfl,nofun]) p hp;exact#[by rw[a1];lia,a2,by show 1<=1+(j:Int);lia]
def aLk{q:Tk}(h1:1<=q.1)(h2:q.1<=n)(h:Rng q.2 ns):q∈spS ns n:=Fh.mpr ⟨(q.1-1).toNat,Dj.mpr ∅,Ay.mpr ⟨q.2,Bl (mQ h).2,by
 show(1+((q.1-1).toNat:Int),q.2)=q;rw[show 1+((q.1-1).toNat:Int)=q.1 by lia]⟩⟩
def aLj(gs:jD ns):(spS ns n).length<=n*40:=by
 unfold spS;rw[List.length_flatMap];induction n with
 |zero=>simp
 |succ n ih=>
  rw[Vw,Cc,Vv];have:=pG gs;simp at ih⊢
  lia
theorem yR:∀l:List Int,Nws (l.map U.n)
 | []=>trivial
 |_::l=>#[trivial,yR l]
theorem rY:∀t:Tm,Nw (dR t)
 |.num _=>#[trivial,trivial,trivial]
 |.take _ ss=>#[trivial,trivial,yR ss,trivial]
 |.rest t _=>#[trivial,rY t,trivial,trivial]
 |.cho a b c=>#[trivial,rY a,rY b,rY c,trivial]
 |.bin _ a b=>#[trivial,rY a,rY b,trivial]
theorem aBh:∀l:List Rim,Nws (l.map Rim.u)
 | []=>trivial
 |.fixed _::l=>#[#[trivial,trivial,trivial],aBh l]
 |.mirror::l=>#[#[trivial,trivial],aBh l]
 |.round::l=>#[#[trivial,trivial],aBh l]
theorem aLi:∀l:List (List Int),Nws (eQ l)
 | []=>trivial
 |r::l=>#[yR r,aLi l]
def aSi:Nw (wK ns rs t m r ls):=#[yR ns,aBh rs,rY t,trivial,trivial,aLi ls,trivial]
structure aN1(ns:List Int)(rs:List Rim)(t:Tm)(m:Int)(ls:List (List Int))(ys:List Tk):Prop where
 gs:jD ns
 rl:rs.length=ns.length
 fw:Few t
 ik:eF t ys
 gy:∀y∈ys,aGk y/\y.2.length=ns.length
 ht:ht t<=4
 wf:Wf t
 dp:(ls.length:Int)=dpt ys
 m1:1<=m
 m2:m<1073741824
theorem qH(n:Nat):∀l:List Int,U.dts n (l.map U.n)
 | []=>by rw[Fq,U.dts];trivial
 |i::l=>by
  rw[Br,U.dts];exact#[by rw[U.dt];trivial,qH n l]
theorem aHo:∀l:List (List Int),U.dts 40 (l.map pU)
 | []=>by rw[Fq,U.dts];trivial
 |p::l=>by
  rw[Br,U.dts];exact#[qH 39 p,aHo l]
def wF{x:Str}{us:List U}(k:Nat)(hx:wNm[k]? =some x)(hu:us[k]? =some u)(q:R (.sh u)):aDk x wNm us R:=aPi q #v[1] hx hu
def wU(ns:List Int)(t:Tm)(m r:Int)(ls:List (List Int))(q:Addr):List U:=[.ls (ns.map U.n),.op (ptO q),dR t,.n m,.n r,.ls (eQ ls)]
def wO(ns:List Int)(rs:List Rim)(t:Tm)(m r:Int)(ls:List (List Int)):Own:=dwO wNm (wU ns t m r ls) (rs.map Rim.u)
def aVx:Fv:=λus R=>us=[.wl]/\∀ns rs t m r ls,gU ns rs t m r ls->ht t<=4->R (.oo (wO ns rs t m r ls))
abbrev vN:List Str:=["_law_well_here","_law_sizes_here","_law_rims","_law_many","_law_size","_law_told_here","_law_modulus","_law_rounds","_law_deep","_law_first","_law_world"]
def cQ:aK ["_law_well_here","_law_sizes_here","_law_rims","_law_many","_law_size","_law_told_here","_law_modulus","_law_rounds","_law_deep","_law_first","_law_world"] ["_law_well_here"] (aC jB):={}
def aTb(F:Fun K "_law_job" "_law_job" jB f fd)(aO:⇑1 "_law_draw" ["_law_well_here","_law_most"] (spV vG))(aFe:⇑2 "_law_sizes" ["_law_well_here"] (spV aPc))(aIy:⇑2 "_law_rim" ["_law_well_here"] (spV aVz))(wQ:⇑3 "_law_some_takes" ["_law_well_here","_law_lines"] (spV aPd))(lE:⇑6 "_law_told" ["_law_well_here","_law_some","_law_deep"] (spV (aK1 4)))(qX:⇑5 "_law_takes" ["_law_told_here"] (spV (aA5 4)))(T:Txt mg):↥7 f fd ["_law_well_here"] (spV aVx):=by
 refine vfn F cQ (λaf A outer s H E hr=>(aG (aR (i:=1) cQ.nd (aM aFe (hr.mono ⋯) rfl (aB (aA 0) aD))) (sE 1 (aG (aWi (i:=2) (own:=["_law_size"]) (cap:=[("_law_well_here",0)]) cQ.nd (aC jB) vN rfl rfl (λx h=>bO h) #v[1] rfl (vic (bY (aA 1))) ↑(bU (i:=0) (~~~["_law_size","_law_well_here"]) rfl (Dy rfl) (Ew rfl)) (cO ⋯) ↑(aM aIy (hr.mono ⋯) rfl (aB (aA 1) aD))) (aSf 2 (aG (aR (i:=3) cQ.nd aH) (aG (fH Bw rfl (bY (aA 1)) (fQ (i:=4) cQ.nd) (aF (aR (i:=3) cQ.nd (aW jJ lQ (aA 3) (aA 4))))) (aG (aR (i:=5) cQ.nd (aM lE (hr.mono ⋯) rfl (aB (aA 0) (aB (aM wQ (hr.mono ⋯) rfl (aB (aA 0) (aB (bR bF fV T.len Gk (aP (aA 1) aY)) aD))) (aB aH aD))))) (aG (aR (i:=6) cQ.nd (aW bN cC aH (aM aO (hr.mono ⋯) rfl (aB (aA 0) (aB (bA aQ aZ (cR (aB aH (aB aH (aB (aW fY cU (aW aCn lQ aH aH) aH) aD)))) (aM aO (hr.mono ⋯) rfl (aB (aA 0) (aB aH aD)))) aD))))) (aG (aR (i:=7) cQ.nd (aW jJ lQ (aW bN cC aH (aM aO (hr.mono ⋯) rfl (aB (aA 0) (aB (bR (yL rfl) aKt T.min boot_min (aP aH (aP (aW aBd lQ aH (aA 3)) aY))) aD)))) (eZ aEa aOs T.int boot_int (aP (zU (yZ (huD hr)) cY (aM aO (hr.mono ⋯) rfl (aB (aA 0) (aB aH aD))) aH) aY)))) (aG (aR (i:=8) cQ.nd (aGd rfl T.max (aP (iK (own:=["_law_back","_law_steps_here"]) (cap:=[]) (aC jB) vN rfl rfl (λx h=>bO h) #v[1] rfl (vic (bY (aM qX (hr.mono ⋯) rfl (aB (aA 5) aD)))) ↑(aJy rfl (tZ (bU (i:=0) (~~~["_law_back","_law_steps_here"]) rfl (Dy rfl) (Ew rfl)) (tZ (bU (i:=1) (~~~["_law_back","_law_steps_here"]) rfl (Dy rfl) (Ew rfl)) aFx))) (aSa (is:=[0,1]) rfl ⋯) ↑(aA 0)) aY) aH)) (aG (aY4 (i:=9) (own:=["_law_turn"]) (cap:=[("_law_well_here",0),("_law_many",3),("_law_modulus",6)]) aS0 cQ.nd (aC jB) vN rfl rfl (λx h=>bO h) #v[1] rfl (vic (oJ T.range (aP (aA 8) aY))) (λcs cf C s2 H2 fp=>(bU (i:=0) (~~~["_law_turn","_law_well_here","_law_many","_law_modulus"]) rfl (Dy rfl) (Ew rfl))) (cO ⋯) (λcs cf C s2 H2 fp=>(aYx (own:=["_law_k"]) (icap:=[("_law_well_here",1),("_law_modulus",3)]) (aC jB) cf rfl rfl #v[1] rfl (vic (oJ T.range (aP (aA 2) aY))) (λcl C' s3 H3 fp'=>(bU (i:=0) (~~~["_law_k","_law_well_here","_law_modulus"]) rfl (Dy rfl) (Ew rfl))) (cO ⋯) (λcl C' s3 H3 fp'=>(aM aO (hr.mono ⋯) rfl (aB (aA 1) (aB (aA 2) aD))))))) (sE 9 (aG (aR (i:=10) cQ.nd (aLq (uQ (aA 1) (uQ (aY2 2) (uQ (aA 5) (uQ (aA 6) aSb)))) #v[1] ⋯)) (aG (aU1 10 (aLq (uQ (aA 7) (uQ (aA 9) aSb)) #v[1] ⋯)) (aNu 10 2 (aF (gP 10)))))))))))))))))) ?_;rintro _ R ⟨rfl,q⟩;refine#[rfl,rfl,λns gs=>?_];have l1:=gs.l1;have l3:=gs.l3;refine#[by rw[Ab];lia,lF (λx=>∃r:Rim,x=r.u/\r.ok) (λu hu c hc=>#[rfl,λr ro=>hc _ #[r,rfl,ro]]) λxs xl xp=>?_];obtain⟨rs,rfl,hr⟩:=pull xp;rw[Ab,Ab]at xl;refine#[_,rfl,λq'=>?_];show mL (pX 4) _ _ (ns.map U.n) [.sh .wl,.sh (.ls (ns.map U.n)),.oo (lqO q' (rs.map Rim.u)),.sh (.n 1),.no,.no,.no,.no,.no,.no,.no];refine cL (λl ρ=>∃(don rst:List Int)(x:Sl),l=rst.map U.n/\don++rst=ns/\ρ=[.sh .wl,.sh (.ls (ns.map U.n)),.oo (lqO q' (rs.map Rim.u)),.sh (.n (dC don)),x,.no,.no,.no,.no,.no,.no]) ?_ ?_ #[[],ns,_,rfl,rfl,rfl]
 rotate_left
 ·rintro u l ρ ⟨don,rst,x,e1,e2,rfl⟩ ih;cases rst with
  |nil=>cases e1
  |cons n rst=>
   cases e1;have hn:=gs.ok n (by rw[<-e2];simp);exact#[.inr #[∅,∅],ih _ #[don++[n],rst,.sh (.n n),rfl,by rw[<-e2];simp,by rw[show dC (don++[n])=dC don*n from aHb don 1 n];rfl]]
 rintro ρ ⟨don,rst,x,e1,e2,rfl⟩;obtain rfl:rst=[]:=Bo.mp e1.symm;rw[Bi]at e2;subst e2;have p1:1<=dC don:=xN don 1 (λn h=>(gs.ok n h).1) ⋯;have p40:=gs.mn;have hd:1<=48 / dC don:=by rw[Sa ∅];lia
 refine#[_,rfl,by rw[Ab];lia,λys gy=>#[3,_,ys,⋯,rfl,gy,λt gn=>?_]];refine#[#[⋯,⋯,⋯],3,rfl,⋯,⋯,λr2 a2 b2=>?_];have key:∃mm:Int,atI [U.n 5,U.n 200,U.n (10 ^ (9:Int).toNat-1)] r2=some (.n mm)/\0<mm/\mm<=999999999:=three (R:=λu=>∃mm:Int,u=.n mm/\0<mm/\mm<=999999999) a2 b2 #[_,rfl,⋯,⋯] #[_,rfl,⋯,⋯] #[_,rfl,⋯,⋯] |>.elim λu ⟨e,mm,eu,h⟩=>#[mm,eu▸e,h];obtain⟨mm,em,m0,m9⟩:=key;refine#[_,em,mm,rfl,m0,∅,λv v0 vm=>?_];refine#[#[∅,∅],_,rfl,?_,?_,λr3 a3 b3=>#[16,rfl,⋯,⋯,λz z0 z16=>#[trivial,trivial,?_,?_]]]
 ·show 0<(if 48 / dC don<12 then 48 / dC don else 12);split<;>lia
 ·show(if 48 / dC don<12 then 48 / dC don else 12)<2 ^ 62;split<;>lia
 ·exact .inr ((by decide:∀b:Bool, -2 ^ 64<(if b=true then(1:Int)else 0)/\(if b=true then(1:Int)else 0)<2 ^ 64) _)
 have b3:r3<(if 48 / dC don<12 then 48 / dC don else 12):=b3;have b4:1+r3<=12/\1+r3<=48 / dC don:=by split at b3<;>lia
 show aNs 7 [.sh .wl,.sh (.ls (don.map U.n)),.oo (lqO q' (rs.map Rim.u)),.sh (.n (dC don)),x,.sh (dR t),.sh (.n (2+v)),.no,.no,.no,.no] _ (.sh (.n ((1+r3)*(if(!(U.eq (.n z) (.n 7)))=true then 1 else 0))));have rb:∃r,(1+r3)*(if(!(U.eq (.n z) (.n 7)))=true then 1 else 0)=r/\0<=r/\r<=12/\r*dC don<=120:=by
  refine#[_,rfl,?_];have h48:(1+r3)*dC don<=48:=by
   have h1:=On b4.2 (show 0<=dC don by lia);have h2:=Int.ediv_mul_le 48 (show dC don≠0 by lia)
   lia
  split
  ·rw[Pv];lia
  ·rw[Int.mul_zero,Int.zero_mul];lia
 obtain⟨r,er,r0,r12,rp⟩:=rb;rw[er];have fy:∀x∈raw t,aGk x/\x.2.length=don.length:=λx hx=>by
  have:=gy.g x (gn.rw_ x hx);rw[Ab]at this;exact this
 have fw:Few t:=#[ys,by have:=gy.l;lia,gn.rw_];have h4:ht t<=4:=gn.ht;have gj:∀ls:List (List Int),ls.length<=3->(∀zs,eF t zs->(ls.length:Int)=dpt zs)->(∀l∈ls,GoodR (dC don) (2+v) l)->gU don rs t (2+v) r ls:=λls h3 hd hl=>
  #[gs,xl,hr,∅,#[gn.wf,λx hx=>#[(fy x hx).1,by rw[(fy x hx).2];exact l1,by rw[(fy x hx).2];exact l3]],Bs gn.pr ⋯,#[∅,λx hx=>(fy x hx).2,ys,by have:=gy.l;lia,gn.rw_],#[∅,∅],#[r0,r12],rp,hd,h3,hl]
 have zp:∀{zs},eF t zs->∀y∈zs,1<=y.1/\y.1<=3:=λh y hy=>let g:=(fy y ((h.2 y).mp hy)).1;#[g.1,g.2.1];have same:∀{zs ws},eF t zs->eF t ws->∀z,z∈zs↔z∈ws:=λh h' z=>(h.2 z).trans (h'.2 z).symm;refine#[t,rfl,h4,fw,λzs ik=>#[by rw[Ab];have:=pB fw ik;lia,aH8 (g:=λy=> .n y.1) (α:=Unit) (λy hy k hk=>#[rfl,hk]) #[zs.map (·.1),by rw[Ce];rfl,λh=>?_,λm hm ha=>?_]]]
 ·have dq:∀ws,eF t ws->dpt ws=1:=λws hz=>by
   have e0:=Bo.mp h;have:ws=[]:=List.eq_nil_iff_forall_not_mem.mpr λz hz'=>by have:=(same hz ik z).mp hz';rw[e0]at this;cases this
   rw[this];rfl
  have m13:(1:Int)<=1/\(1:Int)<=3:=by decide
  refine#[∅,∅,by rw[cX];lia,lF (λx=>∃l:List Int,x=.ls (l.map U.n)/\GoodR (dC don) (2+v) l) (λu hu c hc=>?_) λxs xl' xp=>?_]
  ·refine#[∅,∅,by rw[cX];lia,lF (λx=>∃y:Int,x=.n y/\(0<=y/\y<2+v)) (λu hu c hc=>#[2+v,rfl,∅,∅,λy y0 y1=>hc _ #[y,rfl,y0,y1]]) λxs xl xp=>?_];obtain⟨l,rfl,hl⟩:=pull xp;rw[Ab,cX]at xl;exact hc _ #[l,rfl,∅,∅,hl]
  ·obtain⟨ls,rfl,hl⟩:=pull xp;rw[Ab,cX]at xl';exact#[_,_,rfl,_,_,rfl,_,_,rfl,by decide+kernel,⋯,q',_,_,wU don t (2+v) r ls,rfl,rfl,q don rs t (2+v) r ls (gj ls ∅ (λws hw=>by have:=dq ws hw;lia) hl) h4]
 ·have dq:∀ws,eF t ws->dpt ws=m:=λws hz=>by
   obtain⟨y,hy,e⟩:=Ay.mp hm;refine aOx (λy hy=>by have:=zp hz y hy;lia) (Ay.mpr #[y,(same hz ik y).mpr hy,e]) λa ha'=>?_;obtain⟨z,hz',e'⟩:=Ay.mp ha';exact ha a (Ay.mpr #[z,(same hz ik z).mp hz',e'])
  have m13:1<=m/\m<=3:=by
   obtain⟨y,hy,e⟩:=Ay.mp hm;have:=zp ik y hy
   lia
  refine#[∅,∅,by rw[cX];lia,lF (λx=>∃l:List Int,x=.ls (l.map U.n)/\GoodR (dC don) (2+v) l) (λu hu c hc=>?_) λxs xl' xp=>?_]
  ·refine#[∅,∅,by rw[cX];lia,lF (λx=>∃y:Int,x=.n y/\(0<=y/\y<2+v)) (λu hu c hc=>#[2+v,rfl,∅,∅,λy y0 y1=>hc _ #[y,rfl,y0,y1]]) λxs xl xp=>?_];obtain⟨l,rfl,hl⟩:=pull xp;rw[Ab,cX]at xl;exact hc _ #[l,rfl,∅,∅,hl]
  ·obtain⟨ls,rfl,hl⟩:=pull xp;rw[Ab,cX]at xl';exact#[_,_,rfl,_,_,rfl,_,_,rfl,by decide+kernel,⋯,q',_,_,wU don t (2+v) r ls,rfl,rfl,q don rs t (2+v) r ls (gj ls ∅ (λws hw=>by have:=dq ws hw;lia) hl) h4]
def aFq(N:Cn)(CG CJ:Addr):Fv:=λus R=>∃ns rs t m r ls,us=[wK ns rs t m r ls]/\gU ns rs t m r ls/\ht t<=4/\∀ys,eF t ys->R (.sh (nR N CG CJ ns rs t ys m r ls))
abbrev aDa:List Str:=["_law_world","_law_first","_law_grid"]
def oF:aK ["_law_world","_law_first","_law_grid"] ["_law_world"] (aC kZ):={}
def aQk(F:Fun K "_law_job_of" "_law_job_of" kZ f fd)(M_Grid:MkU P w K mg base 5 CG "Grid" ["self","sizes","rims"] aJa)(M_Job:MkU P w K mg base 14 CJ "Job" ["self","grid","term","modulus","rounds","first"] (aJb N CG))(c__law_made:⇑6 "_law_made" ["_law_told_here"] (spV (aKz N 4)))(T:Txt mg):↥16 f fd ["_law_world"] (spV (aFq N CG CJ)):=by
 refine vfn F oF (λaf A outer s H E hr=>(aG (aWi (i:=1) (own:=["_law_row"]) (cap:=[]) oF.nd (aC kZ) aDa rfl rfl (λx h=>bO h) #v[1] rfl (vic (bY (mD (sV hr) (aA 0)))) ↑(bU (i:=0) (~~~["_law_row"]) rfl (Dy rfl) (Ew rfl)) (cO ⋯) ↑(eZ (iY rfl) qY T.list Ko (aP (aA 0) aY))) (sE 1 (aG (aR (i:=2) oF.nd (jZ M_Grid (hr.mono ⋯) (aB (eZ (iY rfl) qY T.list Ko (aP (mD (sV hr) (aA 0)) aY)) (aB (eZ (iY rfl) qY T.list Ko (aP (mD (sV hr) (aA 0)) aY)) aD)))) (aF (aN (jZ M_Job (hr.mono ⋯) (aB (aA 2) (aB (aM c__law_made (hr.mono ⋯) rfl (aB (mD (sV hr) (aA 0)) aD)) (aB (mD (sV hr) (aA 0)) (aB (mD (sV hr) (aA 0)) (aB (aA 1) aD)))))))))))) ?_;rintro _ R ⟨ns,rs,t,m,r,ls,rfl,gj,h4,q⟩;refine#[rfl,wF 5 rfl rfl #[by have:=gj.l3;unfold eQ;rw[Ab];lia,iG (h:=λu=>u) (λu hu k hk=>?_) ?_]]
 ·obtain⟨l,hl,rfl⟩:=Ay.mp hu;exact hk
 rw[Di,Yd];exact wF 0 rfl rfl (wF 1 rfl rfl #[ns,rs,rfl,gj.gs,gj.el,gj.rk,wF 2 rfl rfl #[t,rfl,h4,wF 3 rfl rfl (wF 4 rfl rfl #[ns,rs,t,m,r,ls,rfl,gj,λys hy=>q ys hy])]])
def nwT:Arguments×Bu×Scope×Pos:=match bG bB with
 | [_,_,.Return (some (.BinOp (.Call _ (.Lambda a b sc p::_) _ _) _ _ _)) _]=>(a,b,sc,p)
 |_=>(bQ bB,.Constant .none 0 #[0,0,0,0],aC bB,#[0,0,0,0])
abbrev nwQ:Str:=(("Job.next_worth":Str)++".<locals>.")++"<lambda>"
abbrev nwL:Lm:=#[nwQ,nwT.1,nwT.2.1,nwT.2.2.1,"take","worths"]
def aP4:aGo nwL:=#[rfl,rfl,rfl,rfl,rfl,by decide+kernel,by decide+kernel,#[_,_,_,rfl],#[⋯,⋯],#[⋯,⋯],λ_ _=>rfl]
def fP:aK ["self","spot","get","worths","take","where"] ["self","spot","get"] (aC bB):={}
def fNW(P:Aj)(w:Bd)(N:Cn)(CG CJ:Addr)(L:Lm)(z:See):Fv:=λus R=>∃ns rs t m r ls ys ab g,∃q:Tk,us=[nR N CG CJ ns rs t ys m r ls,tkU q,.op (lamO P w L z ab)]/\aN1 ns rs t m ls ys/\q.2.length=ns.length/\(∀y∈ys,WR ns rs ys ls ab q y (g y)/\(g y).natAbs<2 ^ 41)/\R (.sh (.n (val g t % m)))
def bAn{cc Pt:Addr}{oc kV doc pm ct:Value}(lk:K.lookup f=some #[oc,od,.func (Ca "next_worth" "Job.next_worth" (bQ bB) (bG bB) (aC bB) .none kV doc pm an (.ref cc) ct),osl])(hcd:Fj K (.ref cc) "Job.next_worth"=true)(hC:Kc base cc Pt)(hB:aBn mg base)
  (DV:∀base,yH P w K mg base 5 (IsC N) "value_by" VPs (aGn base) λz C=>spV (wX P w N nwL z 4 C))
  (cJ:Cfl K CJ ["taken","grid","term","modulus","rounds","first"]) (aIl:Dis P w K mg base CX0 5 (·=CJ) "reads_of" ["self","spot"] λ_=>spV (aPb N CG CJ)) (aE3:Dis P w K mg base CX0 3 (·=CJ) "worth_read" ["self","where","get"] λ_=>spV (fWR P w N CG CJ L z)) (T:Txt mg):
  ↥6 f (Ca "next_worth" "Job.next_worth" (bQ bB) (bG bB) (aC bB) .none kV doc pm an (.ref cc) ct) ["self","spot","get"] (spT [(Pt,[nwT.2.2.2],nwQ)] (fNW P w N CG CJ L z)):=by
 refine aUy lk hcd fP (λA outer s H E hr=>aWj (aGf (aR (i:=3) fP.nd (aLs (P:=P) (w:=w) rfl rfl)) (aGf (fH Bw rfl (bY (cZ (aA 0) aIl (hr.mono ⋯) (aB (aA 1) aD))) (aC7 rfl (iM (i:=4) fP.nd (iM (i:=5) fP.nd xZ))) (aF (aU2 (P:=P) (w:=w) 3 rfl rfl hr (aA 4) (cZ (aA 0) aE3 (hr.mono ⋯) (aB (aA 5) (aB (aA 2) aD)))))) (bD2 (uR (aKi (aY3 nY lQ (aIe (i:=3) (y:="worths") (c:=#v[0]+1) (bD cJ (aA 0)) (λbase' _=>(DV base').toT []) (λ_ h=>Aa2 h Cj) (hr.mono ⋯) (aLo (P:=P) (w:=w) (lm:=nwL) (cc:=cc) (Lp:=[nwT.2.2.2]) (q0:=("Job.next_worth":Str)++".<locals>.") (pm:=(mg "__name__").getD .none) rfl rfl Ag rfl rfl rfl Ag (λp hp=> .inl (Bf.mp hp)) hC rfl hB) rfl rfl rfl rfl) (bD cJ (aA 0))))))))) ?_;rintro _ R ⟨ns,rs,t,m,r,ls,ys,ab,g,q0,rfl,gl,ql,hw,q⟩;have zl:=Bs (pB gl.fw gl.ik) (show 4<=17 by decide);have y0:∀y∈ys,0<=y.1:=λy hy=>by have:=(gl.gy y hy).1.1;lia
 refine#[rfl,λs=>#[rfl,by decide+kernel,ns,rs,t,ys,m,r,ls,q0,rfl,gl.gs,gl.rl,ql,λy hy=>(gl.gy y hy).2,zl,?_]];refine cL (λl ρ=>∃(don rst:List Tk)(a b:Sl),l=rst.map (rdU ns rs q0)/\don++rst=ys/\ρ=[.sh (nR N CG CJ ns rs t ys m r ls),.sh (tkU q0),.sh (.op (lamO P w L z ab)),.oo (pdO P w (kvU don λz=> .n (g z))),a,b]) ?_ ?_ #[[],ys,_,_,rfl,rfl,rfl]
 ·rintro ρ ⟨don,rst,a,b,e1,e2,rfl⟩;obtain rfl:rst=[]:=Bo.mp e1.symm;rw[Bi]at e2;subst e2;have wo:Wor (kvU don λz=> .n (g z)) g t:=λx hx=>#[wZ ((gl.ik.2 x).mpr hx),(hw x ((gl.ik.2 x).mpr hx)).2];refine#[#[_,rfl],rfl,.inr #[by decide+kernel,.inr #[by decide+kernel,.inl #[rfl,?_]]]];dsimp only[Sl.es];refine .of (R:=λ_=>True) (ρ:=[]) (bW t #v[1] #[_,rfl,_,rfl,λz' hz hp=>?_]);exact#[t,_,g,rfl,rfl,gl.ht,gl.wf,wo,rfl,.inr #[by decide+kernel,.inr #[by decide+kernel,.inr #[by decide+kernel,.inl #[rfl,gl.m1,q]]]]]
 ·rintro u l ρ ⟨don,rst,a,b,e1,e2,rfl⟩ ih;cases rst with
  |nil=>cases e1
  |cons y rst=>
   cases e1;have yy:y∈ys:=by rw[<-e2];simp
   have yn:y∉don:=λz=>by
    have nd:=yX gl.ik.1;rw[<-e2]at nd;exact(Ku.mp nd).2.2 y z y Ag rfl
   have dl:(kvU don λz=>U.n (g z)).length<10000:=by
    have:(don++y::rst).length<=17:=by rw[e2];exact zl
    rw[Ak]at this;unfold kvU;rw[Ab]
    lia
   exact#[rfl,rfl,by decide+kernel,ns,rs,t,ys,m,r,ls,q0,y,ab,g y,rfl,gl.gs,zl,y0,(hw y yy).1,_,rfl,dl,y,rfl,ih _ #[don++[y],rst,_,_,rfl,by rw[<-e2];simp,by rw[<-aK7 (f:=λz=>U.n (g z)) yn];rfl]]
def nr1(ns:List Int)(rs:List Rim)(q y:Tk):Option Tk:=match bes ns rs q.2 y.2 with
 |.error _=>none
 |.ok l=>if 0<q.1-y.1 then some (q.1-y.1,l)else none
def wv(ns:List Int)(rs:List Rim)(ys:List Tk)(ls:List (List Int))(f:Tk->Int)(q y:Tk):Int:=match bes ns rs q.2 y.2 with
 |.error c=>c
 |.ok l=>if 0<q.1-y.1 then f (q.1-y.1,l)else((ls[(q.1-y.1+dpt ys-1).toNat]?.getD [])[(qL ns l).toNat]?).getD 0
def aSq:∀(ns:List Int)(rs:List Rim)(is ss:List Int)(c:Int),(∀x∈rs,x.ok)->bes ns rs is ss=.error c->0<=c/\c<=1000000000:=by
 intro ns rs is ss
 fun_induction bes ns rs is ss with
 |case1 n ns r rs i is s ss e=>
  intro c h e;cases e;have:=h r Ag;cases r with
  |fixed v=>exact this
  |mirror=>exact#[⋯,⋯]
  |round=>exact#[⋯,⋯]
 |case2 n ns r rs i is s ss x e c' e' ih=>
  intro c h e;exact ih c (λx hx=>h x (Ah _ hx)) (by cases e;exact e')
 |case3=>intro c h e;cases e
 |case4=>intro c h e;cases e
def aFo(hy:y∈ys):y.1<=dpt ys:=by
 have key:∀(l:List Tk)(a:Int),a<=l.foldl (λm y=>max m y.1) a/\∀y∈l,y.1<=l.foldl (λm y=>max m y.1) a:=by
  intro l;induction l with
  |nil=>exactλa=>#[Li _,nofun]
  |cons x l ih=>
   intro a;obtain⟨h1,h2⟩:=ih (max a x.1);rw[Jz];exact#[∅,λy hy=>(Ax.mp hy).elim (λe=>by rw[e];lia) (h2 y)]
 unfold dpt;rw[Aa0 (by intro z;rw[z]at hy;cases hy)];exact(key ys 0).2 y hy
def bCj{f:Tk->Int}{q y:Tk}(gs:jD ns)(el:rs.length=ns.length)(rk:∀x∈rs,x.ok)(yl:y.2.length=ns.length)(yy:y∈ys)(dp:(ls.length:Int)=dpt ys)(lr:∀l∈ls,GoodR (dC ns) m l)(m9:m<=1000000000)(hq:q∈spS ns n)(hf:∀z,0<=f z/\f z<m)(hk:∀z,nr1 ns rs q y=some z->sY ab z=some (.n (f z))):WR ns rs ys ls ab q y (wv ns rs ys ls f q y)/\(wv ns rs ys ls f q y).natAbs<2 ^ 41:=by
 unfold WR wv;unfold nr1 at hk;obtain⟨ql,_,q1⟩:=aF5 gs hq;cases hb:bes ns rs q.2 y.2 with
 |error c=>
  have:=aSq ns rs q.2 y.2 c rk hb;exact#[rfl,by show c.natAbs<2 ^ 41;lia]
 |ok l=>
  rw[hb]at hk;have rg:=aA3 ns rs q.2 y.2 l (λn hn=>by have:=(gs.ok n hn).1;lia) el ql yl hb;by_cases h:0<q.1-y.1
  ·simp only[Aa1 h];have:=hf (q.1-y.1,l);exact#[hk _ (Aa1 h),∅]
  ·simp only[Aa0 h];have yd:=aFo yy;obtain⟨p0,pe⟩:=mQ rg;have hi:(q.1-y.1+dpt ys-1).toNat<ls.length:=by lia
   obtain⟨g1,g2,g3⟩:=lr _ (Gc hi);have al:=tE λn hn=>(gs.ok n hn).1;have pl:(qL ns l).toNat<ls[(q.1-y.1+dpt ys-1).toNat].length:=by
    have:=(Be.mp pe).1
    lia
   rw[Af hi,Jb,Af pl,Jb];have:=g3 _ (Gc pl);exact#[#[rg.1,∅,_,rfl,p0,Af pl],∅]
def bAl{q y z:Tk}(gs:jD ns)(el:rs.length=ns.length)(yl:y.2.length=ns.length)(y1:1<=y.1)(hq:q∈spS ns n)(h:nr1 ns rs q y=some z):z∈spS ns n:=by
 unfold nr1 at h;obtain⟨ql,_,q1⟩:=aF5 gs hq;have qn:=aRu hq;cases hb:bes ns rs q.2 y.2 with
 |error c=>rw[hb]at h;cases h
 |ok l=>
  rw[hb]at h;have h:(if 0<q.1-y.1 then some (q.1-y.1,l)else none)=some z:=h;split at h
  ·cases h;exact aLk (by show 1<=q.1-y.1;lia) (by show q.1-y.1<=n;lia) (aA3 ns rs q.2 y.2 l (λn hn=>by have:=(gs.ok n hn).1;lia) el ql yl hb)
  ·cases h
def gU.gl(gj:gU ns rs t m r ls)(h4:ht t<=4)(ik:eF t ys):aN1 ns rs t m ls ys:=
 #[gj.gs,gj.el,gj.ln.few,ik,λy hy=>#[(gj.ok.2 y ((ik.2 y).mp hy)).1,gj.ln.2.1 y ((ik.2 y).mp hy)],h4,gj.ok.1,gj.dp ys ik,by have:=gj.m2;lia,by have:=gj.m2;lia]
theorem oO{α:Type}{A:α->U}{B:α->Option U}{f:U->(Option U->Prop)->Prop}{R:List U->Prop}:∀{l:List α}{ag:List U},(∀y∈l,∀k,k (B y)->f (A y) k)->R (ag++l.filterMap B)->mJ f (l.map A) ag R
 | [],ag,_,r=>by rw[List.filterMap_nil,Bi]at r;exact r
 |y::l,ag,hf,r=>by
  refine hf y Ag _ ?_;have hf':∀y∈l,∀k,k (B y)->f (A y) k:=λx hx=>hf x (Ah _ hx);cases e:B y with
  |none=>
   rw[List.filterMap_cons_none e]at r;exact oO hf' r
  |some x=>
   rw[List.filterMap_cons_some e]at r;exact oO hf' (by rw[Bm];exact r)
def pwF(ns:List Int)(rs:List Rim)(ys:List Tk)(ls:List (List Int))(t:Tm)(m:Int):Nat->Tk->Int
 |0,_=>0
 |k+1,q=>val (λy=>wv ns rs ys ls (pwF ns rs ys ls t m k) q y) t % m
def pw(ns:List Int)(rs:List Rim)(ys:List Tk)(ls:List (List Int))(t:Tm)(m:Int)(q:Tk):Int:=pwF ns rs ys ls t m q.1.toNat q
theorem gO{f g:Tk->Int}:∀{t:Tm},(∀y∈raw t,f y=g y)->val f t=val g t
 |.num _,_=>rfl
 |.take b ss,h=>h (b,ss) (by simp[raw])
 |.rest t y,h=>by
  show val f t % y=val g t % y;rw[gO λz hz=>h z (by simpa[raw,kids]using hz)]
 |.cho a b c,h=>by
  show(if 0<val f a then val f b else val f c)=if 0<val g a then val g b else val g c
  rw[gO λz hz=>h z (by simp[raw,kids];exact .inl hz),gO λz hz=>h z (by simp[raw,kids];exact .inr (.inl hz)),gO λz hz=>h z (by simp[raw,kids];exact .inr (.inr hz))]
 |.bin k a b,h=>by
  show opv k (val f a) (val f b)=opv k (val g a) (val g b);rw[gO λz hz=>h z (by simp[raw,kids];exact .inl hz),gO λz hz=>h z (by simp[raw,kids];exact .inr hz)]
variable {ns:List Int}{rs:List Rim}{ys:List Tk}{ls:List (List Int)}{t:Tm}{m:Int}
def aIi{f g:Tk->Int}{q y:Tk}(h:∀z:Tk,0<z.1->z.1=q.1-y.1->f z=g z):wv ns rs ys ls f q y=wv ns rs ys ls g q y:=by
 unfold wv;cases bes ns rs q.2 y.2 with
 |error c=>rfl
 |ok l=>
  show(if 0<q.1-y.1 then f (q.1-y.1,l)else _)=if 0<q.1-y.1 then g (q.1-y.1,l)else _
  by_cases e:0<q.1-y.1
  ·rw[Aa1 e,Aa1 e];exact h _ e rfl
  ·rw[Aa0 e,Aa0 e]
theorem aRf(y1:∀y∈raw t,1<=y.1):∀(k j:Nat)(z:Tk),1<=z.1->z.1.toNat<=k->z.1.toNat<=j->pwF ns rs ys ls t m k z=pwF ns rs ys ls t m j z
 |0,_,z,h,h1,_=>by lia
 |_+1,0,z,h,_,h2=>by lia
 |k+1,j+1,z,h,h1,h2=>by
  show val _ t % m=val _ t % m;rw[gO λy hy=>aIi λz' h3 h4=>aRf y1 k j z' ∅ (by have:=y1 y hy;lia) (by have:=y1 y hy;lia)]
def bA0(y1:∀y∈raw t,1<=y.1){q:Tk}(h:1<=q.1):pw ns rs ys ls t m q=val (λy=>wv ns rs ys ls (pw ns rs ys ls t m) q y) t % m:=by
 obtain⟨k,e⟩:∃k,q.1.toNat=k+1:=#[q.1.toNat-1,∅];unfold pw;rw[e];show val _ t % m=_;rw[gO λy hy=>aIi λz' h3 h4=>aRf y1 k z'.1.toNat z' ∅ (by have:=y1 y hy;lia) (Am _)]
def bA1(m1:1<=m)(q:Tk):0<=pw ns rs ys ls t m q/\pw ns rs ys ls t m q<m:=by
 unfold pw;cases q.1.toNat with
 |zero=>exact#[Li _,by show 0<m;lia]
 |succ k=>exact#[Fu _ ∅,Ek _ ∅]
def aRv(n:Nat):(spS ns n).Pairwise λx y=>x.1<=y.1:=by
 unfold spS;rw[Mb];refine#[λj _=>?_,(List.pairwise_lt_range (n:=n)).imp λ{a b} h x hx y hy=>?_]
 ·rw[Ip];exact List.pairwise_of_forall λ_ _=>Li _
 ·obtain⟨p,_,rfl⟩:=Ay.mp hx;obtain⟨p',_,rfl⟩:=Ay.mp hy;show 1+(a:Int)<=1+(b:Int)
  lia
def aNj{q0 z:Tk}(e:don++q0::rst=spS ns n)(hz:z∈spS ns n)(lt:z.1<q0.1):z∈don:=by
 have up:=aRv (ns:=ns) n;rw[<-e]at hz up;rw[Su,Uc]at up;rcases Cb.mp hz with h|h
 ·exact h
 ·rcases Ax.mp h with h|h
  ·rw[h]at lt;lia
  ·have:=up.2.1.1 z h
   lia
def pwT:Arguments×Bu×Scope×Pos:=match bG bM with
 | [_,.For _ _ [.Assign _ (.Call _ (_:: .Lambda a b sc p::_) _ _) _] _ _,_]=>(a,b,sc,p)
 |_=>(bQ bM,.Constant .none 0 #[0,0,0,0],aC bM,#[0,0,0,0])
abbrev pwQ:Str:=(("plain_worths":Str)++".<locals>.")++"<lambda>"
abbrev pwL:Lm:=#[pwQ,pwT.1,pwT.2.1,pwT.2.2.1,"made","worths"]
def aRg:aGo pwL:=#[rfl,rfl,rfl,rfl,rfl,by decide+kernel,by decide+kernel,#[_,_,_,rfl],#[⋯,⋯],#[⋯,⋯],λ_ _=>rfl]
structure aDz(ns:List Int)(rs:List Rim)(t:Tm)(m r:Int)(ls:List (List Int))(ys:List Tk):Prop extends aN1 ns rs t m ls ys where
 rk:∀x∈rs,x.ok
 lr:∀l∈ls,GoodR (dC ns) m l
 r0:0<=r/\r<=12
 m9:m<=1000000000
 l3:ls.length<=3
def lZ:aK ["job","worths","spot"] ["job"] (aC bM):={}
def fPW(P:Aj)(w:Bd)(N:Cn)(CG CJ:Addr):Fv:=λus R=>∃ns rs t m r ls ys,us=[nR N CG CJ ns rs t ys m r ls]/\aDz ns rs t m r ls ys/\R (.sh (.op (pnO P w (kvU (spS ns r.toNat) λq=> .n (pw ns rs ys ls t m q)))))
def bAq{oc kV doc pm ct:Value}(lk:K.lookup f=some #[oc,od,.func (Ca "plain_worths" "plain_worths" (bQ bM) (bG bM) (aC bM) .none kV doc pm an (.ref cc) ct),osl])(hcd:Fj K (.ref cc) "plain_worths"=true)(hC:Kc base cc P2)(hB:aBn mg base)
  (D_all_spots:Dis P w K mg base CX0 3 (·=CJ) "all_spots" ["self"] λ_=>spV (aVv N CG CJ)) (cJ:Cfl K CJ ["taken","grid","term","modulus","rounds","first"])
  (DN:∀base':Heap,(∀b ob,base.get? b=some ob->base'.get? b=some ob)->yH P w K mg base' 6 (·=CJ) "next_worth" ["self","spot","get"] (aGn base') λz _=>spT [(P1,[nwT.2.2.2],nwQ)] (fNW P w N CG CJ pwL z)) (T:Txt mg):
  ↥7 f (Ca "plain_worths" "plain_worths" (bQ bM) (bG bM) (aC bM) .none kV doc pm an (.ref cc) ct) ["job"] (spT [(P1,[nwT.2.2.2],nwQ),(P2,[pwT.2.2.2],pwQ)] (fPW P w N CG CJ)):=by
 refine aUy lk hcd lZ (λA outer s H E hr=>aWj (aGf (aR (i:=1) lZ.nd (aLs (P:=P) (w:=w) rfl rfl)) (aUz (P:=P) (w:=w) (k:=6) rfl rfl Bw rfl (hr.mono ⋯) lZ.nd (bY (bZ (aA 0) D_all_spots (hr.mono ⋯))) (aIe (i:=1) (y:="worths") (c:=#v[0]+1) (aA 0) DN (λx hx=>by rw[Bf.mp hx];exact Ag) (hr.mono ⋯) (aR6 (aA 2) (aLo (P:=P) (w:=w) (lm:=pwL) (cc:=cc) (Lp:=[pwT.2.2.2]) (q0:=("plain_worths":Str)++".<locals>.") (pm:=(mg "__name__").getD .none) rfl rfl (Ah _ Ag) rfl rfl rfl Ag (λp hp=> .inl (Bf.mp hp)) hC rfl hB)) rfl rfl rfl rfl) (uR (aKi (bCd (aA 1))))))) ?_;rintro _ R ⟨ns,rs,t,m,r,ls,ys,rfl,g,q⟩;have y1:∀y∈raw t,1<=y.1:=λy hy=>(g.gy y ((g.ik.2 y).mpr hy)).1.1;refine#[rfl,λs=>#[_,_,rfl,rfl,by decide+kernel,ns,rs,t,ys,m,r,ls,rfl,g.gs,pG g.gs,g.r0.1,g.r0.2,?_]];rw[aYe];refine aEo (λl ab=>∃don rst:List Tk,l=rst.map tkU/\don++rst=spS ns r.toNat/\ab=kvU don λq=> .n (pw ns rs ys ls t m q)) ?_ ?_ #[[],_,rfl,rfl,rfl]
 ·rintro ab ⟨don,rst,el,e,rfl⟩;obtain rfl:rst=[]:=Bo.mp el.symm;rw[Bi]at e;subst e;exact q
 ·rintro u l ab ⟨don,rst,el,e,rfl⟩ ih;cases rst with
  |nil=>cases el
  |cons q0 rst=>
   cases el;have hq:q0∈spS ns r.toNat:=by rw[<-e];simp
   obtain⟨ql,_,q1⟩:=aF5 g.gs hq;have nd:=aYd ns r.toNat;rw[<-e]at nd;have nm:q0∉don:=λz=>(Ku.mp nd).2.2 q0 z q0 Ag rfl;have sl:(kvU don λq=>U.n (pw ns rs ys ls t m q)).length<10000:=by
    have:=aLj (n:=r.toNat) g.gs;rw[<-e,Ak]at this;have:=g.r0.2;unfold kvU;rw[Ab]
    lia
   have st:aHr (kvU don λq=>U.n (pw ns rs ys ls t m q)) q0 (.n (val (λy=>wv ns rs ys ls (pw ns rs ys ls t m) q0 y) t % m))=kvU (don++[q0]) λq=> .n (pw ns rs ys ls t m q):=by
    rw[<-bA0 y1 q1];exact aK7 (f:=λq=>U.n (pw ns rs ys ls t m q)) nm
   refine#[#[_,rfl],rfl,by decide+kernel,_,rfl,λz _ _=>#[ns,rs,t,m,r,ls,ys,_,λy=>wv ns rs ys ls (pw ns rs ys ls t m) q0 y,q0,rfl,#[g.gs,g.rl,g.fw,g.ik,g.gy,g.ht,g.wf,g.dp,g.m1,g.m2],ql,λy hy=>bCj g.gs g.rl g.rk (g.gy y hy).2 hy g.dp g.lr g.m9 hq (bA1 g.m1) (λz hz=>wZ ?_),q0,_,rfl,rfl,sl,?_]]
   ·have yy:=(g.gy y hy).1.1;refine aNj e (bAl g.gs g.rl (g.gy y hy).2 yy hq hz) ?_;unfold nr1 at hz;cases hb:bes ns rs q0.2 y.2 with
    |error c=>rw[hb]at hz;cases hz
    |ok l=>
     rw[hb]at hz;have hz:(if 0<q0.1-y.1 then some (q0.1-y.1,l)else none)=some z:=hz;split at hz
     ·cases hz;show q0.1-y.1<q0.1
      lia
     ·cases hz
   ·rw[st];exact ih _ #[don++[q0],rst,rfl,by rw[Bm];exact e,rfl]
def zA(ns:List Int)(rs:List Rim)(ys:List Tk)(ls:List (List Int))(t:Tm)(m k:Int):List Int:=if k<=0 then ls[(k+dpt ys-1).toNat]?.getD []else(cF ns).map λp=>pw ns rs ys ls t m (k,p)
abbrev aDc:List Str:=["job","round_at","worths"]
def uI:aK ["job","round_at","worths"] ["job","round_at"] (aC cD):={}
def fPR(N:Cn)(CG CJ:Addr):Fv:=λus R=>∃ns rs t m r ls ys k,us=[nR N CG CJ ns rs t ys m r ls,.n k]/\aDz ns rs t m r ls ys/\1-dpt ys<=k/\k<=r/\R (.ow ((zA ns rs ys ls t m k).map U.n))
def bAp{oc kV doc pm ct:Value}(lk:K.lookup f=some #[oc,od,.func (Ca "plain_round" "plain_round" (bQ cD) (bG cD) (aC cD) .none kV doc pm an (.ref cc) ct),osl])(hcd:Fj K (.ref cc) "plain_round"=true)
  (D_all_places:Dis P w K mg base CX0 2 (·=CG) "all_places" ["self"] λ_=>spV (aO3 CG)) (sZ:Dis P w K mg base CX0 2 (·=CJ) "first_row" ["self","round_at"] λ_=>spV (fFR N CG CJ)) (D_deep:Dis P w K mg base CX0 1 (·=CJ) "deep" ["self"] λ_=>spV (aG6 CJ)) (cJ:Cfl K CJ ["taken","grid","term","modulus","rounds","first"]) (c_is_within:⇑2 "is_within" ["thing","least","most"] (spV jH))
  (c_plain_worths:⇑7 "plain_worths" ["job"] (spT [(P1,[nwT.2.2.2],nwQ),(P2,[pwT.2.2.2],pwQ)] (fPW P w N CG CJ))) (T:Txt mg):
  ↥8 f (Ca "plain_round" "plain_round" (bQ cD) (bG cD) (aC cD) .none kV doc pm an (.ref cc) ct) ["job","round_at"] (spT [(P1,[nwT.2.2.2],nwQ),(P2,[pwT.2.2.2],pwQ)] (fPR N CG CJ)):=by
 refine aUy lk hcd uI (λA outer s H E hr=>kE (zV (bT (jC (gB (aM c_is_within (hr.mono ⋯) rfl (aB (aA 1) (aB (aW fY cU aH (bZ (aA 0) D_deep (hr.mono ⋯))) (aB (bD cJ (aA 0)) aD)))))) (aF lN) aU)) (kE (zV (bT (bH aAe cU (aA 1) aH) (aF (aN (cZ (aA 0) sZ (hr.mono ⋯) (aB (aA 1) aD)))) aU)) (kE (aGg (i:=2) uI.nd (qO c_plain_worths (λx hx=>hx) (hr.mono ⋯) rfl (aB (aA 0) aD))) (uR (zV (aN (iK (own:=["place"]) (cap:=[("round_at",1),("worths",2)]) (aC cD) aDc rfl rfl (λx h=>bO h) #v[1] rfl (vic (bY (bZ (bD cJ (aA 0)) D_all_places (hr.mono ⋯)))) ↑(bU (i:=0) (~~~["place","round_at","worths"]) rfl (Dy rfl) (Ew rfl)) (cO ⋯) ↑(aR8 (P:=P) (w:=w) rfl rfl hr (aA 2) (bV (aB (aA 1) (aB (aA 0) aD))))))))))) ?_;rintro _ R ⟨ns,rs,t,m,r,ls,ys,k,rfl,g,k1,k2,q⟩;have y1:∀y∈ys,1<=y.1:=λy hy=>(g.gy y hy).1.1;have zl:=Bs (pB g.fw g.ik) (show 4<=17 by decide);have y0:∀y∈ys,0<=y.1:=λy hy=>by have:=y1 y hy;lia
 have dl:=g.dp;have iw:isIn (.n k) (1-dpt ys) r=true:=by
  show(decide (1-dpt ys<=k) && decide (k<=r))=true;rw[Aa5 k1,Aa5 k2];rfl
 refine#[rfl,λs=>#[rfl,by decide+kernel,ys,_,_,rfl,zl,y0,rfl,.inr #[by decide+kernel,.inr #[by decide+kernel,.inr #[by decide+kernel,.inr #[by decide+kernel,.inl #[rfl,_,_,_,_,rfl,rfl,λz=>?_,λ_=>#[λz=>?_,λz=>?_]]]]]]]]
 ·rw[iw]at z;cases z
 ·have k0:=Aa3 z;have hi:(k+dpt ys-1).toNat<ls.length:=by lia
  unfold zA at q;rw[Aa1 k0,Af hi,Jb]at q;exact#[rfl,by decide+kernel,ns,rs,t,ys,m,r,ls,k,_,rfl,zl,y0,∅,Af hi,q]
 ·have k0:=Aa4 z;unfold zA at q;rw[Aa0 k0]at q;refine#[ns,rs,t,m,r,ls,ys,rfl,g,?_];refine#[rfl,.inr #[by decide+kernel,.inl #[rfl,rfl,by decide+kernel,ns,rs,rfl,g.gs,pG g.gs,λs hs=>?_]]];have mem:∀p∈cF ns,(k,p)∈spS ns r.toNat:=λp hp=>Fh.mpr #[(k-1).toNat,Dj.mpr ∅,Ay.mpr #[p,hp,by rw[show 1+(((k-1).toNat:Nat):Int)=k by lia]]];have q:R (.ls ([]++(cF ns).filterMap λp=>some (U.n (pw ns rs ys ls t m (k,p))))):=by
   rw[Di,Gv];rw[Ce]at q;exact q
  rcases hs with rfl|rfl<;>exact#[by rw[Ab];have:=pG g.gs;lia,oO (B:=λp=>some (U.n (pw ns rs ys ls t m (k,p)))) (λp hp κ hk=>#[_,(k,p),_,rfl,rfl,wZ (f:=λq=>U.n (pw ns rs ys ls t m q)) (mem p hp),hk]) q]
def aI5(l:List U)(k:Nat):yM l none (some (k:Int))=l.take k:=by
 unfold yM;rw[HT.aHv,HT.aBi,Ms,Yv];rcases Yx k l.length with h|h
 ·rw[Wj h]
 ·rw[Vt h,Gu (Am _),Gu h]
def aI6(l:List U)(k:Nat):yM l (some (k:Int)) none=l.drop k:=by
 unfold yM;rw[HT.aHv,HT.aBi,Gu (by rw[Gb];lia)];rcases Yx k l.length with h|h
 ·rw[Wj h]
 ·rw[Vt h,Ru (Am _),Ru h]
def mvP(is:List Int)(k:Nat)(g:Int->Int):List Int:=is.set k (g (is.getD k 0))
def aF0{is:List Int}{v:Int}(h:k<is.length):((is.map U.n).take k++[U.n v])++(is.map U.n).drop (k+1)=(is.set k v).map U.n:=by
 rw[List.set_eq_take_append_cons_drop,Aa1 h,Cc,Br,Xe,Xf,Bm];rfl
def aFl{is:List Int}(kl:k<is.length):¬(HT.sIx (is.map U.n).length 0 none=0/\HT.sIx (is.map U.n).length (is.map U.n).length (some (k:Int))=(is.map U.n).length)/\¬(HT.sIx (is.map U.n).length 0 (some ((k:Int)+1))=0/\HT.sIx (is.map U.n).length (is.map U.n).length none=(is.map U.n).length):=by
 rw[Ab,show(k:Int)+1=((k+1:Nat):Int) by lia,HT.aBi,HT.aBi]
 lia
def aO8:Fv:=λus R=>∃(is:List Int)(k:Nat)(sz b:Int),us=[pU is,.n (k:Nat),.n sz,.n b]/\is.length<=3/\k<is.length/\1<=sz/\R (.sh (pU (mvP is k λi=>(i+b) % sz)))
def aDs:aK ["_law_place","_law_line","_law_size","_law_by"] ["_law_place","_law_line","_law_size","_law_by"] (aC rH):={}
def aQo(F:Fun K "_law_moved" "_law_moved" rH f fd)(T:Txt mg):↥1 f fd ["_law_place","_law_line","_law_size","_law_by"] (spV aO8):=by
 refine vfn F aDs (λaf A outer s H E hr=>(aF (aN (aW bN cC (aW bN cC (aAk (aA 0) pC (pD (aA 1))) (bV (aB (aW nY lQ (aW bN cC (bA aQ aZ (aA 0) (aA 1)) (aA 3)) (aA 2)) aD))) (aAk (aA 0) (pD (aW bN cC (aA 1) aH)) pC))))) ?_;rintro _ R ⟨is,k,sz,b,rfl,l3,kl,s1,q⟩;have hk:is[k]? =some (is.getD k 0):=by rw[Bh,Af kl];rfl
 have hkU:(is.map U.n)[k]? =some (.n (is.getD k 0)):=by rw[Ap,hk];rfl
 have c1:=aI5 (is.map U.n) k;have c2:yM (is.map U.n) (some ((k:Int)+1)) none=_:=aI6 (is.map U.n) (k+1);have ll:(is.map U.n).length=is.length:=Ab ..;obtain⟨n1,n2⟩:=aFl kl;refine#[rfl,n1,_,iQ hkU,s1,?_,n2,?_,?_]
 ·rw[c1,Dk];show _+1<=10000
  lia
 ·rw[c1,c2,Ak,Dk,Gb];show _+1+_<=10000
  lia
 ·rw[c1,c2,aF0 kl];exact q
def aO2:Fv:=λus R=>∃(is:List Int)(k:Nat)(sz:Int),us=[pU is,.n (k:Nat),.n sz]/\is.length<=3/\k<is.length/\R (.sh (pU (mvP is k λi=>sz-1-i)))
def aDr:aK ["_law_place","_law_line","_law_size"] ["_law_place","_law_line","_law_size"] (aC rG):={}
def aP5(F:Fun K "_law_about" "_law_about" rG f fd)(T:Txt mg):↥1 f fd ["_law_place","_law_line","_law_size"] (spV aO2):=by
 refine vfn F aDr (λaf A outer s H E hr=>(aF (aN (aW bN cC (aW bN cC (aAk (aA 0) pC (pD (aA 1))) (bV (aB (aW fY cU (aW fY cU (aA 2) aH) (bA aQ aZ (aA 0) (aA 1))) aD))) (aAk (aA 0) (pD (aW bN cC (aA 1) aH)) pC))))) ?_;rintro _ R ⟨is,k,sz,rfl,l3,kl,q⟩;have hk:is[k]? =some (is.getD k 0):=by rw[Bh,Af kl];rfl
 have hkU:(is.map U.n)[k]? =some (.n (is.getD k 0)):=by rw[Ap,hk];rfl
 have c1:=aI5 (is.map U.n) k;have c2:yM (is.map U.n) (some ((k:Int)+1)) none=_:=aI6 (is.map U.n) (k+1);obtain⟨n1,n2⟩:=aFl kl;have ll:(is.map U.n).length=is.length:=Ab ..;refine#[rfl,n1,_,iQ hkU,?_,n2,?_,?_]
 ·rw[c1,Dk];show _+1<=10000
  lia
 ·rw[c1,c2,Ak,Dk,Gb];show _+1+_<=10000
  lia
 ·rw[c1,c2,aF0 kl];exact q
def trT(k:Nat):Tm->Tm
 |.num n=> .num n
 |.take b ss=> .take b (mvP ss k λi=> -i)
 |.rest t y=> .rest (trT k t) y
 |.cho a b c=> .cho (trT k a) (trT k b) (trT k c)
 |.bin o a b=> .bin o (trT k a) (trT k b)
def uP:∀t:Tm,tyU (dR t)=some .tp
 |.num _=>rfl
 |.take _ _=>rfl
 |.rest _ _=>rfl
 |.cho _ _ _=>rfl
 |.bin _ _ _=>rfl
def aK2(d:Nat):Fv:=λus R=>∃t,∃k:Nat,us=[dR t,.n k]/\ht t<=d/\(∀x∈raw t,k<x.2.length/\x.2.length<=3)/\R (.sh (dR (trT k t)))
abbrev uT:List Str:=["_law_told_here","_law_line","_law_steps_here"]
def lL:aK ["_law_told_here","_law_line","_law_steps_here"] ["_law_told_here","_law_line"] (aC dD):={}
def aTl(F:Fun K "_law_turned_steps" "_law_turned_steps" dD f fd)(gY:⇑(d+1) "_law_turned_steps" ["_law_told_here","_law_line"] (spV (aK2 d)))(T:Txt mg):↥(d+2) f fd ["_law_told_here","_law_line"] (spV (aK2 (d+1))):=by
 refine vfn F lL (λaf A outer s H E hr=>(aG (bT #v[e] (aF (gP 0)) aU) (aG (bT #v[e] (aG (aR (i:=2) lL.nd (bA aQ aZ (aA 0) aH)) (aF (aN (bV (aB bI (aB (bA aQ aZ (aA 0) aH) (aB (aW bN cC (aW bN cC (aAk (aA 2) pC (pD (aA 1))) (bV (aB (aKf (bA aQ aZ (aA 2) (aA 1))) aD))) (aAk (aA 2) (pD (aW bN cC (aA 1) aH)) pC)) aD))))))) aU) (aF (aN (eZ (tK rfl) aB4 T.tuple Lv (aP (iK (own:=["_law_part"]) (cap:=[("_law_line",1)]) (aC dD) uT rfl rfl (λx h=>bO h) #v[1] rfl (vic (aKg (aA 0))) ↑(bU (i:=0) (~~~["_law_part","_law_line"]) rfl (Dy rfl) (Ew rfl)) (cO ⋯) ↑(aY0 (gB (rZ .tp nofun T.isinstance T.tuple Lv (aA 0))) (aM gY (hr.mono ∅) rfl (aB (aA 0) (aB (aA 1) aD))) (aA 0))) aY))))))) ?_;rintro _ R ⟨t,k,rfl,hd,hx,q⟩;have no:∀{a b:Str}{p:Prop},a≠b->(U.eq (.s a) (.s b))=true->p:=λh z=>by
  have z:eqV (.str _) (.str _)=true:=z;simp[eqV]at z;exact(h z).elim
 have ye:∀{a:Str}{p:Prop},(U.eq (.s a) (.s a))=false->p:=λ{a} _ z=>by
  have z:eqV (.str a) (.str a)=false:=z;simp[eqV]at z
 have kd:=rA t hd;refine#[rfl,?_];cases t with
 |num n=>exact#[_,rfl,trivial,trivial,λ_=>q,λz=>ye z]
 |take b ss=>
  obtain⟨kl,l3⟩:=hx (b,ss) Ag;have hk:ss[k]? =some (ss.getD k 0):=by rw[Bh,Af kl];rfl
  have hkU:(ss.map U.n)[k]? =some (.n (ss.getD k 0)):=by rw[Ap,hk];rfl
  have c1:=aI5 (ss.map U.n) k;have c2:yM (ss.map U.n) (some ((k:Int)+1)) none=_:=aI6 (ss.map U.n) (k+1);obtain⟨n1,n2⟩:=aFl kl;have ll:(ss.map U.n).length=ss.length:=Ab ..;refine#[_,rfl,trivial,trivial,λz=>no #v[1] z,λ_=>#[_,rfl,trivial,trivial,λ_=>#[_,rfl,_,rfl,n1,_,iQ hkU,?_,n2,?_,?_],λz=>ye z]]
  ·rw[c1,Dk];show _+1<=10000;have l3:ss.length<=3:=l3
   lia
  ·rw[c1,c2,Ak,Dk,Gb];show _+1+_<=10000;have l3:ss.length<=3:=l3
   lia
  ·rw[c1,c2,aF0 kl];exact q
 |rest t y=>
  have h1:=uP t;refine#[_,rfl,trivial,trivial,λz=>no #v[1] z,λ_=>#[_,rfl,trivial,trivial,λz=>no #v[1] z,λ_=>?_]];exact#[by show _+1<=10000;simp,_,rfl,nofun,λ_=>#[_,h1,λ_=>#[t,k,rfl,kd t (by simp[kids]),hx,_,rfl,nofun,λ_=>q],nofun]]
 |cho a b c=>
  refine#[_,rfl,trivial,trivial,λz=>no #v[1] z,λ_=>#[_,rfl,trivial,trivial,λz=>no #v[1] z,λ_=>?_]];exact#[by show _+1<=10000;simp,_,rfl,nofun,λ_=>#[_,uP a,λ_=>#[a,k,rfl,kd a (by simp[kids]),λx h=>hx x (Bq _ h),_,uP b,λ_=>#[b,k,rfl,kd b (by simp[kids]),λx h=>hx x (Az _ (Bq _ h)),_,uP c,λ_=>#[c,k,rfl,kd c (by simp[kids]),λx h=>hx x (Az _ (Az _ h)),q],nofun],nofun],nofun]]
 |bin o a b=>
  have hk:opn o≠"number"/\opn o≠"take"/\opn o≠"rest"/\opn o≠"?":=(by decide+kernel:∀k:Fin 5,opn k≠"number"/\opn k≠"take"/\opn k≠"rest"/\opn k≠"?") o;refine#[_,rfl,trivial,trivial,λz=>no hk.1 z,λ_=>#[_,rfl,trivial,trivial,λz=>no hk.2.1 z,λ_=>?_]];exact#[by show _+1<=10000;simp,_,rfl,nofun,λ_=>#[_,uP a,λ_=>#[a,k,rfl,kd a (by simp[kids]),λx h=>hx x (Bq _ h),_,uP b,λ_=>#[b,k,rfl,kd b (by simp[kids]),λx h=>hx x (Az _ h),q],nofun],nofun]]
def atP(ns:List Int)(row:List Int)(p:List Int):Int:=row.getD ((cF ns).idxOf p) 0
def mvR(ns:List Int)(g:List Int->List Int)(row:List Int):List Int:=(cF ns).map λp=>atP ns row (g p)
structure Bij(ns:List Int)(f g:List Int->List Int):Prop where
 fw:∀p∈cF ns,f p∈cF ns/\g (f p)=p
 bw:∀p∈cF ns,g p∈cF ns/\f (g p)=p
theorem aLn{ns:List Int}{f g:List Int->List Int}(b:Bij ns f g):∀{ps:List (List Int)}{row:List Int}{q:List Int},(∀p∈ps,p∈cF ns)->row.length=ps.length->q∈cF ns->g q∈ps->aDv (Jc (λp x=>(f p,U.n x)) ps row) q=some (.n (row.getD (ps.idxOf (g q)) 0))
 | [],_,_,_,_,_,h=>by cases h
 |_::_,[],_,_,l,_,_=>by cases l
 |p::ps,x::row,q,hp,l,hq,h=>by
  show(if f p=q then some (U.n x)else aDv (Jc (λp x=>(f p,U.n x)) ps row) q)=_;by_cases e:f p=q
  ·rw[Aa1 e];have:g q=p:=by rw[<-e];exact(b.fw p (hp p Ag)).2
   rw[this,List.idxOf_cons_self];rfl
  ·rw[Aa0 e];have ne:p≠g q:=λz=>e (by rw[z];exact(b.bw q hq).2);have h:g q∈ps:=(Ax.mp h).elim (λz=>Aa2 z.symm ne) id;rw[aLn b (λp h=>hp p (Ah _ h)) (Dw l) hq h,List.idxOf_cons,show(p==g q)=false from beq_eq_false_iff_ne.mpr ne];rfl
theorem aIj{f:List Int->List Int}:∀{ps:List (List Int)}{row:List Int},row.length=ps.length->(Jc (λp x=>(f p,U.n x)) ps row).map (·.1)=ps.map f
 | [],[],_=>rfl
 | [],_::_,h=>by cases h
 |_::_,[],h=>by cases h
 |p::ps,x::row,h=>Aa9 (f p::·) (aIj (Dw h))
theorem aBc{ns:List Int}{F:List Int->U}{q:List Int}:∀{ps:List (List Int)},q∈ps->aDv (ps.map λp=>(p,F p)) q=some (F q)
 | [],h=>by cases h
 |p::ps,h=>by
  show(if p=q then some (F p)else aDv (ps.map λp=>(p,F p)) q)=_;by_cases e:p=q
  ·rw[Aa1 e,e]
  ·rw[Aa0 e];exact aBc (ns:=ns) ((Ax.mp h).elim (λz=>Aa2 z.symm e) id)
def sX(ns:List Int)(f:List Int->List Int):List (List Int×U):=(cF ns).map λp=>(p,pU (f p))
def aJd(P:Aj)(w:Bd)(N:Cn)(CG CJ:Addr):Fv:=λus R=>∃ns rs t m r ls t' f g,us=[wK ns rs t m r ls,dR t',.op (tdO P w (sX ns f)).fz]/\jD ns/\Bij ns f g/\(∀l∈ls,l.length=(cF ns).length)/\ls.length<=3/\gU ns rs t' m r (ls.map (mvR ns g))/\ht t'<=4/\∀ys,eF t' ys->R (.sh (nR N CG CJ ns rs t' ys m r (ls.map (mvR ns g))))
abbrev zX:List Str:=["_law_world","_law_told_here","_law_new_of","_law_places_here","_law_other","_law_row","_law_held"]
def jW:aK ["_law_world","_law_told_here","_law_new_of","_law_places_here","_law_other","_law_row","_law_held"] ["_law_world","_law_told_here","_law_new_of"] (aC lK):={}
def aQw(F:Fun K "_law_with" "_law_with" lK f fd)(iD:⇑1 "_law_places" ["_law_sizes_here"] (spV aA4))(pJ:⇑16 "_law_job_of" ["_law_world"] (spV (aFq N CG CJ)))(T:Txt mg):↥17 f fd ["_law_world","_law_told_here","_law_new_of"] (spV (aJd P w N CG CJ)):=by
 refine vfn F jW (λaf A outer s H E hr=>(aG (aR (i:=3) jW.nd (aM iD (hr.mono ⋯) rfl (aB (mD (sV hr) (aA 0)) aD))) (aG (aR (i:=4) jW.nd (aYy T.dict (aA 0))) (aG (aSc 4 hr (aA 1)) (aG (aSd 4 hr (cR aD)) (aG (fH Bw rfl (bY (mD (sV hr) (aA 0))) (fQ (i:=5) jW.nd) (aG (aR (i:=6) jW.nd (aGc (P:=P) (w:=w) rfl rfl hr rfl T.dict (iK (own:=["_law_place","_law_worth"]) (cap:=[("_law_new_of",2)]) (aC lK) zX rfl rfl (λx h=>bO h) #v[1] rfl (vic (aLx false T.zip (aB (aA 3) (aB (aA 5) aD)))) ↑(aJy rfl (tZ (bU (i:=0) (~~~["_law_place","_law_worth","_law_new_of"]) rfl (Dy rfl) (Ew rfl)) (tZ (bU (i:=1) (~~~["_law_place","_law_worth","_law_new_of"]) rfl (Dy rfl) (Ew rfl)) aFx))) (aSa (is:=[0,1]) rfl ⋯) ↑(bV (aB (aLu (P:=P) (w:=w) rfl rfl hr (aA 2) (aA 0)) (aB (aA 1) aD)))))) (aF (aU0 4 hr (iK (own:=["_law_place"]) (cap:=[("_law_held",6)]) (aC lK) zX rfl rfl (λx h=>bO h) #v[1] rfl (vic (bY (aA 3))) ↑(bU (i:=0) (~~~["_law_place","_law_held"]) rfl (Dy rfl) (Ew rfl)) (cO ⋯) ↑(aLu (P:=P) (w:=w) rfl rfl hr (aA 1) (aA 0))))))) (aY6 4 (aU3 4 (aF (aN (aM pJ (hr.mono ⋯) rfl (aB (aA 4) aD)))))))))))) ?_;rintro _ R ⟨ns,rs,t,m,r,ls,t',f,g,rfl,gs,b,hl,l3,gj,h4,q⟩;have p40:=pG gs;have nd:(cF ns).Nodup:=nQ (Dm _ _);refine#[rfl,wF 0 rfl rfl #[ns,rfl,gs,p40,wNm,_,rfl,wNm,_,2,rfl,⋯,by decide+kernel,rfl,[],["sizes","rims","told","modulus","rounds"],[.ls (ns.map U.n),.ls (rs.map Rim.u),dR t',.n m,.n r],.ls (eQ ls),rfl,rfl,⋯,by decide+kernel,wF 5 rfl rfl ?_]];show mL (pX 5) _ _ (eQ ls) [.sh (wK ns rs t m r ls),.sh (dR t'),.sh (.op (tdO P w (sX ns f)).fz),.sh (.ls (plU ns)),.oo (dlO ["sizes","rims","told","modulus","rounds"] [.ls (ns.map U.n),.ls (rs.map Rim.u),dR t',.n m,.n r] "first" []),.no,.no];refine cL (λl ρ=>∃(don rst:List (List Int))(x y:Sl),l=eQ rst/\don++rst=ls/\ρ=[.sh (wK ns rs t m r ls),.sh (dR t'),.sh (.op (tdO P w (sX ns f)).fz),.sh (.ls (plU ns)),.oo (dlO ["sizes","rims","told","modulus","rounds"] [.ls (ns.map U.n),.ls (rs.map Rim.u),dR t',.n m,.n r] "first" (eQ (don.map (mvR ns g)))),x,y]) ?_ ?_ #[[],ls,_,_,rfl,rfl,rfl]
 ·rintro ρ ⟨don,rst,x,y,el,e,rfl⟩;obtain rfl:rst=[]:=Bo.mp el.symm;rw[Bi]at e;subst e;exact#[_,_,_,_,rfl,rfl,_,_,rfl,ns,rs,t',m,r,_,rfl,gj,h4,q]
 ·rintro u l ρ ⟨don,rst,x,y,el,e,rfl⟩ ih;cases rst with
  |nil=>cases el
  |cons row rst=>
   cases el;have rl:=hl row (by rw[<-e];simp);have dl:don.length<=3:=by
    have:=Aa9 Jx e;rw[Ak]at this
    lia
   have ez:aA2 (plU ns) (row.map U.n)=((cF ns).zip row).map λp=> .tp [pU p.1,.n p.2]:=by
    unfold aA2;rw[List.zip,Om,List.zipWith_map]
   have zl:(aA2 (plU ns) (row.map U.n)).length<=40:=by
    rw[ez,Ab,Ie]
    lia
   have inj:∀{p q:List Int},p∈cF ns->q∈cF ns->f p=f q->p=q:=λhp hq h=>by rw[<-(b.fw _ hp).2, <-(b.fw _ hq).2,h]
   have kd:((Jc (λp x=>(f p,U.n x)) (cF ns) row).map (·.1)).Nodup:=by
    rw[aIj rl];exact Ip.mpr (nd.imp_of_mem λhp hq ne e=>ne (inj hp hq e))
   have ek:([]++((cF ns).zip row).filterMap λp=>some (U.tp [pU (f p.1),.n p.2]))=(Jc (λp x=>(f p,U.n x)) (cF ns) row).map λp=>U.tp [pcU p.1,p.2]:=by
    rw[Di,Gv,List.zip,Om,Om];rfl
   refine#[plU ns,row.map U.n,rfl,by rw[Ab,Ab];lia,∅,?_];rw[ez];refine oO (B:=λp:List Int×Int=>some (U.tp [pU (f p.1),.n p.2])) (λp hp κ hk=>#[rfl,sX ns f,p.1,_,.inr (.inr rfl),rfl,aBc (ns:=ns) (Hb hp).1,hk]) #[_,Aa9 U.ls ek,kd,?_];refine#[_,_,_,rfl,by decide+kernel,?_,?_]
   ·unfold eQ;rw[Ab,Ab]
    lia
   have er:([]++(cF ns).filterMap λp=>some (U.n (atP ns row (g p))))=(mvR ns g row).map U.n:=by
    unfold mvR;rw[Di,Gv,Ce];rfl
   refine#[by rw[Ab];lia,oO (B:=λp=>some (U.n (atP ns row (g p)))) (λp hp κ hk=>#[_,p,_,.inl rfl,rfl,aLn b (λ_ h=>h) rl hp (b.bw p hp).1,hk]) ?_];refine ih _ #[don++[row],rst,.sh (.ls (row.map U.n)),.oo (tdO P w (Jc (λp x=>(f p,U.n x)) (cF ns) row)),rfl,by rw[Bm];exact e,?_];rw[er];unfold eQ;rw[Cc,Cc];rfl
theorem aEh:∀(ms:List Int)(ps:List (List Int))(pr:List Int),(∀p∈ps,Rng p pr)->∀p∈ms.foldl (λps n=>ps.flatMap (ext n)) ps,Rng p (pr++ms)
 | [],_,_,h,p,hp=>by rw[Bi];exact h p hp
 |n::ms,ps,pr,h,p,hp=>by
  have:=aEh ms (ps.flatMap (ext n)) (pr++[n]) (λp hp=>by
   obtain⟨q,hq,hp⟩:=Fh.mp hp;obtain⟨i,hi,rfl⟩:=Ay.mp hp;have hi:=Dj.mp hi;obtain⟨l,r⟩:=h q hq;refine#[by rw[Ak,Ak,l];rfl,λx hx=>?_];rw[Ma l]at hx;rcases Cb.mp hx with hx|hx
   ·exact r x hx
   ·obtain rfl:=Bf.mp hx;show 0<=0+(i:Int)/\0+(i:Int)<n
    lia) p hp
  rw[Bm]at this;exact this
def nM{ns p:List Int}(h:p∈cF ns):Rng p ns:=aEh ns [[]] [] (λp hp=>by rw[Bf.mp hp];exact#[rfl,nofun]) p h
def uA{ns p:List Int}(h:Rng p ns):p∈cF ns:=Bl (mQ h).2
def aA6{ns l:List Int}(h:Rng l ns):(cF ns).idxOf l=(qL ns l).toNat:=by
 have nd:(cF ns).Nodup:=nQ (Dm _ _);obtain⟨_,e⟩:=mQ h;obtain⟨hl,e⟩:=Be.mp e;have h2:(cF ns).idxOf l<(cF ns).length:=Pd (uA h);have:=Ue h2;exact(Hq nd).mp (this.trans e.symm)
def aJ5:∀{p ns:List Int},Rng p ns↔p.length=ns.length/\∀(j:Nat)(x n:Int),p[j]? =some x->ns[j]? =some n->0<=x/\x<n:=by
 intro p ns;constructor
 ·rintro⟨l,h⟩;refine#[l,λj x n hx hn=>h (x,n) (Bl (i:=j) ?_)];rw[Ki];exact#[hx,hn]
 ·rintro⟨l,h⟩;refine#[l,λx hx=>?_];obtain⟨j,hj⟩:=Mc.mp hx;obtain⟨h1,h2⟩:=Ki.mp hj;exact h j x.1 x.2 h1 h2
def zG{p ns:List Int}{n:Int}(h:Rng p ns)(hn:ns[k]? =some n)(hφ:∀x,0<=x->x<n->0<=φ x/\φ x<n):Rng (mvP p k φ) ns:=by
 obtain⟨l,h⟩:=aJ5.mp h;refine aJ5.mpr #[by unfold mvP;rw[Bn,l],λj x m hx hm=>?_];unfold mvP at hx;by_cases e:k=j
 ·subst e;have hk:k<p.length:=by rw[l];exact(Be.mp hn).1
  rw[Dd hk]at hx;cases hx;rw[hn]at hm;cases hm;have hp:p[k]? =some (p.getD k 0):=by rw[Bh,Af hk];rfl
  have:=h k _ n hp hn;exact hφ _ this.1 this.2
 ·rw[Ei e]at hx;exact h j x m hx hm
def aV5(h:k<p.length)(e:ψ (φ (p.getD k 0))=p.getD k 0):mvP (mvP p k φ) k ψ=p:=by
 unfold mvP;rw[List.set_set,Bh,Dd h,Jb,e];refine Iq λj=>?_;by_cases z:k=j
 ·subst z;rw[Dd h,Bh,Af h];rfl
 ·rw[Ei z]
def bAj:mvP p k (λi=>i)=p:=by
 by_cases h:k<p.length
 ·unfold mvP;refine Iq λj=>?_;by_cases z:k=j
  ·subst z;rw[Dd h,Bh,Af h];rfl
  ·rw[Ei z]
 ·exact List.set_eq_of_length_le ∅
def aXe(F:List Int->List Int):Except Int (List Int)->Except Int (List Int)
 |.error c=> .error c
 |.ok l=> .ok (F l)
theorem aOg:∀{ns:List Int}{rs:List Rim}{is ss:List Int}{k:Nat}{n:Int}{r:Rim},ns[k]? =some n->rs[k]? =some r->is.length=ns.length->ss.length=ns.length->(∀x s,byR r n (φ x+ψ s)=(byR r n (x+s)).map φ)->bes ns rs (mvP is k φ) (mvP ss k ψ)=aXe (λl=>mvP l k φ) (bes ns rs is ss)
 | [],_,_,_,_,_,_,h,_,_,_,_=>by cases h
 |_::_,[],_,_,_,_,_,_,h,_,_,_=>by cases h
 |_::_,_::_,[],_,_,_,_,_,_,h,_,_=>by cases h
 |_::_,_::_,_::_,[],_,_,_,_,_,_,h,_=>by cases h
 |n0::ns,r0::rs,i::is,s::ss,0,n,r,h1,h2,_,_,hb=>by
  cases h1;cases h2;show(match byR r0 n0 (φ i+ψ s)with|none=>Lo r0.c|some x=>match bes ns rs is ss with|.error c=> .error c|.ok l=> .ok (x::l))=aXe _ (match byR r0 n0 (i+s)with|none=>Lo r0.c|some x=>match bes ns rs is ss with|.error c=> .error c|.ok l=> .ok (x::l));rw[hb];cases byR r0 n0 (i+s)with
  |none=>rfl
  |some x=>cases bes ns rs is ss<;>rfl
 |n0::ns,r0::rs,i::is,s::ss,k+1,n,r,h1,h2,h3,h4,hb=>by
  have ih:=aOg (φ:=φ) (ψ:=ψ) (ns:=ns) (rs:=rs) (is:=is) (ss:=ss) (k:=k) (n:=n) (r:=r) h1 h2 (Dw h3) (Dw h4) hb;show(match byR r0 n0 (i+s)with|none=>Lo r0.c|some x=>match bes ns rs (mvP is k φ) (mvP ss k ψ)with|.error c=> .error c|.ok l=> .ok (x::l))=aXe _ (match byR r0 n0 (i+s)with|none=>Lo r0.c|some x=>match bes ns rs is ss with|.error c=> .error c|.ok l=> .ok (x::l));rw[ih];cases byR r0 n0 (i+s)with
  |none=>rfl
  |some x=>cases bes ns rs is ss<;>rfl
def aL3{n x s b:Int}(h:0<n):byR .round n ((x+b) % n+s)=(byR .round n (x+s)).map λx=>(x+b) % n:=by
 have e:∀y,byR .round n y=some (y % n):=λy=>by
  show(if 0<=y/\y<n then some y else some (y % n))=_;by_cases z:0<=y/\y<n
  ·rw[Aa1 z,Hm z.1 z.2]
  ·rw[Aa0 z]
 rw[e,e];show some (((x+b) % n+s) % n)=some (((x+s) % n+b) % n);rw[Of,Of,Int.add_right_comm]
def aP0{n y:Int}(h:0<n):mir n (n-1-y)=n-1-mir n y:=by
 have a0:=Fu y (show 2*n≠0 by lia);have a1:=Ek y (show 0<2*n by lia);have hy:=Int.emod_add_mul_ediv y (2*n);unfold mir;generalize y % (2*n)=a at*;generalize y / (2*n)=q at*;by_cases h1:a<n
 ·have e:(n-1-y) % (2*n)=n-1-a:=by
   rw[show n-1-y=(n-1-a)+2*n* -q by rw[Zt];lia,Qi,Hm ∅ ∅]
  rw[e,Aa1 h1,Aa1 ∅]
 ·have e:(n-1-y) % (2*n)=3*n-1-a:=by
   rw[show n-1-y=(3*n-1-a)+2*n*(-q-1) by rw[Int.mul_sub,Zt,Pv];lia,Qi,Hm ∅ ∅]
  rw[e,Aa0 h1,Aa0 ∅]
  lia
def aIv{n x s:Int}(h:0<n):byR .mirror n (n-1-x+ -s)=(byR .mirror n (x+s)).map λx=>n-1-x:=by
 have e:∀y,byR .mirror n y=some (mir n y):=λy=>by
  show(if 0<=y/\y<n then some y else some (mir n y))=_;by_cases z:0<=y/\y<n
  ·rw[Aa1 z];unfold mir;rw[Hm z.1 ∅,Aa1 z.2]
  ·rw[Aa0 z]
 rw[e,e,show n-1-x+ -s=n-1-(x+s) by lia,aP0 h];rfl
variable {ys ys':List Tk}{t t':Tm}{k:Nat}{n:Int}{r:Rim}{φ ψ:Int->Int}{g:List Int->List Int}
structure Mvd(ns:List Int)(rs:List Rim)(ys ys':List Tk)(ls:List (List Int))(t t':Tm)(k:Nat)(n:Int)(r:Rim)(φ ψ:Int->Int)(g:List Int->List Int):Prop where
 hn:ns[k]? =some n
 hr:rs[k]? =some r
 el:rs.length=ns.length
 ok:∀n∈ns,1<=n
 hb:∀x s,byR r n (φ x+ψ s)=(byR r n (x+s)).map φ
 hφ:∀x,0<=x->x<n->0<=φ x/\φ x<n
 bj:Bij ns (λp=>mvP p k φ) g
 hv:∀F F':Tk->Int,(∀y∈raw t,F' (y.1,mvP y.2 k ψ)=F y)->val F' t'=val F t
 dp:dpt ys'=dpt ys
 yl:∀y∈raw t,y.2.length=ns.length
def aP1(M:Mvd ns rs ys ys' ls t t' k n r φ ψ g){row l:List Int}(h:Rng l ns):((mvR ns g row)[(qL ns (mvP l k φ)).toNat]?).getD 0=(row[(qL ns l).toNat]?).getD 0:=by
 have h2:=zG h M.hn M.hφ;unfold mvR;rw[Ap,(mQ h2).2];show atP ns row (g (mvP l k φ))=_;rw[(M.bj.fw l (uA h)).2];unfold atP;rw[aA6 h,Bh]
theorem aRe(M:Mvd ns rs ys ys' ls t t' k n r φ ψ g):∀(j:Nat)(q:Tk),q.2∈cF ns->pwF ns rs ys' (ls.map (mvR ns g)) t' m j (q.1,mvP q.2 k φ)=pwF ns rs ys ls t m j q
 |0,_,_=>rfl
 |j+1,q,hq=>by
  show val _ t' % m=val _ t % m;rw[M.hv _ _ λy hy=>?_];unfold wv;have hl:=(nM hq).1;show(match bes ns rs (mvP q.2 k φ) (mvP y.2 k ψ)with|.error c=>c|.ok l=>if 0<q.1-y.1 then pwF ns rs ys' (ls.map (mvR ns g)) t' m j (q.1-y.1,l)else(((ls.map (mvR ns g))[(q.1-y.1+dpt ys'-1).toNat]?.getD [])[(qL ns l).toNat]?).getD 0)=_;rw[aOg M.hn M.hr hl (M.yl y hy) M.hb,M.dp];cases hbe:bes ns rs q.2 y.2 with
  |error c=>rfl
  |ok l=>
   have rl:=aA3 ns rs q.2 y.2 l (λn hn=>by have:=M.ok n hn;lia) M.el hl (M.yl y hy) hbe;show(if 0<q.1-y.1 then pwF ns rs ys' (ls.map (mvR ns g)) t' m j (q.1-y.1,mvP l k φ)else _)=if 0<q.1-y.1 then pwF ns rs ys ls t m j (q.1-y.1,l)else _
   by_cases e:0<q.1-y.1
   ·rw[Aa1 e,Aa1 e];exact aRe M j (q.1-y.1,l) (uA rl)
   ·rw[Aa0 e,Aa0 e,Ap];cases ls[(q.1-y.1+dpt ys-1).toNat]? with
    |none=>rfl
    |some row=>exact aP1 M rl
def aV9(M:Mvd ns rs ys ys' ls t t' k n r φ ψ g){q:Tk}(hq:q.2∈cF ns):pw ns rs ys' (ls.map (mvR ns g)) t' m (q.1,mvP q.2 k φ)=pw ns rs ys ls t m q:=aRe M _ q hq
def aYv{k:Nat}:∀{t:Tm},(∀y∈raw t,F' (y.1,mvP y.2 k λi=>i)=F y)->val F' t=val F t:=λ{t} h=>gO λy hy=>by
 have:=h y hy;rw[bAj]at this;exact this
theorem wJ{k:Nat}:∀{t:Tm},(∀y∈raw t,F' (y.1,mvP y.2 k λi=> -i)=F y)->val F' (trT k t)=val F t
 |.num _,_=>rfl
 |.take b ss,h=>h (b,ss) (by simp[raw])
 |.rest t y,h=>by
  show val F' (trT k t) % y=val F t % y;rw[wJ λz hz=>h z (by simpa[raw,kids]using hz)]
 |.cho a b c,h=>by
  show(if 0<val F' (trT k a)then val F' (trT k b)else val F' (trT k c))=if 0<val F a then val F b else val F c
  rw[wJ λz hz=>h z (by simp[raw,kids];exact .inl hz),wJ λz hz=>h z (by simp[raw,kids];exact .inr (.inl hz)),wJ λz hz=>h z (by simp[raw,kids];exact .inr (.inr hz))]
 |.bin o a b,h=>by
  show opv o (val F' (trT k a)) (val F' (trT k b))=opv o (val F a) (val F b);rw[wJ λz hz=>h z (by simp[raw,kids];exact .inl hz),wJ λz hz=>h z (by simp[raw,kids];exact .inr hz)]
def aYa(M:Mvd ns rs ys ys' ls t t' k n r φ ψ g)(hp:p∈cF ns):atP ns (zA ns rs ys' (ls.map (mvR ns g)) t' m j) (mvP p k φ)=atP ns (zA ns rs ys ls t m j) p:=by
 have hr:=nM hp;have hr2:=zG hr M.hn M.hφ;unfold atP;rw[aA6 hr,aA6 hr2];unfold zA;by_cases e:j<=0
 ·rw[Aa1 e,Aa1 e,M.dp,Ap,Bh,Bh];cases ls[(j+dpt ys-1).toNat]? with
  |none=>rfl
  |some row=>exact aP1 M hr
 ·rw[Aa0 e,Aa0 e,Bh,Bh,Ap,Ap,(mQ hr).2,(mQ hr2).2];exact aV9 M (q:=(j,p)) hp
def aX9{ns row:List Int}(h:row.length=(cF ns).length):(cF ns).map (atP ns row)=row:=by
 have nd:(cF ns).Nodup:=nQ (Dm _ _);refine List.ext_getElem (by rw[Ab,h]) λi h1 h2=>?_;rw[List.getElem_map];unfold atP;have hi:i<(cF ns).length:=by rw[<-h];exact h2
 have e:(cF ns).idxOf (cF ns)[i]=i:=by
  have h3:(cF ns).idxOf (cF ns)[i]<(cF ns).length:=Pd (Gc hi);exact(Hq nd).mp (Ue h3)
 rw[e,Bh,Af h2];rfl
def aHn{ns:List Int}{rs:List Rim}{t:Tm}{m r j:Int}{ls:List (List Int)}{ys:List Tk}(G:aDz ns rs t m r ls ys)(h:1-dpt ys<=j):(zA ns rs ys ls t m j).length=(cF ns).length:=by
 unfold zA;by_cases e:j<=0
 ·have dp:=G.dp;have hi:(j+dpt ys-1).toNat<ls.length:=by lia
  rw[Aa1 e,Af hi,Jb];have:=(G.lr _ (Gc hi)).1;have:=tE λn hn=>(G.gs.ok n hn).1
  lia
 ·rw[Aa0 e,Ab]
def aV6(a b:Int):U.eq (.n a) (.n b)=decide (a=b):=by
 show eqV (.int a) (.int b)=_;simp[eqV];rfl
abbrev aE8:List Str:=["_law_job_here","_law_other","_law_world","_law_new_of","_law_one","_law_moved_here","_law_turn","_law_place","_law_places_here","_law_row"]
def dN:aK ["_law_job_here","_law_other","_law_world","_law_new_of","_law_one","_law_moved_here","_law_turn","_law_place","_law_places_here","_law_row"] ["_law_job_here","_law_other","_law_world","_law_new_of"] (aC cM):={}
def aFp(P:Aj)(w:Bd)(N:Cn)(CG CJ:Addr):Fv:=λus R=>∃ns rs t t' m r ls ys ys' k n ri φ ψ g,us=[nR N CG CJ ns rs t ys m r ls,nR N CG CJ ns rs t' ys' m r (ls.map (mvR ns g)),wK ns rs t m r ls,.op (tdO P w (sX ns λp=>mvP p k φ)).fz]/\aDz ns rs t m r ls ys/\aDz ns rs t' m r (ls.map (mvR ns g)) ys'/\Mvd ns rs ys ys' ls t t' k n ri φ ψ g/\R (.sh (.b true))
def aP6{oc kV doc pm ct:Value}(lk:K.lookup f=some #[oc,od,.func (Ca "_law_agree" "_law_agree" (bQ cM) (bG cM) (aC cM) .none kV doc pm an (.ref cc) ct),osl])(hcd:Fj K (.ref cc) "_law_agree"=true)
  (D_deep:Dis P w K mg base CX0 1 (·=CJ) "deep" ["self"] λ_=>spV (aG6 CJ)) (iD:⇑1 "_law_places" ["_law_sizes_here"] (spV aA4))
  (c_plain_worths:⇑7 "plain_worths" ["job"] (spT [(P1,[nwT.2.2.2],nwQ),(P2,[pwT.2.2.2],pwQ)] (fPW P w N CG CJ))) (c_plain_round:⇑8 "plain_round" ["job","round_at"] (spT [(P1,[nwT.2.2.2],nwQ),(P2,[pwT.2.2.2],pwQ)] (fPR N CG CJ))) (T:Txt mg):
  ↥9 f (Ca "_law_agree" "_law_agree" (bQ cM) (bG cM) (aC cM) .none kV doc pm an (.ref cc) ct) ["_law_job_here","_law_other","_law_world","_law_new_of"] (spT [(P1,[nwT.2.2.2],nwQ),(P2,[pwT.2.2.2],pwQ)] (aFp P w N CG CJ)):=by
 refine aUy lk hcd dN (λA outer s H E hr=>kE (aGg (i:=4) dN.nd (qO c_plain_worths (λx hx=>hx) (hr.mono ⋯) rfl (aB (aA 0) aD))) (kE (aGg (i:=5) dN.nd (qO c_plain_worths (λx hx=>hx) (hr.mono ⋯) rfl (aB (aA 1) aD))) (kE (zV (fH Bw rfl (bCe (P:=P) (w:=w) rfl rfl (aA 4)) (aC7 rfl (iM (i:=6) dN.nd (iM (i:=7) dN.nd xZ))) (aF (bT (bH (yZ (huD hr)) cY (aR8 (P:=P) (w:=w) rfl rfl hr (aA 5) (bV (aB (aA 6) (aB (aLu (P:=P) (w:=w) rfl rfl hr (aA 3) (aA 7)) aD)))) (aR8 (P:=P) (w:=w) rfl rfl hr (aA 4) (bV (aB (aA 6) (aB (aA 7) aD))))) (aF (aN aC6)) aU)))) (kE (zV (aR (i:=8) dN.nd (aM iD (hr.mono ⋯) rfl (aB (mD (sV hr) (aA 2)) aD)))) (kE (aY8 Bw rfl (aE0 T.range (aP (aW fY cU aH (bZ (aA 0) D_deep (hr.mono ⋯))) (aP (aW bN cC (mD (sV hr) (aA 2)) aH) aY))) (fQ (i:=6) dN.nd) (kE (aGg (i:=9) dN.nd (qO c_plain_round (λx hx=>hx) (hr.mono ⋯) rfl (aB (aA 1) (aB (aA 6) aD)))) (uR (aY9 (yZ (huD hr)) cY (iK (own:=["_law_place"]) (cap:=[("_law_new_of",3),("_law_places_here",8),("_law_row",9)]) (aC cM) aE8 rfl rfl (λx h=>bO h) #v[1] rfl (vic (bY (aA 8))) ↑(bU (i:=0) (~~~["_law_place","_law_new_of","_law_places_here","_law_row"]) rfl (Dy rfl) (Ew rfl)) (cO ⋯) ↑(bA aQ aZ (aA 3) (aYz hr (aA 2) (aLu (P:=P) (w:=w) rfl rfl hr (aA 1) (aA 0))))) (qO c_plain_round (λx hx=>hx) (hr.mono ⋯) rfl (aB (aA 0) (aB (aA 6) aD))) (aU4 (aF (aN aC6))))))) (uR (zV (aN (zU (cH (huD hr)) cY (aIc (P:=P) (w:=w) rfl rfl T.len (aA 4)) (aIc (P:=P) (w:=w) rfl rfl T.len (aA 5))))))))))) ?_;rintro _ R ⟨ns,rs,t,t',m,r,ls,ys,ys',k,n,ri,φ,ψ,g,rfl,G,G',M,q⟩;refine#[rfl,λs=>#[ns,rs,t,m,r,ls,ys,rfl,G,ns,rs,t',m,r,_,ys',rfl,G',?_]];have l480:(spS ns r.toNat).length<=480:=by
  have:=aLj (n:=r.toNat) G.gs;have:=G.r0.2
  lia
 have y1:∀y∈ys,1<=y.1:=λy hy=>(G.gy y hy).1.1;have y0:∀y∈ys,0<=y.1:=λy hy=>by have:=y1 y hy;lia
 have zl:=Bs (pB G.fw G.ik) (show 4<=17 by decide);have m0:=G.r0;have d3:0<=dpt ys/\dpt ys<=3:=by
  have:=G.dp;have:=G.l3
  lia
 refine#[_,rfl,?_];have ek:((kvU (spS ns r.toNat) λq=>U.n (pw ns rs ys ls t m q)).map λp=>tkU p.1)=(spS ns r.toNat).map tkU:=by
  unfold kvU;rw[Ce];rfl
 rw[ek];show mL (aLv [6,7]) _ _ ((spS ns r.toNat).map tkU) [.sh (nR N CG CJ ns rs t ys m r ls),.sh (nR N CG CJ ns rs t' ys' m r (ls.map (mvR ns g))),.sh (wK ns rs t m r ls),.sh (.op (tdO P w (sX ns λp=>mvP p k φ)).fz),.sh (.op (pnO P w (kvU (spS ns r.toNat) λq=> .n (pw ns rs ys ls t m q)))),.sh (.op (pnO P w (kvU (spS ns r.toNat) λq=> .n (pw ns rs ys' (ls.map (mvR ns g)) t' m q)))),.no,.no,.no,.no];refine cL (λl ρ=>∃(rst:List Tk)(x y:Sl),l=rst.map tkU/\(∀q∈rst,q∈spS ns r.toNat)/\ρ=[.sh (nR N CG CJ ns rs t ys m r ls),.sh (nR N CG CJ ns rs t' ys' m r (ls.map (mvR ns g))),.sh (wK ns rs t m r ls),.sh (.op (tdO P w (sX ns λp=>mvP p k φ)).fz),.sh (.op (pnO P w (kvU (spS ns r.toNat) λq=> .n (pw ns rs ys ls t m q)))),.sh (.op (pnO P w (kvU (spS ns r.toNat) λq=> .n (pw ns rs ys' (ls.map (mvR ns g)) t' m q)))),x,y,.no,.no]) ?_ ?_ #[spS ns r.toNat,_,_,rfl,λ_ h=>h,rfl]
 rotate_left
 ·rintro u l ρ ⟨rst,x,y,el,hm,rfl⟩ ih;cases rst with
  |nil=>cases el
  |cons q0 rst=>
   cases el;have hq:=hm q0 Ag;have hp:q0.2∈cF ns:=by
    unfold spS at hq;obtain⟨j,_,hq⟩:=Fh.mp hq;obtain⟨p,hp,rfl⟩:=Ay.mp hq;exact hp
   have hq':(q0.1,mvP q0.2 k φ)∈spS ns r.toNat:=aLk (show 1<=q0.1 from(aF5 G.gs hq).2.2) (show q0.1<=_ from aRu hq) (zG (nM hp) M.hn M.hφ);have e:=aV9 (m:=m) M hp;refine#[rfl,_,q0.2,_,.inr (.inr rfl),rfl,aBc (ns:=ns) hp,_,(q0.1,mvP q0.2 k φ),_,rfl,rfl,wZ (f:=λq=>U.n (pw ns rs ys' (ls.map (mvR ns g)) t' m q)) hq',_,q0,_,rfl,rfl,wZ (f:=λq=>U.n (pw ns rs ys ls t m q)) hq,trivial,trivial,λz=>?_,λ_=>ih _ #[rst,_,_,rfl,λq h=>hm q (Ah _ h),rfl]];have z:(!U.eq (.n (pw ns rs ys' (ls.map (mvR ns g)) t' m (q0.1,mvP q0.2 k φ))) (.n (pw ns rs ys ls t m q0)))=true:=z;rw[aV6,e,Aa5 rfl]at z;cases z
 ·rintro ρ ⟨rst,x,y,el,_,rfl⟩;refine wF 0 rfl rfl #[ns,rfl,G.gs,pG G.gs,?_];refine#[rfl,by decide+kernel,ys,_,_,rfl,zl,y0,wF 4 rfl rfl #[#[∅,∅,∅,∅],?_]];have en:qI (1-dpt ys) (r+1-(1-dpt ys)).toNat=((Dl (r+1-(1-dpt ys)).toNat).map λi:Nat=>1-dpt ys+(i:Int)).map U.n:=by
   unfold qI;rw[Ce];rfl
  rw[en];show vI (pX 6) _ _ (((Dl (r+1-(1-dpt ys)).toNat).map λi:Nat=>1-dpt ys+(i:Int)).map U.n) [.sh (nR N CG CJ ns rs t ys m r ls),.sh (nR N CG CJ ns rs t' ys' m r (ls.map (mvR ns g))),.sh (wK ns rs t m r ls),.sh (.op (tdO P w (sX ns λp=>mvP p k φ)).fz),.sh (.op (pnO P w (kvU (spS ns r.toNat) λq=> .n (pw ns rs ys ls t m q)))),.sh (.op (pnO P w (kvU (spS ns r.toNat) λq=> .n (pw ns rs ys' (ls.map (mvR ns g)) t' m q)))),fzS (fzS x),fzS (fzS y),.sh (.ls (plU ns)),.no];refine aEp (λl ρ=>∃(js:List Int)(x y z:Sl),l=js.map U.n/\(∀j∈js,1-dpt ys<=j/\j<=r)/\ρ=[.sh (nR N CG CJ ns rs t ys m r ls),.sh (nR N CG CJ ns rs t' ys' m r (ls.map (mvR ns g))),.sh (wK ns rs t m r ls),.sh (.op (tdO P w (sX ns λp=>mvP p k φ)).fz),.sh (.op (pnO P w (kvU (spS ns r.toNat) λq=> .n (pw ns rs ys ls t m q)))),.sh (.op (pnO P w (kvU (spS ns r.toNat) λq=> .n (pw ns rs ys' (ls.map (mvR ns g)) t' m q)))),x,y,.sh (.ls (plU ns)),z]) ?_ ?_ #[_,_,_,_,rfl,λj hj=>?_,rfl]
  rotate_right
  ·obtain⟨i,hi,rfl⟩:=Ay.mp hj;have:=Dj.mp hi
   lia
  ·rintro ρ ⟨js,x,y,z,el,_,rfl⟩;have kl:∀F:Tk->U,(kvU (spS ns r.toNat) F).length<=10000:=λF=>by
    unfold kvU;rw[Ab]
    lia
   refine#[_,rfl,kl _,_,rfl,kl _,trivial,trivial,?_];show R (.b (U.eq (.n ((kvU (spS ns r.toNat) λq=>U.n (pw ns rs ys ls t m q)).length:Int)) (.n ((kvU (spS ns r.toNat) λq=>U.n (pw ns rs ys' (ls.map (mvR ns g)) t' m q)).length:Int))));rw[aV6,Aa5 (by unfold kvU;rw[Ab,Ab])];exact q
  ·rintro u l ρ ⟨js,x,y,z,el,hj,rfl⟩ ih;cases js with
   |nil=>cases el
   |cons j js=>
    cases el;obtain⟨j1,j2⟩:=hj j Ag;have lenA:=aHn G j1;have lenB:=aHn G' (j:=j) (by rw[M.dp];exact j1);refine#[ns,rs,t',m,r,_,ys',j,rfl,G',by rw[M.dp];exact j1,j2,?_];generalize hB:zA ns rs ys' (ls.map (mvR ns g)) t' m j=RB at*;have pv:∀p∈cF ns,atP ns RB (mvP p k φ)=atP ns (zA ns rs ys ls t m j) p:=λp hp=>by rw[<-hB];exact aYa M hp
    refine#[by rw[Ab];have:=pG G.gs;lia,oO (B:=λp=>some (U.n (atP ns RB (mvP p k φ)))) (λp hp κ hk=>?_) ?_]
    ·have rp:=zG (nM hp) M.hn M.hφ;obtain⟨u,i1,i2,i3⟩:=aXx rp;refine#[plU ns,rfl,aHo _,sX ns _,p,_,.inr (.inr rfl),rfl,aBc (ns:=ns) hp,(qL ns (mvP p k φ)).toNat,u,qH 39 _,i1,i2,i3,.n (atP ns RB (mvP p k φ)),iQ ?_,hk];have hi:(qL ns (mvP p k φ)).toNat<RB.length:=by
      rw[lenB];exact(Be.mp (mQ rp).2).1
     unfold atP;rw[aA6 rp,Ap,Af hi,Bh,Af hi];rfl
    ·have e:([]++(cF ns).filterMap λp=>some (U.n (atP ns RB (mvP p k φ))))=(zA ns rs ys ls t m j).map U.n:=by
      rw[Di,Gv]
      conv=>rhs;rw[<-aX9 lenA]
      rw[Ce];exact Ti λp hp=>Aa9 U.n (pv p hp)
     rw[e];refine#[ns,rs,t,m,r,ls,ys,j,rfl,G,j1,j2,qH 39 _,qH 39 _,false,?_,nofun,λ_=>ih _ #[js,_,_,_,rfl,λi h=>hj i (Ah _ h),rfl]];show Sl.sh (.b (!(D.eqs (U.ds ((zA ns rs ys ls t m j).map U.n)) (U.ds ((zA ns rs ys ls t m j).map U.n)))))=_;rw[aCb,Aa5 rfl];rfl
theorem zF{k:Nat}:∀t:Tm,raw (trT k t)=(raw t).map λx=>(x.1,mvP x.2 k λi=> -i)
 |.num _=>rfl
 |.take _ _=>rfl
 |.rest t _=>zF t
 |.cho a b c=>by simp only[trT,raw,Cc,zF]
 |.bin _ a b=>by simp only[trT,raw,Cc,zF]
theorem aHd{k:Nat}:∀t:Tm,ht (trT k t)=ht t
 |.num _=>rfl
 |.take _ _=>rfl
 |.rest t _=>Aa9 (·+1) (aHd t)
 |.cho a b c=>by simp only[trT,ht,aHd]
 |.bin _ a b=>by simp only[trT,ht,aHd]
theorem aBf{k:Nat}:∀t:Tm,iJ (trT k t)=iJ t
 |.num _=>rfl
 |.take _ _=>rfl
 |.rest t _=>Aa9 (1+·) (aBf t)
 |.cho a b c=>by simp only[trT,iJ,aBf]
 |.bin _ a b=>by simp only[trT,iJ,aBf]
theorem aC8{k:Nat}:∀{t:Tm},Wf t->Wf (trT k t)
 |.num _,h=>h
 |.take _ _,h=>h
 |.rest _ _,h=>#[h.1,h.2.1,aC8 h.2.2]
 |.cho _ _ _,h=>#[aC8 h.1,aC8 h.2.1,aC8 h.2.2]
 |.bin _ _ _,h=>#[aC8 h.1,aC8 h.2]
def aJo{k:Nat}{φ:Int->Int}:(mvP p k φ).length=p.length:=Bn ..
def aOy{ys:List Tk}{m:Int}(h1:1<=m)(h:∀y∈ys,y.1<=m):dpt ys<=m:=by
 have key:∀(l:List Tk)(a:Int),(∀y∈l,y.1<=m)->a<=m->l.foldl (λm y=>max m y.1) a<=m:=by
  intro l;induction l with
  |nil=>exactλa _ h=>h
  |cons x l ih=>exactλa h ha=>ih _ (λy hy=>h y (Ah _ hy)) (by have:=h x Ag;show max a x.1<=m;lia)
 unfold dpt;split
 ·exact h1
 ·exact key ys 0 h ∅
def aKw{ys:List Tk}(h:∀y∈ys,1<=y.1):1<=dpt ys:=by
 cases ys with
 |nil=>exact Li _
 |cons y ys=>have:=aFo (ys:=y::ys) Ag;have:=h y Ag;lia
def aG3{ys zs:List Tk}(hy:∀y∈ys,1<=y.1)(hz:∀z∈zs,1<=z.1)(h:∀y∈ys,∃z∈zs,z.1=y.1)(h':∀z∈zs,∃y∈ys,y.1=z.1):dpt zs=dpt ys:=
 Int.le_antisymm (aOy (aKw hy) λz hz=>let⟨y,m,e⟩:=h' z hz;e▸aFo m) (aOy (aKw hz) λy hy=>let⟨z,m,e⟩:=h y hy;e▸aFo m)
def aOe{p ns:List Int}{k:Nat}{n:Int}(h:Rng p ns)(hn:ns[k]? =some n):k<p.length/\0<=p.getD k 0/\p.getD k 0<n:=by
 obtain⟨l,h⟩:=aJ5.mp h;have kl:k<p.length:=by rw[l];exact(Be.mp hn).1
 exact#[kl,h k _ n (by rw[Bh,Af kl];rfl) hn]
def aOi{ns:List Int}{k:Nat}{n:Int}{φ ψ:Int->Int}(hn:ns[k]? =some n)(hφ:∀x,0<=x->x<n->0<=φ x/\φ x<n)(hψ:∀x,0<=x->x<n->0<=ψ x/\ψ x<n)(e:∀x,0<=x->x<n->ψ (φ x)=x)(e':∀x,0<=x->x<n->φ (ψ x)=x):Bij ns (λp=>mvP p k φ) λp=>mvP p k ψ:=
 #[λp hp=>let r:=nM hp;let⟨a,b,c⟩:=aOe r hn;#[uA (zG r hn hφ),aV5 a (e _ b c)],λp hp=>let r:=nM hp;let⟨a,b,c⟩:=aOe r hn;#[uA (zG r hn hψ),aV5 a (e' _ b c)]]
section
variable {ns:List Int}{rs:List Rim}{t t':Tm}{m r:Int}{ls:List (List Int)}{ys ys':List Tk}{k:Nat}{n b:Int}{g:List Int->List Int}
def gU.rim{x:Rim}(gj:gU ns rs t m r ls)(h:x.ok):gU ns (rs.set k x) t m r ls:={gj with
 el:=by rw[Bn];exact gj.el
 rk:=λy hy=>(Qg hy).elim (gj.rk y) λe=>e▸h}
def gU.rows(gj:gU ns rs t m r ls):gU ns rs t m r (ls.map (mvR ns g)):={gj with
 dp:=λys ik=>by rw[Ab];exact gj.dp ys ik
 l3:=by rw[Ab];exact gj.l3
 rw_:=λl hl=>by
  obtain⟨row,hr,rfl⟩:=Ay.mp hl;have al:=tE λn hn=>(gj.gs.ok n hn).1;refine#[by unfold mvR;rw[Ab];exact al,by unfold mvR;rw[Ab];exact pG gj.gs,λx hx=>?_];obtain⟨p,_,rfl⟩:=Ay.mp hx;unfold atP;rw[Bh];cases e:row[(cF ns).idxOf (g p)]? with
  |none=>have:=gj.m2;exact#[Li _,by show 0<m;lia]
  |some x=>exact(gj.rw_ row hr).2.2 x (Bl e)}
def aOz(gj:gU ns rs t m r ls)(ik:eF t ys)(iz:eF (trT k t) ys'):dpt ys'=dpt ys:=by
 have ez:∀z,z∈ys'↔ ∃y∈ys,(y.1,mvP y.2 k λi=> -i)=z:=λz=>by rw[iz.2 z,zF,Ay];exact#[λ⟨y,h,e⟩=>#[y,(ik.2 y).mpr h,e],λ⟨y,h,e⟩=>#[y,(ik.2 y).mp h,e]]
 have y1:∀y∈ys,1<=y.1:=λy hy=>(gj.ok.2 y ((ik.2 y).mp hy)).1.1;exact aG3 y1 (λz hz=>by obtain⟨y,hy,rfl⟩:=(ez z).mp hz;exact y1 y hy) (λy hy=>#[_,(ez _).mpr #[y,hy,rfl],rfl]) λz hz=>by obtain⟨y,hy,rfl⟩:=(ez z).mp hz;exact#[y,hy,rfl]
def gU.tr(gj:gU ns rs t m r ls)(ik:eF t ys):gU ns rs (trT k t) m r ls:={gj with
 hd:=by rw[aHd];exact gj.hd
 ok:=⟨aC8 gj.ok.1,λx hx=>by
  rw[zF]at hx;obtain⟨y,hy,rfl⟩:=Ay.mp hx;obtain⟨⟨y1,y3,y9⟩,l1,l3⟩:=gj.ok.2 y hy;refine#[#[y1,y3,λs hs=>(Qg hs).elim (y9 s) λe=>?_],by rw[aJo];exact l1,by rw[aJo];exact l3];rw[Bh]at e;cases e1:y.2[k]? with
  |none=>rw[e1]at e;subst e;exact#[⋯,⋯]
  |some z=>rw[e1]at e;have:=y9 z (Bl e1);subst e;show-9<= -z/\ -z<=9;lia⟩
 pr:=by rw[aBf];exact gj.pr
 ln:=by
  obtain⟨h1,h2,ks,h3,h4⟩:=gj.ln;refine#[h1,λx hx=>?_,ks.map λx=>(x.1,mvP x.2 k λi=> -i),by rw[Ab];exact h3,λx hx=>?_]
  all_goals
   rw[zF]at hx;obtain⟨y,hy,rfl⟩:=Ay.mp hx
  ·exact aJo.trans (h2 y hy)
  ·exact Ay.mpr #[y,h4 y hy,rfl]
 dp:=λzs iz=>(gj.dp ys ik).trans (aOz gj ik iz).symm}
def gU.gp(gj:gU ns rs t m r ls)(h4:ht t<=4)(ik:eF t ys):aDz ns rs t m r ls ys:=#[gj.gl h4 ik,gj.rk,gj.rw_,gj.r0,gj.m2.2,gj.l3]
def aD4(gs:jD ns)(hn:ns[k]? =some n):Bij ns (λp=>mvP p k λx=>(x+b) % n) λp=>mvP p k λx=>(x-b) % n:=by
 have n1:=(gs.ok n (Bl hn)).1;have hm:∀y,0<=y % n/\y % n<n:=λy=>#[Fu y ∅,Ek y ∅];exact aOi hn (λx _ _=>hm _) (λx _ _=>hm _) (λx h0 h1=>by rw[Int.emod_sub_emod,show x+b-b=x by lia,Hm h0 h1]) λx h0 h1=>by rw[Of,show x-b+b=x by lia,Hm h0 h1]
def yQ(x:Int)(h0:0<=x)(h1:x<n):0<=n-1-x/\n-1-x<n:=by lia
def aBx(hn:ns[k]? =some n):Bij ns (λp=>mvP p k λx=>n-1-x) λp=>mvP p k λx=>n-1-x:=aOi hn yQ yQ (λx _ _=>by lia) λx _ _=>by lia
def aMs(gj:gU ns rs t m r ls)(ik:eF t ys)(ik':eF t ys')(hn:ns[k]? =some n)(hr:rs[k]? =some .round):Mvd ns rs ys ys' ls t t k n .round (λx=>(x+b) % n) (λi=>i) λp=>mvP p k λx=>(x-b) % n:=by
 have n1:=(gj.gs.ok n (Bl hn)).1;have hm:∀y,0<=y % n/\y % n<n:=λy=>#[Fu y ∅,Ek y ∅];have y1:∀{zs},eF t zs->∀z∈zs,1<=z.1:=λh z hz=>(gj.ok.2 z ((h.2 z).mp hz)).1.1;exact#[hn,hr,gj.el,λn h=>(gj.gs.ok n h).1,λx s=>aL3 ∅,λx _ _=>hm _,aD4 gj.gs hn,λF F' h=>aYv h,aG3 (y1 ik) (y1 ik') (λy hy=>#[y,(ik'.2 y).mpr ((ik.2 y).mp hy),rfl]) λy hy=>#[y,(ik.2 y).mpr ((ik'.2 y).mp hy),rfl],λy hy=>gj.ln.2.1 y hy]
def aJp(gj:gU ns rs t m r ls)(ik:eF t ys)(ik':eF (trT k t) ys')(hn:ns[k]? =some n)(hr:rs[k]? =some .mirror):Mvd ns rs ys ys' ls t (trT k t) k n .mirror (λx=>n-1-x) (λi=> -i) λp=>mvP p k λx=>n-1-x:=by
 have n1:=(gj.gs.ok n (Bl hn)).1;exact#[hn,hr,gj.el,λn h=>(gj.gs.ok n h).1,λx s=>aIv ∅,yQ,aBx hn,λF F' h=>wJ h,aOz gj ik ik',λy hy=>gj.ln.2.1 y hy]
end
def Wi.td{P:Aj}{w:Bd}(h:∀p∈ab,Wi p.2):Wi (.op (tdO P w ab).fz):=by
 intro W W' B H v #[p,S,e,nb,sb,xs,y1,y2];refine#[p,S,e,nb,sb,xs,y1,?_];clear y1;induction y2 with
 |nil=>exact .nil
 |cons d rv dv t ih=>exact .cons (DU.nw _ (yR _) d) rv (h _ Ag dv) (ih λp hp=>h p (Ah _ hp))
def aS5{ns:List Int}{g:List Int->List Int}:∀p∈sX ns g,Wi p.2:=λp hp=>by
 obtain⟨q,_,rfl⟩:=Ay.mp hp;exact Wi.nw (u:=pU (g q)) (yR (g q))
def aEq{ns:List Int}{g:List Int->List Int}:(sX ns g).map (·.1)=cF ns:=by
 unfold sX;rw[Ce];exact Yd _
abbrev aVr:List Str:=["_law_script","_law_world","_law_well_here","_law_line","_law_size","_law_way","_law_places_here","_law_told_here","_law_by","_law_new_of"]
def lY:aK ["_law_script","_law_world","_law_well_here","_law_line","_law_size","_law_way","_law_places_here","_law_told_here","_law_by","_law_new_of"] ["_law_script"] (aC oE):={}
def aXh{oc kV doc pm ct:Value}(ne:P1≠P2)(lk:K.lookup f=some #[oc,od,.func (Ca "law" "law" (bQ oE) (bG oE) (aC oE) .none kV doc pm an (.ref cc) ct),osl])(hcd:Fj K (.ref cc) "law"=true)
  (c__law_well:⇑2 "_law_well" ["_law_script","_law_k"] (spV (aV0 K))) (aO:⇑1 "_law_draw" ["_law_well_here","_law_most"] (spV vG)) (aIx:⇑7 "_law_job" ["_law_well_here"] (spV aVx)) (pJ:⇑16 "_law_job_of" ["_law_world"] (spV (aFq N CG CJ))) (iD:⇑1 "_law_places" ["_law_sizes_here"] (spV aA4))
  (c__law_moved:⇑1 "_law_moved" ["_law_place","_law_line","_law_size","_law_by"] (spV aO8)) (aFd:⇑1 "_law_about" ["_law_place","_law_line","_law_size"] (spV aO2)) (gY:⇑5 "_law_turned_steps" ["_law_told_here","_law_line"] (spV (aK2 4)))
  (c__law_with:⇑17 "_law_with" ["_law_world","_law_told_here","_law_new_of"] (spV (aJd P w N CG CJ))) (c__law_agree:⇑9 "_law_agree" ["_law_job_here","_law_other","_law_world","_law_new_of"] (spT [(P1,[nwT.2.2.2],nwQ),(P2,[pwT.2.2.2],pwQ)] (aFp P w N CG CJ))) (T:Txt mg):
  ↥18 f (Ca "law" "law" (bQ oE) (bG oE) (aC oE) .none kV doc pm an (.ref cc) ct) ["_law_script"] (aNi P1 P2 λus=>∃sc:List Int,us=[.op (aA0 K sc)]):=by
 refine bD1 (La:=[nwT.2.2.2]) (Lb:=[pwT.2.2.2]) (q1:=nwQ) (q2:=pwQ) ne lk hcd lY (λA outer s H E hr=>kI (aR (i:=1) lY.nd (aNt aIx (hr.mono ⋯) rfl (aM c__law_well (hr.mono ⋯) rfl (aB (aA 0) (aB aH aD))) aD)) (kI (aR (i:=2) lY.nd (aM c__law_well (hr.mono ⋯) rfl (aB (aA 0) (aB aH aD)))) (aU6 2 (kI (aR (i:=3) lY.nd (aM aO (hr.mono ⋯) rfl (aB (aA 2) (aB (bR bF fV T.len Gk (aP (aLr hr (aA 1)) aY)) aD)))) (kI (aR (i:=4) lY.nd (bA aQ aZ (aLr hr (aA 1)) (aA 3))) (kI (aR (i:=5) lY.nd (aM aO (hr.mono ⋯) rfl (aB (aA 2) (aB aH aD)))) (kI (aY5 1 hr (aA 3) (bA aQ aZ (cR (aB (bV (aB bI aD)) (aB (bV (aB bI aD)) aD))) (aA 5))) (aZb 1 1 (kI (aR (i:=6) lY.nd (aM iD (hr.mono ⋯) rfl (aB (mD (sV hr) (aA 1)) aD))) (kI (aR (i:=7) lY.nd (mD (sV hr) (aA 1))) (kI (aR (i:=8) lY.nd (aM aO (hr.mono ⋯) rfl (aB (aA 2) (aB (aW jJ lQ aH (aA 4)) aD)))) (kI (aR (i:=9) lY.nd (aGc (P:=P) (w:=w) rfl rfl hr rfl T.dict (iK (own:=["_law_place"]) (cap:=[("_law_line",3),("_law_size",4),("_law_by",8)]) (aC oE) aVr rfl rfl (λx h=>bO h) #v[1] rfl (vic (bY (aA 6))) ↑(bU (i:=0) (~~~["_law_place","_law_line","_law_size","_law_by"]) rfl (Dy rfl) (Ew rfl)) (cO ⋯) ↑(bV (aB (aA 0) (aB (aM c__law_moved (hr.mono ⋯) rfl (aB (aA 0) (aB (aA 1) (aB (aA 2) (aB (aA 3) aD))))) aD)))))) (kI (bT (bH (cH (huD hr)) cY (aA 5) aH) (aG (aR (i:=7) lY.nd (aM gY (hr.mono ⋯) rfl (aB (aA 7) (aB (aA 3) aD)))) (aF (aR (i:=9) lY.nd (aGc (P:=P) (w:=w) rfl rfl hr rfl T.dict (iK (own:=["_law_place"]) (cap:=[("_law_line",3),("_law_size",4)]) (aC oE) aVr rfl rfl (λx h=>bO h) #v[1] rfl (vic (bY (aA 6))) ↑(bU (i:=0) (~~~["_law_place","_law_line","_law_size"]) rfl (Dy rfl) (Ew rfl)) (cO ⋯) ↑(bV (aB (aA 0) (aB (aM aFd (hr.mono ⋯) rfl (aB (aA 0) (aB (aA 1) (aB (aA 2) aD)))) aD)))))))) aU) (bD4 (uR (aKi (qO c__law_agree (λx hx=>hx) (hr.mono ⋯) rfl (aB (aM pJ (hr.mono ⋯) rfl (aB (aA 1) aD)) (aB (aM c__law_with (hr.mono ⋯) rfl (aB (aA 1) (aB (aA 7) (aB (aA 9) aD)))) (aB (aA 1) (aB (aA 9) aD))))))))))))))))))))) ?_;rintro _ ⟨sc,rfl⟩;refine#[rfl,λs=>?_];refine#[sc,0,rfl,λa b c=>#[rfl,λns rs t m r ls gj h4=>#[?_,?_]]]
 ·refine#[_,wU ns t m r ls,_,rfl,λq u hu=>?_,λu hu=>?_]
  ·have nw:Nw (wK ns rs t m r ls):=aSi;obtain⟨n1,_,n3,n4,n5,n6,_⟩:=nw;unfold wU at hu;simp only[Ax,Cj,or_false]at hu;rcases hu with rfl|rfl|rfl|rfl|rfl|rfl
   ·exactλ{_ _ _ _ _} h=>DU.nw _ n1 h
   ·exactλ{_ _ _ _ _} h=>h
   ·exactλ{_ _ _ _ _} h=>DU.nw _ n3 h
   ·exactλ{_ _ _ _ _} h=>DU.nw _ n4 h
   ·exactλ{_ _ _ _ _} h=>DU.nw _ n5 h
   ·exactλ{_ _ _ _ _} h=>DU.nw _ n6 h
  ·obtain⟨x,_,rfl⟩:=Ay.mp hu;exact Wi.nw (u:=x.u) (by cases x<;>exact#[trivial,by trivial])
 refine#[sc,1,rfl,λa2 b2 c2=>#[#[a2,b2,c2,rfl],?_]];have gs:=gj.gs;have l1:=gs.l1;have l3:=gs.l3;refine#[_,wU ns t m r ls,_,rfl,λq=>wF 0 rfl rfl #[_,rfl,by rw[Ab];lia,by rw[Ab];lia,λk k0 k1=>?_]];rw[Ab]at k1;obtain⟨k,rfl⟩:=Int.eq_ofNat_of_zero_le k0;have kl:k<ns.length:=by lia
 obtain⟨n,hn⟩:∃n,ns[k]? =some n:=#[_,Af kl];refine#[_,wU ns t m r ls,_,rfl,λq=>wF 0 rfl rfl #[_,iQ (by rw[Ap,hn];rfl),?_]];refine#[_,rfl,⋯,⋯,λz z0 z2=>?_];show aNs 5 [.sh (.op (aA0 K sc)),.oo (wO ns rs t m r ls),.sh .wl,.sh (.n k),.sh (.n n),.no,.no,.no,.no,.no] _ (.sh (.n z));obtain⟨x,ex,hx⟩:∃x:Rim,atI [Rim.round.u,Rim.mirror.u] z=some x.u/\(x=.round/\z=0∨x=.mirror/\z=1):=by
  rcases (by lia:z=0∨z=1)with rfl|rfl
  ·exact#[_,rfl,.inl #[rfl,rfl]]
  ·exact#[_,rfl,.inr #[rfl,rfl]]
 have xo:x.ok:=by rcases hx with ⟨rfl,_⟩|⟨rfl,_⟩<;>trivial
 refine#[_,ex,_,wU ns t m r ls,_,rfl,λq=>wF 1 rfl rfl rfl,_,k,rfl,?_,?_]
 ·rw[Ab,gj.el];unfold ixN;rw[Aa1 ∅,Aa1 k1];rfl
 have gj:=gj.rim (k:=k) xo;have hr:(rs.set k x)[k]? =some x:=Dd (by rw[<-gj.el,Bn]at kl;exact kl);have n9:=gs.ok n (Bl hn);refine#[_,wU ns t m r ls,_,rfl,λq=>rfl,[.ls (ns.map U.n),.ls ((rs.set k x).map Rim.u),dR t,.n m,.n r,.ls (eQ ls)],λq=>by rw[<-List.map_set];rfl,?_];generalize rs.set k x=rs at gj hr⊢;refine wF 0 rfl rfl #[ns,rfl,gs,pG gs,wF 2 rfl rfl ?_];refine#[.inr #[∅,∅],_,rfl,∅,∅,λb b0 b1=>?_];show aNs 8 [.sh (.op (aA0 K sc)),.sh (wK ns rs t m r ls),.sh .wl,.sh (.n k),.sh (.n n),.sh (.n z),.sh (.ls (plU ns)),.sh (dR t),.no,.no] _ (.sh (.n b));have nd:(cF ns).Nodup:=nQ (Dm _ _);have p40:=pG gs;have pl:∀p∈cF ns,p.length=ns.length:=λp hp=>(nM hp).1;have key:∀(t':Tm)(φ ψ:Int->Int)(g:List Int->List Int),(∀ys,eF t ys->gU ns rs t' m r ls)->ht t'<=4->Bij ns (λp=>mvP p k φ) g->(∀ys ys',eF t ys->eF t' ys'->Mvd ns rs ys ys' ls t t' k n x φ ψ g)->bCb (aWl (aSh (aFp P w N CG CJ) (sW (aR3 (aFq N CG CJ) (sW (aC2 1) aGa)) (sW (aR3 (aJd P w N CG CJ) (sW (aC2 1) (sW (aC2 7) (sW (aC2 9) aGa)))) (sW (aC2 1) (sW (aC2 9) aGa))))))
   {nx:=λ_=>False,rt:=λs=>s=.sh (.b true)} [.sh (.op (aA0 K sc)),.sh (wK ns rs t m r ls),.sh .wl,.sh (.n k),.sh (.n n),.sh (.n z),.sh (.ls (plU ns)),.sh (dR t'),.sh (.n b),.oo (tdO P w (sX ns λp=>mvP p k φ))]:=by
  intro t' φ ψ g gj' h4' bj mv;have nw:Nw (wK ns rs t' m r ls):=aSi;obtain⟨_,_,n3,_⟩:=nw;refine#[[.no,.sh (wK ns rs t m r ls),.no,.no,.no,.no,.no,.sh (dR t'),.no,.sh (.op (tdO P w (sX ns λp=>mvP p k φ)).fz)],.no (.sh (Wi.nw aSi) (.no (.no (.no (.no (.no (.sh (λ{_ _ _ _ _} h=>DU.nw _ n3 h) (.no (.sh (Wi.td aS5) .nil))))))))),?_];refine#[ns,rs,t,m,r,ls,rfl,gj,h4,λys ik=>?_];have gr:=(gj' ys ik).rows (g:=g);exact#[ns,rs,t,m,r,ls,t',_,g,rfl,gs,bj,λl hl=>by have:=(gj.rw_ l hl).1;have:=tE λn hn=>(gs.ok n hn).1;lia,gj.l3,gr,h4',λys' ik'=>#[ns,rs,t,t',m,r,ls,ys,ys',k,n,x,φ,ψ,g,rfl,gj.gp h4 ik,gr.gp h4' ik',mv ys ys' ik ik',rfl]]
 have ek:∀f:List Int->List Int,U.ls ([]++(cF ns).filterMap λp=>some (U.tp [pU p,pU (f p)]))=.ls ((sX ns f).map λp=> .tp [pcU p.1,p.2]):=λf=>by
  unfold sX;rw[Di,Gv,Ce];rfl
 refine#[by rw[Ab];lia,oO (B:=λp=>some (U.tp [pU p,pU (mvP p k λi=>(i+b) % n)])) (λp hp κ hk=>#[p,k,n,b,rfl,by rw[pl p hp];exact l3,by rw[pl p hp];exact kl,n9.1,hk]) #[_,ek _,by rw[aEq];exact nd,?_]];show aNs 9 [.sh (.op (aA0 K sc)),.sh (wK ns rs t m r ls),.sh .wl,.sh (.n k),.sh (.n n),.sh (.n z),.sh (.ls (plU ns)),.sh (dR t),.sh (.n b),.no] _ (.oo (tdO P w (sX ns λp=>mvP p k λi=>(i+b) % n)));refine#[trivial,trivial,λe=>?_,λe=>?_]
 ·rcases hx with ⟨rfl,rfl⟩|⟨rfl,rfl⟩
  ·exact Aa2 e #v[1]
  refine#[t,k,rfl,h4,λy hy=>by rw[gj.ln.2.1 y hy];exact#[kl,l3],?_];refine#[by rw[Ab];lia,oO (B:=λp=>some (U.tp [pU p,pU (mvP p k λi=>n-1-i)])) (λp hp κ hk=>#[p,k,n,rfl,by rw[pl p hp];exact l3,by rw[pl p hp];exact kl,hk]) #[_,ek _,by rw[aEq];exact nd,?_]];exact key (trT k t) _ _ _ (λys ik=>gj.tr ik) (by rw[aHd];exact h4) (aBx hn) λys ys' ik ik'=>aJp gj ik ik' hn hr
 ·rcases hx with ⟨rfl,rfl⟩|⟨rfl,rfl⟩
  ·exact key t _ _ _ (λ_ _=>gj) h4 (aD4 gs hn) λys ys' ik ik'=>aMs gj ik ik' hn hr
  ·exact Aa2 e #v[1]
def tag:Tm->Nat
 |.num _=>0
 |.take _ _=>1
 |.rest _ _=>2
 |.cho _ _ _=>3
 |.bin k _ _=>4+k.val
def aAq(N:Cn):List Addr:=[N.num,N.take,N.rest,N.cho,N.bin 0,N.bin 1,N.bin 2,N.bin 3,N.bin 4]
def aOt(N:Cn):∀t:Tm,(aAq N)[tag t]? =some (cls N t)
 |.num _=>rfl
 |.take _ _=>rfl
 |.rest _ _=>rfl
 |.cho _ _ _=>rfl
 |.bin k _ _=>by
  match k with
  |0=>rfl
  |1=>rfl
  |2=>rfl
  |3=>rfl
  |4=>rfl
def aCw{N:Cn}(nd:(aAq N).Nodup){t u:Tm}(h:cls N t=cls N u):tag t=tag u:=by
 have h1:=aOt N t;have h2:=aOt N u;rw[h]at h1;exact(List.getElem?_inj (Be.mp h1).1 nd).mp (h1.trans h2.symm)
def aJg{N:Cn}(nd:(aAq N).Nodup){t:Tm}(h:cls N t=N.num):∃n,t=.num n:=by
 have:=aCw nd (u:=.num 0) h;cases t<;>simp[tag]at this<;>first|exact#[_,rfl]|lia
def aA9{N:Cn}(nd:(aAq N).Nodup){t:Tm}(h:cls N t=N.take):∃b ss,t=.take b ss:=by
 have:=aCw nd (u:=.take 0 []) h;cases t<;>simp[tag]at this<;>first|exact#[_,_,rfl]|lia
def aFs{N:Cn}(nd:(aAq N).Nodup){t:Tm}(h:cls N t=N.rest):∃a y,t=.rest a y:=by
 have:=aCw nd (u:=.rest (.num 0) 0) h;cases t<;>simp[tag]at this<;>first|exact#[_,_,rfl]|lia
def aPu{N:Cn}(nd:(aAq N).Nodup){t:Tm}(h:cls N t=N.cho):∃a b c,t=.cho a b c:=by
 have:=aCw nd (u:=.cho (.num 0) (.num 0) (.num 0)) h;cases t<;>simp[tag]at this<;>first|exact#[_,_,_,rfl]|lia
def yS{N:Cn}(nd:(aAq N).Nodup){t:Tm}{k:Fin 5}(h:cls N t=N.bin k):∃a b,t=.bin k a b:=by
 have:=aCw nd (u:=.bin k (.num 0) (.num 0)) h;cases t with
 |bin j a b=>
  have e:j=k:=Fin.ext (by simp only[tag]at this;lia);exact#[a,b,by rw[e]]
 |_=>simp[tag]at this<;>lia
def knS{n:Nat}{P:List Value->Prop}(h:us.length=n+1)(k:∀a t,t.length=n->P (a::t)):P us:=by
 cases us with
 |nil=>cases h
 |cons a t=>exact k a t (Dw h)
def kn1{P:List Value->Prop}(h:us.length=1)(k:∀a,P [a]):P us:=knS h λa t ht=>by cases t with|nil=>exact k a|cons=>cases ht
def kn2{P:List Value->Prop}(h:us.length=2)(k:∀a b,P [a,b]):P us:=knS h λa t ht=>kn1 (P:=λt=>P (a::t)) ht λb=>k a b
def kn3{P:List Value->Prop}(h:us.length=3)(k:∀a b c,P [a,b,c]):P us:=knS h λa t ht=>kn2 (P:=λt=>P (a::t)) ht λb c=>k a b c
def kn4{P:List Value->Prop}(h:us.length=4)(k:∀a b c d,P [a,b,c,d]):P us:=knS h λa t ht=>kn3 (P:=λt=>P (a::t)) ht λb c d=>k a b c d
def kn5{P:List Value->Prop}(h:us.length=5)(k:∀a b c d e,P [a,b,c,d,e]):P us:=knS h λa t ht=>kn4 (P:=λt=>P (a::t)) ht λb c d e=>k a b c d e
def kn6{P:List Value->Prop}(h:us.length=6)(k:∀a b c d e f,P [a,b,c,d,e,f]):P us:=knS h λa t ht=>kn5 (P:=λt=>P (a::t)) ht λb c d e f=>k a b c d e f
def kb1{fd:FuncData}(h:us.length=1)(k:∀a,Fd fd #[[a],[]]=pure (ps.zip [a])):Fd fd #[us,[]]=pure (ps.zip us):=kn1 (P:=λus=>Fd fd #[us,[]]=pure (ps.zip us)) h k
def kb2{fd:FuncData}(h:us.length=2)(k:∀a b,Fd fd #[[a,b],[]]=pure (ps.zip [a,b])):Fd fd #[us,[]]=pure (ps.zip us):=kn2 (P:=λus=>Fd fd #[us,[]]=pure (ps.zip us)) h k
def kb3{fd:FuncData}(h:us.length=3)(k:∀a b c,Fd fd #[[a,b,c],[]]=pure (ps.zip [a,b,c])):Fd fd #[us,[]]=pure (ps.zip us):=kn3 (P:=λus=>Fd fd #[us,[]]=pure (ps.zip us)) h k
def kb4{fd:FuncData}(h:us.length=4)(k:∀a b c d,Fd fd #[[a,b,c,d],[]]=pure (ps.zip [a,b,c,d])):Fd fd #[us,[]]=pure (ps.zip us):=kn4 (P:=λus=>Fd fd #[us,[]]=pure (ps.zip us)) h k
def kb6{fd:FuncData}(h:us.length=6)(k:∀a b c d e f,Fd fd #[[a,b,c,d,e,f],[]]=pure (ps.zip [a,b,c,d,e,f])):Fd fd #[us,[]]=pure (ps.zip us):=kn6 (P:=λus=>Fd fd #[us,[]]=pure (ps.zip us)) h k
abbrev GN(K:Ac)(n:Str)(f:Addr):Prop:=Qp K mainGlobals n=some (some (.ref f))
abbrev FI(K:Ac)(C:Addr)(n:Str)(f:Addr):Prop:=Ea K (.ref C) n=some (some (.ref f))
abbrev ZN(K:Ac)(n:Str):Prop:=Qp K mainGlobals n=some none
abbrev QN(K:Ac)(n:Str)(i:Int)(t:Tok):Prop:=Qp K mainGlobals n=some (some (.int i t))
structure FF(K:Ac)(x:Str)(st:Stmt)(f:Addr)(fd:FuncData):Prop where
 a:GN K x f
 F:Fun K x x st f fd
structure MF(K:Ac)(C:Addr)(x q:Str)(st:Stmt)(f:Addr)(fd:FuncData):Prop where
 m:Meth K C x f
 F:Fun K x q st f fd
structure CK(K:Ac)(C:Addr)(fs:List Str):Prop where
 c:Cls K C
 na:∀f∈fs,nG K C f
 ms:Oc K C=true
 kc:Hi K (.ref C)=true
def CK.fl{K:Ac}{C:Addr}(h:CK K C fs):Cfl K C fs:=#[h.c,h.na]
def na0{K:Ac}{C:Addr}:∀f∈([]:List Str),nG K C f:=λ_ h=>nomatch h
def naS{K:Ac}{C:Addr}{x:Str}{l:List Str}(h:Ea K (.ref C) x=some none)(k:∀f∈l,nG K C f):∀f∈x::l,nG K C f:=λf hf=>(Ax.mp hf).elim (λe=>e▸h) (k f)
def mth{K:Ac}{C D f:Addr}{n:Str}(h:Meth K C n f)(g:FI K D n f):Meth K D n f:=#[g,h.fn,h.kp]
def mkO{K:Ac}{C f:Addr}(h:CK K C fs)(g:Meth K C "__init__" f):Mk K C f:=#[h.ms,g.at_,g.fn,h.kc]
def fb1(a:Str){st:Stmt}{f:Addr}{fd:FuncData}(F:Fun K x q st f fd)(h:∀kV doc pm an af ct u,Fd (Ca x q (bQ st) (bG st) (aC st) .none kV doc pm an af ct) #[[u],[]]=pure ([a].zip [u]):=by intros;rfl):Binds K fd [a] []:=F.binds λ_ _ _ _ _ _ us hl=>kb1 hl (h _ _ _ _ _ _)
def fb2(a b:Str){st:Stmt}{f:Addr}{fd:FuncData}(F:Fun K x q st f fd)(h:∀kV doc pm an af ct u v,Fd (Ca x q (bQ st) (bG st) (aC st) .none kV doc pm an af ct) #[[u,v],[]]=pure ([a,b].zip [u,v]):=by intros;rfl):Binds K fd [a,b] []:=F.binds λ_ _ _ _ _ _ us hl=>kb2 hl (h _ _ _ _ _ _)
def fb3(a b c:Str){st:Stmt}{f:Addr}{fd:FuncData}(F:Fun K x q st f fd)(h:∀kV doc pm an af ct u v y,Fd (Ca x q (bQ st) (bG st) (aC st) .none kV doc pm an af ct) #[[u,v,y],[]]=pure ([a,b,c].zip [u,v,y]):=by intros;rfl):Binds K fd [a,b,c] []:=F.binds λ_ _ _ _ _ _ us hl=>kb3 hl (h _ _ _ _ _ _)
def fb4(a b c d:Str){st:Stmt}{f:Addr}{fd:FuncData}(F:Fun K x q st f fd)(h:∀kV doc pm an af ct u v y z,Fd (Ca x q (bQ st) (bG st) (aC st) .none kV doc pm an af ct) #[[u,v,y,z],[]]=pure ([a,b,c,d].zip [u,v,y,z]):=by intros;rfl):Binds K fd [a,b,c,d] []:=F.binds λ_ _ _ _ _ _ us hl=>kb4 hl (h _ _ _ _ _ _)
def fb6(a b c d e g:Str){st:Stmt}{f:Addr}{fd:FuncData}(F:Fun K x q st f fd)(h:∀kV doc pm an af ct u v y z o p,Fd (Ca x q (bQ st) (bG st) (aC st) .none kV doc pm an af ct) #[[u,v,y,z,o,p],[]]=pure ([a,b,c,d,e,g].zip [u,v,y,z,o,p]):=by intros;rfl):Binds K fd [a,b,c,d,e,g] []:=F.binds λ_ _ _ _ _ _ us hl=>kb6 hl (h _ _ _ _ _ _)
def dU{CX:CXT}{k:Nat}{f:Addr}{fd:FuncData}{sp:Sp}(h:∀vs H Q E,¬sp vs H Q E):aX P w K mg base CX k f fd ps sp:=
 #[λvs H Q E z=>Aa2 z (h vs H Q E),λ_ _ _ H _ _ vs Q E _ _ _ _ z=>Aa2 z (h vs H Q E)]
def aMg(nd:(aAq N).Nodup)(F1:Fun K "inner" "Term.inner" mX f1 g1)(F2:Fun K "inner" "Paired.inner" jR f2 g2)(F3:Fun K "inner" "Rest.inner" mV f3 g3)(F4:Fun K "inner" "Chosen.inner" jL f4 g4)
  (cl:∀C,IsC N C->Cls K C) (c3:Cfl K N.rest ["one","by"]) (c4:Cfl K N.cho ["test","one","other"]) (c5:∀k,Cfl K (N.bin k) ["one","other"])
  (m1:Meth K N.num "inner" f1) (m2:Meth K N.take "inner" f1) (m3:Meth K N.rest "inner" f3) (m4:Meth K N.cho "inner" f4) (m5:∀k,Meth K (N.bin k) "inner" f2):lO P w K mg base N 1 "inner" (jG N):=by
 refine#[λC hC=>#[cl C hC,?_]];rcases hC with rfl|rfl|rfl|rfl|⟨k,rfl⟩
 ·exact#[f1,g1,m1,aEs F1 (λt h=>by obtain⟨n,rfl⟩:=aJg nd h;rfl),fb1 "self" F1]
 ·exact#[f1,g1,m2,aEs F1 (λt h=>by obtain⟨b,ss,rfl⟩:=aA9 nd h;rfl),fb1 "self" F1]
 ·exact#[f3,g3,m3,aM2 F3 c3 λt h=>aFs nd h,fb1 "self" F3]
 ·exact#[f4,g4,m4,aMv F4 c4 λt h=>aPu nd h,fb1 "self" F4]
 ·exact#[f2,g2,m5 k,aMz F2 (c5 k) λt h=>yS nd h,fb1 "self" F2]
theorem aEd{f1 f2:Addr}{g1 g2:FuncData}(nd:(aAq N).Nodup)(F1:Fun K "takes" "Term.takes" mY f1 g1)(F2:Fun K "takes" "Take.takes" mW f2 g2)(cl:∀C,IsC N C->Cls K C)(c2:Cfl K N.take ["back","steps"])
  (m1:∀C,IsC N C->C≠N.take->Meth K C "takes" f1) (m2:Meth K N.take "takes" f2) (dF:lO P w K mg base N 1 "inner" (jG N)) (T:Txt mg):∀d,lO P w K mg base N (d+1) "takes" (tM N d)
 |0=>⟨λC hC=>⟨cl C hC,by
   have no:∀vs H Q E,¬spV (tM N 0 C) vs H Q E:=λvs H Q E ⟨_,_,_,_,_,_,⟨t,_,_,h,_⟩,_⟩=>Aa2 (tQ t) ∅;by_cases e:C=N.take
   ·subst e;exact#[f2,g2,m2,dU no,fb1 "self" F2]
   ·exact#[f1,g1,m1 C hC e,dU no,fb1 "self" F1]⟩⟩
 |d+1=>⟨λC hC=>⟨cl C hC,by
   by_cases e:C=N.take
   ·subst e;exact#[f2,g2,m2,aMx F2 c2 λt h=>aA9 nd h,fb1 "self" F2]
   ·exact#[f1,g1,m1 C hC e,aM7 F1 (λt h b ss z=>e (by rw[<-h,z];rfl)) dF (aEd nd F1 F2 cl c2 m1 m2 dF T d) T,fb1 "self" F1]⟩⟩
theorem aEb{f1:Addr}{g1:FuncData}(F1:Fun K "depth" "Term.depth" jT f1 g1)(cl:∀C,IsC N C->Cls K C)(m1:∀C,IsC N C->Meth K C "depth" f1)(dF:lO P w K mg base N 1 "inner" (jG N))(T:Txt mg):∀d,lO P w K mg base N (d+1) "depth" (aG7 N ht d)
 |0=>#[λC hC=>#[cl C hC,f1,g1,m1 C hC,dU (λvs H Q E ⟨_,_,_,_,_,_,⟨t,_,_,h,_⟩,_⟩=>Aa2 (tQ t) ∅),fb1 "self" F1]]
 |d+1=>#[λC hC=>#[cl C hC,f1,g1,m1 C hC,aM5 F1 dF (aEb F1 cl m1 dF T d) T,fb1 "self" F1]]
theorem aEc{f1:Addr}{g1:FuncData}(F1:Fun K "parts" "Term.parts" jU f1 g1)(cl:∀C,IsC N C->Cls K C)(m1:∀C,IsC N C->Meth K C "parts" f1)(dF:lO P w K mg base N 1 "inner" (jG N))(T:Txt mg):∀d,lO P w K mg base N (d+1) "parts" (aG7 N iJ d)
 |0=>#[λC hC=>#[cl C hC,f1,g1,m1 C hC,dU (λvs H Q E ⟨_,_,_,_,_,_,⟨t,_,_,h,_⟩,_⟩=>Aa2 (tQ t) ∅),fb1 "self" F1]]
 |d+1=>#[λC hC=>#[cl C hC,f1,g1,m1 C hC,aM6 F1 dF (aEc F1 cl m1 dF T d) T,fb1 "self" F1]]
theorem aOo{f:Addr}{fd:FuncData}(F:Fun K "first_fault" "first_fault" lB f fd)(m:mg "first_fault"=some (.ref f))(dF:lO P w K mg base N 1 "inner" (jG N))(aKk:lO P w K mg base N 4 "own_fault" (tL N)):∀d,⇑(d+4) "first_fault" ["term"] (spV (fFF N d))
 |0=>#[_,_,dU (λvs H Q E ⟨_,_,_,_,_,_,⟨t,_,h,_⟩,_⟩=>Aa2 (tQ t) ∅),m,F.kp,fb1 "term" F]
 |d+1=>#[_,_,bAm F (aOo F m dF aKk d) dF aKk,m,F.kp,fb1 "term" F]
def aMf(nd:(aAq N).Nodup)(F1:Fun K "own_fault" "Term.own_fault" gJ f1 g1)(F2:Fun K "own_fault" "Number.own_fault" eU f2 g2)(F3:Fun K "own_fault" "Take.own_fault" gH f3 g3)(F4:Fun K "own_fault" "Rest.own_fault" gG f4 g4)
  (cl:∀C,IsC N C->Cls K C) (c1:Cfl K N.num ["value"]) (c2:Cfl K N.take ["back","steps"]) (c3:Cfl K N.rest ["one","by"])
  (c_within:⇑2 "is_within" PW3 (spV jH)) (aSs:⇑3 "are_steps" ["thing"] (spV aJc)) (T:Txt mg)
  (m1:Meth K N.num "own_fault" f2) (m2:Meth K N.take "own_fault" f3) (m3:Meth K N.rest "own_fault" f4) (m4:Meth K N.cho "own_fault" f1) (m5:∀k,Meth K (N.bin k) "own_fault" f1):lO P w K mg base N 4 "own_fault" (tL N):=by
 refine#[λC hC=>#[cl C hC,?_]];rcases hC with rfl|rfl|rfl|rfl|⟨k,rfl⟩
 ·exact#[f2,g2,m1,aMy F2 c1 (λt h=>aJg nd h) c_within T,fb1 "self" F2]
 ·exact#[f3,g3,m2,aMw F3 c2 (λt h=>aA9 nd h) c_within aSs T,fb1 "self" F3]
 ·exact#[f4,g4,m3,aM1 F4 c3 (λt h=>aFs nd h) c_within T,fb1 "self" F4]
 ·exact#[f1,g1,m4,aEr F1,fb1 "self" F1]
 ·exact#[f1,g1,m5 k,aEr F1,fb1 "self" F1]
def aVu{CR f:Addr}{fd:FuncData}{k:Nat}{m:Str}{ps:List Str}{sp:Sp}(cl:Cls K CR)(h:Meth K CR m f)(b:Binds K fd ps [])(F:↥k f fd ps sp):Dis P w K mg base CX0 k (·=CR) m ps λ_=>sp:=⟨λC hC=>by
 have hC:C=CR:=hC;subst hC;exact#[cl,f,fd,h,F,b]⟩
theorem aEe{fN fK fR fC f0 f1 f2 f3 f4:Addr}{gN gK gR gC g0 g1 g2 g3 g4:FuncData}{L:Lm}(nd:(aAq N).Nodup)(FN:Fun K "value_by" "Number.value_by" fM fN gN)(FK:Fun K "value_by" "Take.value_by" iV fK gK)(FR:Fun K "value_by" "Rest.value_by" iU fR gR)(FC:Fun K "value_by" "Chosen.value_by" fL fC gC)(F0:Fun K "value_by" "Added.value_by" gD f0 g0)(F1:Fun K "value_by" "Lessened.value_by" eO f1 g1)(F2:Fun K "value_by" "Multiplied.value_by" dX f2 g2)(F3:Fun K "value_by" "Least.value_by" gF f3 g3)(F4:Fun K "value_by" "Most.value_by" iT f4 g4)
  (cl:∀C,IsC N C->Cls K C) (c1:Cfl K N.num ["value"]) (c2:Cfl K N.take ["back","steps"]) (c3:Cfl K N.rest ["one","by"]) (c4:Cfl K N.cho ["test","one","other"]) (c5:∀k,Cfl K (N.bin k) ["one","other"])
  (mN:Meth K N.num "value_by" fN) (mK:Meth K N.take "value_by" fK) (mR:Meth K N.rest "value_by" fR) (mC:Meth K N.cho "value_by" fC) (m0:Meth K (N.bin 0) "value_by" f0) (m1:Meth K (N.bin 1) "value_by" f1) (m2:Meth K (N.bin 2) "value_by" f2) (m3:Meth K (N.bin 3) "value_by" f3) (m4:Meth K (N.bin 4) "value_by" f4) (oL:aGo L) (T:Txt mg) (see:∀z,aGn base z->↥1 z.fl (L.fd z) [L.x] (aH0 P w L z)):∀d,d<=6->yH P w K mg base (d+1) (IsC N) "value_by" VPs (aGn base) λz C=>spV (wX P w N L z d C)
 |0,_=>⟨λC hC=>⟨cl C hC,by
   have no:∀z vs H Q E,¬spV (wX P w N L z 0 C) vs H Q E:=λz vs H Q E ⟨_,_,_,_,_,_,⟨t,_,_,_,_,h,_⟩,_⟩=>Aa2 (tQ t) ∅;rcases hC with rfl|rfl|rfl|rfl|⟨k,rfl⟩
   ·exact#[_,_,mN,λz _=>dU (no z),fb2 "self" "see" FN]
   ·exact#[_,_,mK,λz _=>dU (no z),fb2 "self" "see" FK]
   ·exact#[_,_,mR,λz _=>dU (no z),fb2 "self" "see" FR]
   ·exact#[_,_,mC,λz _=>dU (no z),fb2 "self" "see" FC]
   ·match k with
    |0=>exact#[_,_,m0,λz _=>dU (no z),fb2 "self" "see" F0]
    |1=>exact#[_,_,m1,λz _=>dU (no z),fb2 "self" "see" F1]
    |2=>exact#[_,_,m2,λz _=>dU (no z),fb2 "self" "see" F2]
    |3=>exact#[_,_,m3,λz _=>dU (no z),fb2 "self" "see" F3]
    |4=>exact#[_,_,m4,λz _=>dU (no z),fb2 "self" "see" F4]⟩⟩
 |d+1,hd=>⟨λC hC=>⟨cl C hC,by
   have D:=aEe nd FN FK FR FC F0 F1 F2 F3 F4 cl c1 c2 c3 c4 c5 mN mK mR mC m0 m1 m2 m3 m4 oL T see d ∅;rcases hC with rfl|rfl|rfl|rfl|⟨k,rfl⟩
   ·exact#[_,_,mN,λz hz=>aTg FN c1 (λt h=>aJg nd h),fb2 "self" "see" FN]
   ·exact#[_,_,mK,λz hz=>aTc FK c2 (λt h=>aA9 nd h) oL (see z hz),fb2 "self" "see" FK]
   ·exact#[_,_,mR,λz hz=>aTj FR c3 (λt h=>aFs nd h) (D.one hz),fb2 "self" "see" FR]
   ·exact#[_,_,mC,λz hz=>aS9 FC c4 (λt h=>aPu nd h) (D.one hz),fb2 "self" "see" FC]
   ·match k with
    |0=>exact#[_,_,m0,λz hz=>aP8 F0 (c5 0) (λt h=>yS nd h) (D.one hz),fb2 "self" "see" F0]
    |1=>exact#[_,_,m1,λz hz=>aP9 F1 (c5 1) (λt h=>yS nd h) (D.one hz),fb2 "self" "see" F1]
    |2=>exact#[_,_,m2,λz hz=>aQa F2 (c5 2) (λt h=>yS nd h) (D.one hz) ∅,fb2 "self" "see" F2]
    |3=>exact#[_,_,m3,λz hz=>aQb F3 (c5 3) (λt h=>yS nd h) (D.one hz) T,fb2 "self" "see" F3]
    |4=>exact#[_,_,m4,λz hz=>aQc F4 (c5 4) (λt h=>yS nd h) (D.one hz) T,fb2 "self" "see" F4]⟩⟩
theorem aGx{f:Addr}{fd:FuncData}(F:Fun K "_law_told" "_law_told" oY f fd)(m:mg "_law_told"=some (.ref f))(c1:⇑1 "_law_draw" ["_law_well_here","_law_most"] (spV vG))(c2:⇑2 "_law_number" ["_law_well_here"] (spV aO9))(T:Txt mg):∀d,⇑(d+2) "_law_told" ["_law_well_here","_law_some","_law_deep"] (spV (aK1 d))
 |0=>#[_,_,dU (λvs H Q E ⟨_,_,_,_,_,_,⟨e,_,_,h,_⟩,_⟩=>Aa2 h ∅),m,F.kp,fb3 _ _ _ F]
 |d+1=>#[_,_,aTk F c1 c2 (aGx F m c1 c2 T d) T,m,F.kp,fb3 _ _ _ F]
theorem aGw{f:Addr}{fd:FuncData}(F:Fun K "_law_made" "_law_made" oX f fd)(m:mg "_law_made"=some (.ref f))(M0:MkB P w K mg base N.num "Number" ["value"])(M1:MkB P w K mg base N.take "Take" ["back","steps"])(M2:MkB P w K mg base N.rest "Rest" ["one","by"])(M3:MkB P w K mg base N.cho "Chosen" ["test","one","other"])(M4:MkB P w K mg base (N.bin 0) "Added" ["one","other"])(M5:MkB P w K mg base (N.bin 1) "Lessened" ["one","other"])(M6:MkB P w K mg base (N.bin 2) "Multiplied" ["one","other"])(M7:MkB P w K mg base (N.bin 3) "Least" ["one","other"])(M8:MkB P w K mg base (N.bin 4) "Most" ["one","other"])(T:Txt mg):∀d,⇑(d+2) "_law_made" ["_law_told_here"] (spV (aKz N d))
 |0=>#[_,_,dU (λvs H Q E ⟨_,_,_,_,_,_,⟨t,_,h,_⟩,_⟩=>Aa2 (tQ t) ∅),m,F.kp,fb1 _ F]
 |d+1=>#[_,_,aTd F M0 M1 M2 M3 M4 M5 M6 M7 M8 (aGw F m M0 M1 M2 M3 M4 M5 M6 M7 M8 T d) T,m,F.kp,fb1 _ F]
theorem aD9{f:Addr}{fd:FuncData}(F:Fun K "_law_takes" "_law_takes" nC f fd)(m:mg "_law_takes"=some (.ref f))(T:Txt mg):∀d,⇑(d+1) "_law_takes" ["_law_told_here"] (spV (aA5 d))
 |0=>#[_,_,dU (λvs H Q E ⟨_,_,_,_,_,_,⟨t,_,h,_⟩,_⟩=>Aa2 (tQ t) ∅),m,F.kp,fb1 _ F]
 |d+1=>#[_,_,aM4 F (aD9 F m T d) T,m,F.kp,fb1 _ F]
theorem aGy{f:Addr}{fd:FuncData}(F:Fun K "_law_turned_steps" "_law_turned_steps" dD f fd)(m:mg "_law_turned_steps"=some (.ref f))(T:Txt mg):∀d,⇑(d+1) "_law_turned_steps" ["_law_told_here","_law_line"] (spV (aK2 d))
 |0=>#[_,_,dU (λvs H Q E ⟨_,_,_,_,_,_,⟨t,_,_,h,_⟩,_⟩=>Aa2 (tQ t) ∅),m,F.kp,fb2 _ _ F]
 |d+1=>#[_,_,aTl F (aGy F m T d) T,m,F.kp,fb2 _ _ F]
def aS4{P1 P2:Addr}{H:Hp}{a:Addr}{ns:List Int}{E:XK}(hP:∀Pt∈[P1,P2],H Pt=some (.tbl (List.toArray [])))(h:SqL K H a (ns.map V.int)):aNi P1 P2 (λus=>∃sc:List Int,us=[.op (aA0 K sc)]) [.ref a] H (λv _=>v=.bl true) E:=by
 have h1:=hP P1 Ag;have h2:=hP P2 (Ah _ Ag);have no:∀Pt,H Pt=some (.tbl (List.toArray []))->Rd H a (.lst (ns.map V.int))->a≠Pt:=λPt hp h e=>by
  subst e;rcases h with h|⟨o,h⟩<;>(rw[hp]at h;cases h)
 exact#[h1,h2,#[[.op (aA0 K ns)],#[_,_,rfl,#[a,rfl,h.imp (λh=>#[λz=>z.elim (no _ h1 h) (no _ h2 h),h]) λh _=> .inr h],rfl],ns,rfl],λ_=>rfl]
def aWs{l:W.OpenLaw}{w:Bd}{K:W.Frag}{mg:Str->#v[9]}{fa Cnum Ctake Crest Ccho Cb0 Cb1 Cb2 Cb3 Cb4 CG CJ f10 f11 f12 f13 f14 f15 f16 f17 f18 f19 f20 f21 f22 f23 f24 f25 f26 f27 f28 f29 f30 f31 f32 f33 f34 f35 f36 f37 f38 f39 f40 f41 f42 f43 f44 f45 f46 f47 f48 f49 f50 f51 f52 f53 f54 f55 f56 f57 f58 f59 f60 f61 f62 f63 f64 f65 f66 f67 f68 f69 f70 f71 f72 f73 f74 f75 f76 f77 f78 f79 f80 f81 f82 f83 f84 f85:Addr}{cc0 P0 cc1 P1 cc2 cc3 cc4:Addr}(X:K.In h)(G:h.Ns mainGlobals mg)(hfa:mg "law"=some (.ref fa))
  (aCnum:GN K "Number" Cnum) (aCtake:GN K "Take" Ctake) (aCrest:GN K "Rest" Crest) (aCcho:GN K "Chosen" Ccho)
  (aCb0:GN K "Added" Cb0) (aCb1:GN K "Lessened" Cb1) (aCb2:GN K "Multiplied" Cb2) (aCb3:GN K "Least" Cb3)
  (aCb4:GN K "Most" Cb4) (aCG:GN K "Grid" CG) (aCJ:GN K "Job" CJ) (F10:FF K "is_whole" vY f10 g10)
  (F11:FF K "is_within" uE f11 g11) (F12:FF K "is_rim" aCt f12 g12) (F13:FF K "product" zH f13 g13) (F14:FF K "check_lines" pR f14 g14)
  (F15:FF K "are_steps" oZ f15 g15) (F16:FF K "lines_of" rN f16 g16) (F17:FF K "first_fault" lB f17 g17) (F18:FF K "check_term" rM f18 g18)
  (F19:FF K "is_row" xQ f19 g19) (F20:FF K "are_rows" rK f20 g20) (F21:FF K "number_by_rim" lX f21 g21) (F22:FF K "mirrored" vZ f22 g22)
  (F23:FF K "with_line" uF f23 g23) (F24:FF K "_law_cell_at" oA f24 g24) (F25:FF K "_law_well" uD f25 g25) (F26:FF K "_law_draw" uC f26 g26)
  (F27:FF K "_law_sizes" rJ f27 g27) (F28:FF K "_law_rim" vX f28 g28) (F29:FF K "_law_steps" mZ f29 g29) (F30:FF K "_law_some_takes" fO f30 g30)
  (F31:FF K "_law_number" pQ f31 g31) (F32:FF K "_law_told" oY f32 g32) (F33:FF K "_law_made" oX f33 g33) (F34:FF K "_law_takes" nC f34 g34)
  (F35:FF K "_law_job" jB f35 g35) (F36:FF K "_law_job_of" kZ f36 g36) (F37:FF K "_law_places" lA f37 g37) (F38:FF K "_law_moved" rH f38 g38)
  (F39:FF K "_law_about" rG f39 g39) (F40:FF K "_law_turned_steps" dD f40 g40) (F41:FF K "_law_with" lK f41 g41) (F42:MF K Cnum "inner" "Term.inner" mX f42 g42)
  (F43:MF K Cnum "takes" "Term.takes" mY f43 g43) (F44:MF K Cnum "depth" "Term.depth" jT f44 g44) (F45:MF K Cnum "parts" "Term.parts" jU f45 g45) (F46:MF K Ccho "own_fault" "Term.own_fault" gJ f46 g46)
  (F47:MF K Cnum "__init__" "Number.__init__" jP f47 g47) (F48:MF K Cnum "own_fault" "Number.own_fault" eU f48 g48) (F49:MF K Ctake "__init__" "Take.__init__" lW f49 g49) (F50:MF K Ctake "takes" "Take.takes" mW f50 g50)
  (F51:MF K Ctake "own_fault" "Take.own_fault" gH f51 g51) (F52:MF K Cb0 "__init__" "Paired.__init__" jQ f52 g52) (F53:MF K Cb0 "inner" "Paired.inner" jR f53 g53) (F54:MF K Crest "__init__" "Rest.__init__" lV f54 g54)
  (F55:MF K Crest "inner" "Rest.inner" mV f55 g55) (F56:MF K Crest "own_fault" "Rest.own_fault" gG f56 g56) (F57:MF K Ccho "__init__" "Chosen.__init__" jK f57 g57) (F58:MF K Ccho "inner" "Chosen.inner" jL f58 g58)
  (F59:MF K CG "__init__" "Grid.__init__" lR f59 g59) (F60:MF K CG "lines" "Grid.lines" rE f60 g60) (F61:MF K CG "places_many" "Grid.places_many" jA f61 g61) (F62:MF K CJ "__init__" "Job.__init__" jN f62 g62)
  (F63:MF K CJ "deep" "Job.deep" rF f63 g63) (F64:MF K CG "beside" "Grid.beside" pP f64 g64) (F65:MF K CG "all_places" "Grid.all_places" jM f65 g65) (F66:MF K CG "place_number" "Grid.place_number" iB f66 g66)
  (F67:MF K CJ "where" "Job.where" uB f67 g67) (F68:MF K CJ "reads_of" "Job.reads_of" jO f68 g68) (F69:MF K CJ "all_spots" "Job.all_spots" iR f69 g69) (F70:MF K CJ "first_row" "Job.first_row" lU f70 g70)
  (F71:MF K CJ "worth_read" "Job.worth_read" kW f71 g71) (F72:MF K Cnum "value_by" "Number.value_by" fM f72 g72) (F73:MF K Ctake "value_by" "Take.value_by" iV f73 g73) (F74:MF K Crest "value_by" "Rest.value_by" iU f74 g74)
  (F75:MF K Ccho "value_by" "Chosen.value_by" fL f75 g75) (F76:MF K Cb0 "value_by" "Added.value_by" gD f76 g76) (F77:MF K Cb1 "value_by" "Lessened.value_by" eO f77 g77) (F78:MF K Cb2 "value_by" "Multiplied.value_by" dX f78 g78)
  (F79:MF K Cb3 "value_by" "Least.value_by" gF f79 g79) (F80:MF K Cb4 "value_by" "Most.value_by" iT f80 g80) (kCnum:CK K Cnum ["value"]) (kCtake:CK K Ctake ["back","steps"])
  (kCrest:CK K Crest ["one","by"]) (kCcho:CK K Ccho ["test","one","other"]) (kCb0:CK K Cb0 ["one","other"]) (kCb1:CK K Cb1 ["one","other"])
  (kCb2:CK K Cb2 ["one","other"]) (kCb3:CK K Cb3 ["one","other"]) (kCb4:CK K Cb4 ["one","other"]) (kCG:CK K CG ["sizes","rims"])
  (kCJ:CK K CJ ["taken","grid","term","modulus","rounds","first"]) (e0:FI K Cb1 "__init__" f52) (e1:FI K Cb2 "__init__" f52) (e2:FI K Cb3 "__init__" f52)
  (e3:FI K Cb4 "__init__" f52) (e4:FI K Ctake "inner" f42) (e5:FI K Cb1 "inner" f53) (e6:FI K Cb2 "inner" f53)
  (e7:FI K Cb3 "inner" f53) (e8:FI K Cb4 "inner" f53) (e9:FI K Crest "takes" f43) (e10:FI K Ccho "takes" f43)
  (e11:FI K Cb0 "takes" f43) (e12:FI K Cb1 "takes" f43) (e13:FI K Cb2 "takes" f43) (e14:FI K Cb3 "takes" f43)
  (e15:FI K Cb4 "takes" f43) (e16:FI K Ctake "depth" f44) (e17:FI K Crest "depth" f44) (e18:FI K Ccho "depth" f44)
  (e19:FI K Cb0 "depth" f44) (e20:FI K Cb1 "depth" f44) (e21:FI K Cb2 "depth" f44) (e22:FI K Cb3 "depth" f44)
  (e23:FI K Cb4 "depth" f44) (e24:FI K Ctake "parts" f45) (e25:FI K Crest "parts" f45) (e26:FI K Ccho "parts" f45)
  (e27:FI K Cb0 "parts" f45) (e28:FI K Cb1 "parts" f45) (e29:FI K Cb2 "parts" f45) (e30:FI K Cb3 "parts" f45)
  (e31:FI K Cb4 "parts" f45) (e32:FI K Cb0 "own_fault" f46) (e33:FI K Cb1 "own_fault" f46) (e34:FI K Cb2 "own_fault" f46)
  (e35:FI K Cb3 "own_fault" f46) (e36:FI K Cb4 "own_fault" f46) (nd:[Cnum,Ctake,Crest,Ccho,Cb0,Cb1,Cb2,Cb3,Cb4].Nodup) (z0:ZN K "isinstance")
  (z1:ZN K "int") (z2:ZN K "bool") (z3:ZN K "str") (z4:ZN K "tuple")
  (z5:ZN K "list") (z6:ZN K "len") (z7:ZN K "range") (z8:ZN K "enumerate")
  (z9:ZN K "max") (z10:ZN K "min") (z11:ZN K "sorted") (z12:ZN K "sum")
  (z13:ZN K "set") (z14:ZN K "all") (z15:ZN K "any") (z16:ZN K "zip")
  (z17:ZN K "abs") (z18:ZN K "dict") (q0:QN K "GREATEST_NUMBER" 1000000000000 t0) (q1:QN K "GREATEST_DIVISOR" 1000000000 t1)
  (q2:QN K "GREATEST_BACK" 3 t2) (q3:QN K "GREATEST_STEP" 9 t3) (q4:QN K "MOST_STEPS" 3 t4) (q5:QN K "MOST_DEPTH" 12 t5)
  (q6:QN K "MOST_PARTS" 60 t6) (q7:QN K "MOST_TAKES" 6 t7) (q8:QN K "GREATEST_MODULUS" 1000000000 t8) (q9:QN K "MOST_ROUNDS" 12 t9)
  (q10:QN K "MOST_SPOTS" 120 t10) (q11:QN K "GREATEST_FIXED" 1000000000 t11) (q12:QN K "MOST_LINES" 3 t12) (q13:QN K "GREATEST_SIZE" 9 t13)
  (q14:QN K "MOST_PLACES" 40 t14) (M81:Meth K CJ "next_worth" f81) (l_jnw:K.lookup f81=some #[oc0,od0,.func (Vr "next_worth" "Job.next_worth" (bQ bB) (bG bB) (aC bB) .none kV0 dc0 pm0 an0 (.ref cc0) ct0),sl0]) (c81:Sk K (.ref cc0) "Job.next_worth"=true)
  (k_jnw:Sj K (.ref f81)=true) (td_jnw:Ry K cc0 P0=true) (tn_jnw:K.lookup P0=none) (a82:GN K "plain_worths" f82)
  (l_pw:K.lookup f82=some #[oc1,od1,.func (Vr "plain_worths" "plain_worths" (bQ bM) (bG bM) (aC bM) .none kV1 dc1 pm1 an1 (.ref cc1) ct1),sl1]) (c82:Sk K (.ref cc1) "plain_worths"=true) (k_pw:Sj K (.ref f82)=true) (td_pw:Ry K cc1 P1=true)
  (tn_pw:K.lookup P1=none) (a83:GN K "plain_round" f83) (l_pr:K.lookup f83=some #[oc2,od2,.func (Vr "plain_round" "plain_round" (bQ cD) (bG cD) (aC cD) .none kV2 dc2 pm2 an2 (.ref cc2) ct2),sl2]) (c83:Sk K (.ref cc2) "plain_round"=true)
  (k_pr:Sj K (.ref f83)=true) (a84:GN K "_law_agree" f84) (l_ag:K.lookup f84=some #[oc3,od3,.func (Vr "_law_agree" "_law_agree" (bQ cM) (bG cM) (aC cM) .none kV3 dc3 pm3 an3 (.ref cc3) ct3),sl3]) (c84:Sk K (.ref cc3) "_law_agree"=true)
  (k_ag:Sj K (.ref f84)=true) (a85:GN K "law" f85) (l_law:K.lookup f85=some #[oc4,od4,.func (Vr "law" "law" (bQ oE) (bG oE) (aC oE) .none kV4 dc4 pm4 an4 (.ref cc4) ct4),sl4]) (c85:Sk K (.ref cc4) "law"=true)
  (k_law:Sj K (.ref f85)=true) (nP:P0≠P1)
  :∃fd:FuncData,(∀(s:Ai)(v:Value),Ui s fd #[[v],[]] [("_law_script",v)])/\(∀Pt∈[P0,P1],K.lookup Pt=none/\∃c,Ry K c Pt=true)/\∀base:Heap,K.In base->base.Ns mainGlobals mg->aBn mg base->aX l.prog w K mg base CX0 18 fa fd ["_law_script"] (aNi P0 P1 λus=>∃sc:List Int,us=[.op (aA0 K sc)]):=by
 have m:∀{n:Str}{f:Addr},GN K n f->mg n=some (.ref f):=λh=>Io X G h;have mn:∀{n:Str},W.nsIn K mainGlobals n=some none->mg n=none:=λh=>W.mg_none_of X G h;have e:=hfa.symm.trans (m a85);cases e;have T:Txt mg:=#[mn z0,mn z1,mn z2,mn z3,mn z4,mn z5,mn z6,mn z7,mn z8,mn z9,mn z10,mn z11,mn z12,mn z13,mn z14,mn z15,mn z16,mn z17,mn z18,#[_,Io X G q0],#[_,Io X G q1],#[_,Io X G q2],#[_,Io X G q3],#[_,Io X G q4],#[_,Io X G q5],#[_,Io X G q6],#[_,Io X G q7],#[_,Io X G q8],#[_,Io X G q9],#[_,Io X G q10],#[_,Io X G q11],#[_,Io X G q12],#[_,Io X G q13],#[_,Io X G q14]];let N:Cn:=#[Cnum,Ctake,Crest,Ccho,λk=>match k with|0=>Cb0|1=>Cb1|2=>Cb2|3=>Cb3|4=>Cb4];have nd:(aAq N).Nodup:=nd;have c5:∀k,CK K (N.bin k) ["one","other"]:=λk=>by
  match k with
  |0=>exact kCb0
  |1=>exact kCb1
  |2=>exact kCb2
  |3=>exact kCb3
  |4=>exact kCb4
 have cl:∀C,IsC N C->Cls K C:=λC hC=>by
  rcases hC with rfl|rfl|rfl|rfl|⟨k,rfl⟩
  ·exact kCnum.c
  ·exact kCtake.c
  ·exact kCrest.c
  ·exact kCcho.c
  ·exact(c5 k).c
 have NW:∀base:Heap,K.In base->aBn mg base->yH l.prog w K mg base 6 (·=CJ) "next_worth" ["self","spot","get"] (aGn base) λz _=>spT [(P0,[nwT.2.2.2],nwQ)] (fNW l.prog w N CG CJ pwL z):=λbase KB hB=>by
  have cal:∀{CX:CXT}{k:Nat}{f:Addr}{fd:FuncData}{n:Str}{st:Stmt}{ps:List Str}{sp:Sp},FF K n st f fd->aX l.prog w K mg base CX k f fd ps sp->Binds K fd ps []->Cal l.prog w K mg base CX k n ps sp:=λF h b=>#[_,_,h,m F.a,F.F.kp,b];have dd:=@aVu l.prog w K mg base;have c22:=cal F22 (aQn F22.F) (fb2 _ _ F22.F);have c21:=cal F21 (aQd F21.F c22) (fb3 _ _ _ F21.F);have D_bes:=dd kCG.c F64.m (fb3 _ _ _ F64.F) (aP7 F64.F kCG.fl c21 T);have D_where:=dd kCJ.c F67.m (fb3 _ _ _ F67.F) (aHm (N:=N) F67.F kCJ.fl D_bes T);have D_reads:=dd kCJ.c F68.m (fb2 _ _ F68.F) (aHl F68.F kCJ.fl D_where T);have D_deep:=dd kCJ.c F63.m (fb1 _ F63.F) (aLa F63.F #[kCJ.c,λf hf=>kCJ.na f (by rw[Bf.mp hf];exact Ag)] T);have D_frow:=dd kCJ.c F70.m (fb2 _ _ F70.F) (aLb (N:=N) (CG:=CG) F70.F kCJ.fl D_deep T);have D_pn:=dd kCG.c F66.m (fb2 _ _ F66.F) (bAo F66.F kCG.fl T);have DV:∀base:Heap,yH l.prog w K mg base 5 (IsC N) "value_by" VPs (aGn base) λz C=>spV (wX l.prog w N nwL z 4 C):=λbase=>aEe nd F72.F F73.F F74.F F75.F F76.F F77.F F78.F F79.F F80.F cl kCnum.fl kCtake.fl kCrest.fl kCcho.fl (λk=>(c5 k).fl) F72.m F73.m F74.m F75.m F76.m F77.m F78.m F79.m F80.m aP4 T (λz hz=>aQr aP4 hz) 4 ⋯;exact⟨λC hC=>by
   have hC:C=CJ:=hC;subst hC;exact#[kCJ.c,_,_,M81,λz hz=>bAn l_jnw c81 (Zo KB td_jnw) hB DV kCJ.fl D_reads (dd kCJ.c F71.m (fb3 _ _ _ F71.F) (aQx F71.F kCJ.fl D_frow D_pn aRg (aQr aRg hz) T)) T,fb3 _ _ _ (yP l_jnw c81 k_jnw)]⟩
 refine#[Vr "law" "law" (bQ oE) (bG oE) (aC oE) .none kV4 dc4 pm4 an4 (.ref cc4) ct4,λs v=> .of_eq rfl,λPt hP=>?_,λbase KB _ hB=>?_]
 ·rcases Ax.mp hP with rfl|hP
  ·exact#[tn_jnw,_,td_jnw]
  ·rw[Bf.mp hP];exact#[tn_pw,_,td_pw]
 have cal:∀{CX:CXT}{k:Nat}{f:Addr}{fd:FuncData}{n:Str}{st:Stmt}{ps:List Str}{sp:Sp},FF K n st f fd->aX l.prog w K mg base CX k f fd ps sp->Binds K fd ps []->Cal l.prog w K mg base CX k n ps sp:=λF h b=>#[_,_,h,m F.a,F.F.kp,b];have dd:=@aVu l.prog w K mg base;have D_i:lO l.prog w K mg base N 1 "inner" (jG N):=aMg nd F42.F F53.F F55.F F58.F cl kCrest.fl kCcho.fl (λk=>(c5 k).fl) F42.m (mth F42.m e4) F55.m F58.m (λk=>by
  match k with
  |0=>exact F53.m
  |1=>exact(mth F53.m e5)
  |2=>exact(mth F53.m e6)
  |3=>exact(mth F53.m e7)
  |4=>exact(mth F53.m e8))
 have D_t:=aEd (P:=l.prog) (w:=w) (base:=base) nd F43.F F50.F cl kCtake.fl (λC hC ne=>by
  rcases hC with rfl|rfl|rfl|rfl|⟨k,rfl⟩
  ·exact F43.m
  ·exact Aa2 rfl ne
  ·exact(mth F43.m e9)
  ·exact(mth F43.m e10)
  ·match k with
   |0=>exact(mth F43.m e11)
   |1=>exact(mth F43.m e12)
   |2=>exact(mth F43.m e13)
   |3=>exact(mth F43.m e14)
   |4=>exact(mth F43.m e15)) F50.m D_i T 8
 have D_d:=aEb (P:=l.prog) (w:=w) (base:=base) F44.F cl (λC hC=>by
  rcases hC with rfl|rfl|rfl|rfl|⟨k,rfl⟩
  ·exact F44.m
  ·exact(mth F44.m e16)
  ·exact(mth F44.m e17)
  ·exact(mth F44.m e18)
  ·match k with
   |0=>exact(mth F44.m e19)
   |1=>exact(mth F44.m e20)
   |2=>exact(mth F44.m e21)
   |3=>exact(mth F44.m e22)
   |4=>exact(mth F44.m e23)) D_i T 8
 have D_p:=aEc (P:=l.prog) (w:=w) (base:=base) F45.F cl (λC hC=>by
  rcases hC with rfl|rfl|rfl|rfl|⟨k,rfl⟩
  ·exact F45.m
  ·exact(mth F45.m e24)
  ·exact(mth F45.m e25)
  ·exact(mth F45.m e26)
  ·match k with
   |0=>exact(mth F45.m e27)
   |1=>exact(mth F45.m e28)
   |2=>exact(mth F45.m e29)
   |3=>exact(mth F45.m e30)
   |4=>exact(mth F45.m e31)) D_i T 8
 have c10:=cal F10 (aQv F10.F T) (fb1 _ F10.F);have c11:=cal F11 (aM8 F11.F c10) (fb3 _ _ _ F11.F);have c15:=cal F15 (aQu F15.F c11 T) (fb1 _ F15.F);have D_f:lO l.prog w K mg base N 4 "own_fault" (tL N):=aMf nd F46.F F48.F F51.F F56.F cl kCnum.fl kCtake.fl kCrest.fl c11 c15 T F48.m F51.m F56.m F46.m (λk=>by
  match k with
  |0=>exact(mth F46.m e32)
  |1=>exact(mth F46.m e33)
  |2=>exact(mth F46.m e34)
  |3=>exact(mth F46.m e35)
  |4=>exact(mth F46.m e36))
 have c17:=aOo F17.F (m F17.a) D_i D_f 8;have c16:=cal F16 (aJt F16.F D_t T) (fb1 _ F16.F);have c18:=cal F18 (aMu F18.F ⋯ c17 c16 D_t D_d D_p T) (fb1 _ F18.F);have M_Number:MkB l.prog w K mg base (N.num) "Number" ["value"]:=#[#[_,_,aQp F47.F kCnum.fl,mkO kCnum F47.m,m aCnum,(fb2 _ _ F47.F)]];have M_Take:MkB l.prog w K mg base (N.take) "Take" ["back","steps"]:=#[#[_,_,aQl F49.F kCtake.fl,mkO kCtake F49.m,m aCtake,(fb3 _ _ _ F49.F)]];have M_Rest:MkB l.prog w K mg base (N.rest) "Rest" ["one","by"]:=#[#[_,_,aQq F54.F kCrest.fl,mkO kCrest F54.m,m aCrest,(fb3 _ _ _ F54.F)]];have M_Chosen:MkB l.prog w K mg base (N.cho) "Chosen" ["test","one","other"]:=#[#[_,_,aQf F57.F kCcho.fl,mkO kCcho F57.m,m aCcho,(fb4 _ _ _ _ F57.F)]];have M_Added:MkB l.prog w K mg base (N.bin 0) "Added" ["one","other"]:=#[#[_,_,tW F52.F kCb0.fl,mkO kCb0 F52.m,m aCb0,(fb3 _ _ _ F52.F)]];have M_Lessened:MkB l.prog w K mg base (N.bin 1) "Lessened" ["one","other"]:=#[#[_,_,tW F52.F kCb1.fl,mkO kCb1 (mth F52.m e0),m aCb1,(fb3 _ _ _ F52.F)]];have M_Multiplied:MkB l.prog w K mg base (N.bin 2) "Multiplied" ["one","other"]:=#[#[_,_,tW F52.F kCb2.fl,mkO kCb2 (mth F52.m e1),m aCb2,(fb3 _ _ _ F52.F)]];have M_Least:MkB l.prog w K mg base (N.bin 3) "Least" ["one","other"]:=#[#[_,_,tW F52.F kCb3.fl,mkO kCb3 (mth F52.m e2),m aCb3,(fb3 _ _ _ F52.F)]];have M_Most:MkB l.prog w K mg base (N.bin 4) "Most" ["one","other"]:=#[#[_,_,tW F52.F kCb4.fl,mkO kCb4 (mth F52.m e3),m aCb4,(fb3 _ _ _ F52.F)]];have c12:=cal F12 (aQh F12.F c11 T) (fb1 _ F12.F);have c13:=cal F13 (aTh F13.F) (fb1 _ F13.F);have c14:=cal F14 (aQe F14.F c11 c12 T) (fb2 _ _ F14.F);have c19:=cal F19 (aQi F19.F c11 T) (fb3 _ _ _ F19.F);have c20:=cal F20 (aJs F20.F c19 T) (fb4 _ _ _ _ F20.F);have D_lines:=dd kCG.c F60.m (fb1 _ F60.F) (aQm F60.F kCG.fl T);have D_many:=dd kCG.c F61.m (fb1 _ F61.F) (aTe F61.F kCG.fl c13);have D_deep:=dd kCJ.c F63.m (fb1 _ F63.F) (aLa F63.F #[kCJ.c,λf hf=>kCJ.na f (by rw[Bf.mp hf];exact Ag)] T);have M_Grid:MkU l.prog w K mg base 5 CG "Grid" ["self","sizes","rims"] aJa:=#[#[_,_,aQg F59.F kCG.fl c14 c13 T,mkO kCG F59.m,m aCG,(fb3 _ _ _ F59.F)]];have M_Job:MkU l.prog w K mg base 14 CJ "Job" ["self","grid","term","modulus","rounds","first"] (aJb N CG):=#[#[_,_,aQj F62.F kCJ.fl c18 c16 c11 c20 D_t D_lines D_many D_deep T,mkO kCJ F62.m,m aCJ,(fb6 _ _ _ _ _ _ F62.F)]];have c22:=cal F22 (aQn F22.F) (fb2 _ _ F22.F);have c21:=cal F21 (aQd F21.F c22) (fb3 _ _ _ F21.F);have D_bes:=dd kCG.c F64.m (fb3 _ _ _ F64.F) (aP7 F64.F kCG.fl c21 T);have D_where:=dd kCJ.c F67.m (fb3 _ _ _ F67.F) (aHm (N:=N) F67.F kCJ.fl D_bes T);have D_reads:=dd kCJ.c F68.m (fb2 _ _ F68.F) (aHl F68.F kCJ.fl D_where T);have c23:=cal F23 (aTn F23.F T) (fb2 _ _ F23.F);have D_allp:=dd kCG.c F65.m (fb1 _ F65.F) (aS6 F65.F kCG.fl c23 T);have D_alls:=dd kCJ.c F69.m (fb1 _ F69.F) (aS7 (N:=N) F69.F kCJ.fl D_allp T);have c24:=cal F24 (aS8 F24.F T) (fb2 _ _ F24.F);have c25:=cal F25 (aTm F25.F c24 T) (fb2 _ _ F25.F);have c26:=cal F26 (aTa F26.F) (fb2 _ _ F26.F);have c27:=cal F27 (aQs F27.F c26 T) (fb1 _ F27.F);have c28:=cal F28 (aTi F28.F c26 T) (fb1 _ F28.F);have c29:=cal F29 (aM3 F29.F c26 T) (fb2 _ _ F29.F);have c30:=cal F30 (aQt F30.F c26 c29 T) (fb2 _ _ F30.F);have c31:=cal F31 (aTf F31.F c26 T) (fb1 _ F31.F);have c32:=aGx F32.F (m F32.a) c26 c31 T 4;have c33:=aGw (N:=N) F33.F (m F33.a) M_Number M_Take M_Rest M_Chosen M_Added M_Lessened M_Multiplied M_Least M_Most T 4;have c34:=aD9 (P:=l.prog) (w:=w) (base:=base) F34.F (m F34.a) T 4;have c40:=aGy (P:=l.prog) (w:=w) (base:=base) F40.F (m F40.a) T 4;have c35:=cal F35 (aTb F35.F c26 c27 c28 c30 c32 c34 T) (fb1 _ F35.F);have c36:=cal F36 (aQk F36.F M_Grid M_Job c33 T) (fb1 _ F36.F);have c37:=cal F37 (aM0 F37.F T) (fb1 _ F37.F);have c38:=cal F38 (aQo F38.F T) (fb4 _ _ _ _ F38.F);have c39:=cal F39 (aP5 F39.F T) (fb3 _ _ _ F39.F);have c41:=cal F41 (aQw F41.F c37 c36 T) (fb3 _ _ _ F41.F);have D_frow:=dd kCJ.c F70.m (fb2 _ _ F70.F) (aLb (N:=N) (CG:=CG) F70.F kCJ.fl D_deep T);have c_plain_worths:Cal l.prog w K mg base CX0 7 "plain_worths" ["job"] (spT [(P0,[nwT.2.2.2],nwQ),(P1,[pwT.2.2.2],pwQ)] (fPW l.prog w N CG CJ)):=#[_,_,bAq l_pw c82 (Zo KB td_pw) hB D_alls kCJ.fl (λbase' hb=>NW base' (KB.keeps hb) (let⟨bm,ob,b1,b2,b3,r⟩:=hB;#[bm,ob,b1,b2,hb _ _ b3,r])) T,m a82,k_pw,fb1 _ (yP l_pw c82 k_pw)];have c_plain_round:Cal l.prog w K mg base CX0 8 "plain_round" ["job","round_at"] (spT [(P0,[nwT.2.2.2],nwQ),(P1,[pwT.2.2.2],pwQ)] (fPR N CG CJ)):=#[_,_,bAp l_pr c83 D_allp D_frow D_deep kCJ.fl c11 c_plain_worths T,m a83,k_pr,fb2 _ _ (yP l_pr c83 k_pr)];have c__law_agree:Cal l.prog w K mg base CX0 9 "_law_agree" ["_law_job_here","_law_other","_law_world","_law_new_of"] (spT [(P0,[nwT.2.2.2],nwQ),(P1,[pwT.2.2.2],pwQ)] (aFp l.prog w N CG CJ)):=#[_,_,aP6 l_ag c84 D_deep c37 c_plain_worths c_plain_round T,m a84,k_ag,fb4 _ _ _ _ (yP l_ag c84 k_ag)];exact aXh nP l_law c85 c25 c26 c35 c36 c37 c38 c39 c40 c41 c__law_agree T
def aZd{l:W.OpenLaw}{q:Aj}{d:DefRec}{K:Params->W.Frag}{P0 P1:Addr}(hn:l.most=some 63)(hdf:d.params.defaults=[])
  (hY:∀(w:Bd)(h:Heap),YP w h->(K w.params).In h) (hT:∀(w:Bd)(h:Heap),YP w h->∀P∈[P0,P1],h.get? P=some (W.tabObj (List.toArray [])))
  (F:∀(w:Bd)(mg:Str->#v[9])(fa:Addr)(h:Heap),(K w.params).In h->h.Ns mainGlobals mg->mg d.name=some (.ref fa)->
   ∃fd:FuncData,(∀(s:Ai)(u:Value),Ui s fd #[[u],[]] [("_law_script",u)])/\(∀Pt∈[P0,P1],(K w.params).lookup Pt=none/\∃c,Ry (K w.params) c Pt=true)/\∀base:Heap,(K w.params).In base->base.Ns mainGlobals mg->aBn mg base->aX l.prog w (K w.params) mg base CX0 18 fa fd ["_law_script"] (aNi P0 P1 λus=>∃sc:List Int,us=[.op (aA0 (K w.params) sc)])):
  W.WalkO q loose XP YP l.row.toRowW d [] (λf vs=>Tz f vs):=
 L2.aNv (n:=63) (k:=18) (x:="_law_script") (CX:=CX0) (sp:=λK=>aNi P0 P1 λus=>∃sc:List Int,us=[.op (aA0 K sc)]) hn ⋯ hdf #[rfl,⋯,⋯] hY hT F (λK H a ns _ hP hS=>aS4 hP hS) λ_ _ _ _ z=>z
end Q
structure PySem.W.Fast:Prop where
 (tw13114559224503387460 tw7171336779337915072 tw8006533705823613241 tw15989277772158880326 tw4284306120023878249 tw15635703043497585124 tw8534613661054718497 tw12184488487538998186 tw3046793267509297101 tw12532907309175407695 tw11378229630945333131 tw14302690558947108446 tw15105483814068694464 tw12188118114080715340 tw6504707388732494562 tw5893625909082275593 tw16079712639552232666 tw8777533135825644829 tw1379243677093990098 tw7735999383432681185 tw17653664918011591972 tw5535059518142705753 tw13680427663760153988 tw16579734320572806264 tw16559598382455866136 tw6947773735358706018 tw6914007792654861230 tw12101632696667733018 tw10790762708468530248 tw6462259041974998705 tw9783113819721198999 tw7306575245853592626 tw2021328127881672897 tw16380429511067999730 tw7645816694408153924 tw16781846216586653336 tw17072796088058945595 tw5346799228689298232 tw13090724856785140433 tw2161901566146469043 tw4502961049920329635 tw15315235179946128788 tw16794475418305286101 tw16927502195794548797 tw15412773533476317649 tw16093104986120870804 tw14894295655262326142 tw18430649021902138277 tw18219004812257022818 tw18071510820045134707 tw11216822692645583293 tw2691879227363415480 tw3305273472650632677 tw4504801781017121530 tw18425609192902721218 tw1333994068075198405 tw7121871079369819251 tw590537609565800408 tw10742947105337875769 tw15153511377338251067 tw15305821487755755281 tw10040978772451343279 tw4582599698362993547 tw16535210730125110446 tw9897340293708253957 tw18028938925340879442 tw18048009961124997371 tw4642754695966305467 tw2725839630362596032 tw15201602226598745620 tw3167703977071470234 tw14365544907940503725 tw5538216818403173284 tw2303541544462429773 tw14305757077606245723 tw17023395466458397843 tw7582275844239790001 tw2421271128182806270 tw12122628669984539340 tw1498544266658487816 tw17576513507575796340 tw18097263197973486725 tw16584049836076069687 tw5138368256222716270 tw10283888043649284892 tw18364677099308455140 tw8962078953483400861 tw14755987377789761771 tw9072368321985346905 tw242915364229622780 tw2244351000743442450 tw18255843462143260233 tw14564878116422057632 tw7966796386375080172 tw13024686567474273923 tw13478958179296772983 tw5726016897056022084 tw8104096431132021199 tw7283494160307799350 tw11433037927579099945 tw14476243072339103776 tw6367852998489412640 tw16296040923469514663 tw12321737366073409566 tw15854954382576692155 tw6343613051223864453 tw8675953722515517099 tw10048539465233081061 tw11557582805043102249 tw4684075350036483616 tw1726100381121230854 tw3648410880878208632 tw489546949352948641 tw6690747861266539775 tw13158824188942695889 tw16925700250382591413 tw16123300100022225210 tw6711010716382774418 tw11167213652191711248 tw7707942968481891209 tw12623809534122173920 tw12138016766307805429 tw17197568157236667118 tw10619063704063281322 tw7389553252038357158 tw236487722417209467 tw5514011995989714374 tw9789812098018524478 tw13404089294922445853 tw17085663752238076896 tw10009386950585270654 tw14892985481609961041 tw3319364954844523489 tw10390584728616737313 tw7285007193915914818 tw4812194304810904313 tw13271174338875532275 tw17576582724115485267 tw17860702542804728255 tw4196837252774968512 tw15756767004509956266 tw4341706240420561346 tw8855354186035362070 tw6351075315965175915 tw3342287612815891465 tw11788023438467636807 tw6624492041622609502 tw1432150516174022510 tw18143630274576873800 tw11137861493999205768 tw5560826479563857503 tw1949386002422681600 tw6345857594986254478 tw10772335561946449321 tw1050698843472023376 tw5481044595188926441 tw3046781835121053080 tw3425404706855183495 tw8690930471186891131 tw15823683866624446375 tw12037862266564747009 tw974422535422690081 tw17224502860965893366 tw16066966305137704977 tw15240564050311729464 tw7297509805383183669 tw15844462540256784190 tw9043288461414382600 tw17286905090135002021 tw10330675301476897126 tw1597114043391144695 tw12643760743772128138 tw9747807554110475485 tw6909030140392210671 tw13622392560908367832 tw5587915683801589606 tw7589052702864443766 tw672726410366122145 tw10020180668309557709 tw11101172324459264961 tw6343225298951261109 tw12704860212221464443 tw3771203095116378940 tw9430319822017412580 tw12985414677240865583 tw11743642971218717773 tw6881855033995820772 tw6856045778725919709 tw9896921071975125521 tw765634770871014280 tw14813083745503971663 tw5993573334131485356 tw5167999672342098651 tw3752780498658686740 tw17346495687434268538 tw17136267947740276110 tw5293764829787200981 tw10311628723608159526 tw8058702846615437682 tw13039292759558474291 tw14340460689494667498 tw18273918419916992824 tw696697247245735387 tw5074034009232155154 tw12678123524921350551 tw9401563621103938523 tw12090462849063748666 tw13127475843625757669 tw15910008173823817816 tw7757625419801978371 tw16760637342345147938 tw376292564025776051 tw17897983783544161453 tw14234226912677454479 tw17064873058585709676 tw14359640982617302563 tw14555425102684020404 tw10930984104227958402 tw12884586975207499374 tw898592745670499932 tw2905150259837455815 tw6445573929219363699 tw6116249376735513618 tw3757333666404187403 tw10725108866223278051 tw16611023696011981232 tw12775134739676750091 tw984482937179171865 tw9547702255824195135 tw9678791937359259975 tw8909217303467308652 tw4948693238663310315 tw18214448065034244428 tw11095011604855217757 tw4626473609459462836 tw5410896201746609187 tw10353405570112061849 tw1112816469201073309 tw7942016097940989178 tw10234053214308038234 tw3461587968052413267 tw1358519953554722435 tw16636356755392520332 tw16140560219439761548 tw17514780575932324573 tw6666334155095533758 tw18101808414114180229 tw17075443432974192692 tw14374782903634024724 tw4609094121321378562 tw3158473017497294557 tw4249441140485213127 tw1684915621452071423 tw12854984214479957010 tw6670015096337005028 tw17090933751693517932 tw6506866404417315090 tw8238361165744513848 tw10725788357307693970 tw16028032895195293170 tw1623682635879116002 tw11550443232155363160 tw12404223699171648548 tw14611553218397157112 tw6668313667868530038 tw6953859513559427987 tw1841636249290696228 tw14213556832854650157 tw16939738298296218373 tw10510019289388559430 tw18008806844377874375 tw16093163171644128587 tw14432617618182363866 tw17258788616721796702 tw15743046676608050093 tw7842119981758542602 tw7506101174933902308 tw12998809568712828419 tw6468376820517836490 tw13421322156608161325 tw3039668708958623267 tw16462128666725072078 tw4366072690675092474 tw2261222899457738525 tw15692187290212086853 tw10887888341499586058 tw1508554513890550258 tw5672497366568294270 tw15915119875191077368 tw11360638701594735413 tw18110695480616886035 tw17256875869027489281 tw13413438037353726787 tw12769722317848339656 tw10088210632135781312 tw16974326280428248941 tw7952023944538173722 tw5729299496582204555 tw13413595081810559866 tw13232165979189929819 tw12807432199361509777 tw18117702301954987474 tw14026902294141145816 tw15748563484633601990 tw15683844472621471856 tw5443784493520037311 tw15776197154731006523 tw15553652345616648437 tw14314740401267342043 tw13493977633462306179 tw18192920803219847968 tw14447532998085317330 tw12701326444772352153 tw11192711830244849354 tw13801873411596335468 tw18343888615093995814 tw5219200101656917778 tw2566181754559225233 tw14544539804840271297 tw9934752999564235344 tw1752671290135141596 tw17145007911938940846 tw13003365452060844314 tw8157008892936268666 tw5723155543252670703 tw9642556555825907947 tw5962694940199996624 tw5331484491174461835 tw8316723635659235815 tw3650460256877607192 tw15914856407800367490 tw14184988279522605092 tw11072146344716865532 tw8635420557046389714 tw17742194346567572472 tw12527134406978299291 tw17223642871224318500 tw16893086381277561748 tw7514350902199455929 tw3835868472366561250 tw2885723193313254645 tw739120787169423301 tw7227886835637155558 tw14718663546367668477 tw11895993550294797020 tw11490223624611181778 tw3278507887118306908 tw9672042582776620326 tw12140691445660250060 tw14305467107316918632 tw11466706033427866373 tw8036742328345737809 tw17719695914087643446 tw1973924750491442141 tw3269124317498588830 tw16201548611539457625 tw915875011222519051 tw985384389421411479 tw1200515046661014640 tw15445595086633653700 tw2159141968402599573 tw5387630151280190751 tw17400643014213670716 tw1162757855294980212 tw11329872855638752276 tw6578528795764447019 tw4105609337564691573 tw13796481367413027206 tw10532284612040028557 tw7517912158236692955 tw3976452596355847860 tw2548595118240093059 tw11098851057542398154 tw11475141036460592118 tw14808508916992180257 tw9520097730662445482 tw899308131932683679 tw1571082145703655792 tw92239173976587448 tw69927999833363755 tw4762847466451685033 tw16897418799449595854 tw14212128209554909355 tw17993287263586027140 tw5223030642523063395 tw3821011852472359183 tw7811769109848741921 tw16322488396453055987 tw13876139425600825174 tw4400850703505786852 tw13690208235015303366 tw6275674234224844196 tw18066159929964423556 tw16713482377269303919 tw4548278987464372281 tw14501218213510811930 tw1655189137646088314 tw12697187580120851756 tw16416648915882271152 tw11006415931146574905 tw10439460486010574924 tw11055801593129591189 tw17904118090520467570 tw1325869693064308824 tw8853317292294103270 tw16400489144538133079 tw14576080631505538912 tw10931996760435556530 tw3609398736310347718 tw2489486311402237651 tw11761179382229519592 tw6870937370807652761 tw18255380750240221829 tw5252246823324923226 tw11938448126792458316 tw7201945852642633072 tw6507010306046026361 tw5580791359201642630 tw5344867046581412400 tw17767916148391538173 tw12145135870634320633 tw15481534565884899062 tw18129408973893672411 tw17630737236134584322 tw16478438214335958507 tw857405268801409402 tw6538174933720443517 tw2320831228041490857 tw16066643248670279702 tw14614399611209989372 tw10113596267597078680 tw16138572404123446962 tw8318272223680567990 tw17275249130321458387 tw9978112312332504039 tw13482467763510760645 tw6045318401492117245 tw14726202914151218395 tw3382698404900651950 tw16880715866813038248 tw10349286473490994692 tw17009511111547332180 tw9040225775010219486 tw12118562836262338104 tw4967602134437514390 tw8895861564070920185 tw13398233941206983882 tw3839765558305548465 tw17499362812467070672 tw9159997256682794540 tw8780876578492736774 tw15752901953595251450 tw2354806202232410666 tw8531751935743289095 tw8331224915023012644 tw11967722518713646638 tw5982266388431127633 tw48974788858864164 tw16086369615743366047 tw184011043533815887 tw18338424037584009809 tw3177124222208282037 tw7219623956413202941 tw4110131147656797016 tw11976752987474908885 tw5302820504067262317 tw4446929834607046464 tw14280798943315837293 tw13603057761278874699 tw13134193946421074966 tw1313100025024953443 tw12252422227788405290 tw10963870377311345490 tw8264301312113479706 tw7744948880775935703 tw5934306976444678060 tw3267513241289786307 tw2766541427623575212 tw16167888506204212418 tw15746512763419923579 tw14145119097254727296 tw11857377250827741260 tw10924569970844681892 tw9629248239621336995 tw17032118041941325708 tw14957909703189688091 tw2280160225627785746 tw7704842890036317874 tw15973268239317583853 tw15947602782280980674 tw12908843537193091423 tw13381122092717266887:True)
theorem Q.sw {α : Type} {a b P : α} (h : P ∈ [a, b]) : P ∈ [b, a] := by simp only [List.mem_cons, List.not_mem_nil, or_false] at h ⊢; exact h.symm
open PySem PySem.W PyProof.Rows
set_option maxRecDepth 100000 in
set_option maxHeartbeats 0 in
theorem PySem.Challenge.cw_slanttiles_k26_whole_turned_about_holds : PySem.Challenge.rw_slanttiles_k26_whole_turned_about.Holds := by
  w_on; o_law; k_head; (case hw => w_witness2)
  k_fill
  refine Q.aZd (l := PySem.Challenge.rw_slanttiles_k26_whole_turned_about) rfl rfl (fun w h Y => PySem.W.km_in_of Y) (fun w h Y P hP => PySem.W.km_tabs_of Y P (Q.sw hP)) ?F
  case F =>
    intro w mg fa h KY G hmg
    apply Q.aWs KY G hmg
    case aCnum | aCtake | aCrest | aCcho | aCb0 | aCb1 | aCb2 | aCb3 | aCb4 | aCG | aCJ | e0 | e1 | e2 | e3 | e4 | e5 | e6 | e7 | e8 | e9 | e10 | e11 | e12 | e13 | e14 | e15 | e16 | e17 | e18 | e19 | e20 | e21 | e22 | e23 | e24 | e25 | e26 | e27 | e28 | e29 | e30 | e31 | e32 | e33 | e34 | e35 | e36 | z0 | z1 | z2 | z3 | z4 | z5 | z6 | z7 | z8 | z9 | z10 | z11 | z12 | z13 | z14 | z15 | z16 | z17 | z18 | q0 | q1 | q2 | q3 | q4 | q5 | q6 | q7 | q8 | q9 | q10 | q11 | q12 | q13 | q14 | a82 | a83 | a84 | a85 => change _ = _; k_is
    case F42 | F43 | F44 | F45 | F46 | F47 | F48 | F49 | F50 | F51 | F52 | F53 | F54 | F55 | F56 | F57 | F58 | F59 | F60 | F61 | F62 | F63 | F64 | F65 | F66 | F67 | F68 | F69 | F70 | F71 | F72 | F73 | F74 | F75 | F76 | F77 | F78 | F79 | F80 => exact ⟨⟨by k_is, by k_is, by k_is⟩, L2.yP (by k_is) (by k_is) (by k_is)⟩
    case kCnum => exact ⟨⟨by k_is, by k_is, by k_is, by k_is⟩, Q.naS (by k_is) Q.na0, by k_is, by k_is⟩
    case kCtake | kCrest | kCb0 | kCb1 | kCb2 | kCb3 | kCb4 | kCG => exact ⟨⟨by k_is, by k_is, by k_is, by k_is⟩, Q.naS (by k_is) (Q.naS (by k_is) Q.na0), by k_is, by k_is⟩
    case kCcho => exact ⟨⟨by k_is, by k_is, by k_is, by k_is⟩, Q.naS (by k_is) (Q.naS (by k_is) (Q.naS (by k_is) Q.na0)), by k_is, by k_is⟩
    case kCJ => exact ⟨⟨by k_is, by k_is, by k_is, by k_is⟩, Q.naS (by k_is) (Q.naS (by k_is) (Q.naS (by k_is) (Q.naS (by k_is) (Q.naS (by k_is) (Q.naS (by k_is) Q.na0))))), by k_is, by k_is⟩
    case nd | nP => decide
    case M81 => exact ⟨by k_is, by k_is, by k_is⟩
    case l_jnw | c81 | k_jnw | l_pw | c82 | k_pw | l_pr | c83 | k_pr | l_ag | c84 | k_ag | l_law | c85 | k_law => k_is
    case td_jnw | tn_jnw | td_pw | tn_pw => kernel_rfl
    case F10 | F11 | F12 | F13 | F14 | F15 | F16 | F17 | F18 | F19 | F20 | F21 | F22 | F23 | F24 | F25 | F26 | F27 | F28 | F29 | F30 | F31 | F32 | F33 | F34 | F35 | F36 | F37 | F38 | F39 | F40 | F41 => exact ⟨by change _ = _; k_is, L2.yP (by k_is) (by k_is) (by k_is)⟩


